import PyProof.Rows.All
import Wide.All
import OpenK.AllK
import Wide.FinOn
import HandS.ForMost
import HandS.Evl
import HandS.Property
import HandS.Star
import HandS.ClsMeth
import HandS.Defaults
import HandS.MakeKwOnly
import HandS.FStr
import HandS.Conv
import HandS.Gcd
import HandS.IsInst
import HandS.Wide
import PyProof.ReprRoads
import PyProof.ListNew
import PyProof.ListRange
import HandS.Style
import HandS.OwnEq
import HandS.More
import KE.KMathGC
import HandS.Exc
import HandS.ExcInit
import HandS.ExcField
import HandS.Sort
import HandS.ExcOwn
import HandS.WordsExc
import HandS.TupAny
import HandS.Lambda
import KE.KRevSl
import HandS.TupSets
import HandS.SetTxt0
import KE.KDictCopyH
import KE.SortData
import HandS.Iter
import HandS.Walk
import PyProof.ListStr
import HandS.Deep
import HandS.EndTab
import KE.KNest
import HandS.Ends
import PySem.Challenge.RW_leadrules_k25_whole_ways_of_sayings
set_option Elab.async false
set_option linter.all false
set_option maxRecDepth 100000
section
set_option maxHeartbeats 2000000
namespace G
open PySem PySem.Spec PyProof.Rows L2

/-! ### a def's promise where no repr is running around it -/
structure FnG (P : Program) (w : World) (K : PySem.W.Frag) (mg : Str → Option Value) (base : Heap) (CX : CXT) (k : Nat) (f : Addr) (fd : FuncData) (ps : List Str) (sp : Sp) : Prop where
  len : ∀ vs H Q E, sp vs H Q E → vs.length = ps.length
  run : ∀ (A : Around) (outer : List Env) (s : Shared) (H : Hp) (args : Args) (us : List Value) (vs : List V) (Q : VK) (E : XK), A.guards = some [] → Room k A → Env0 P w K mg base A outer s H → BindsTo s fd args (ps.zip us) → Vals vs us → sp vs H Q E →
    codeAny (model P w) A (.call (.ref f) args) (CR CX outer P w H s Q E) s



section
variable {X : Cx} {CX : CXT} {k n : Nat} {f C : Addr} {fd : FuncData} {ps ks : List Str} {sp : Sp} {dvs : List V} {ds : List Value} {E : XK} {x m : Str} {p pos apos : Pos} {e o : Expr} {es : List Expr} {kws : List Keyword} {ta : TE} {t tk : TA} {g : List Value → List Value → List Value} {gV : List V → List V → List V}
/-- o.m(k = v, ..) -/
noncomputable def tMethN (C : Addr) (m : Str) (n j : Nat) (sp : Sp) (gV : List V → List V → List V) (E : XK) (ta : TE) (t tk : TA) : TE := fun σ H Q => ta σ H fun x H1 => ∃ a dx fs, x = .ref a ∧ H1 a = some (.ins C dx fs) ∧ fs.lookup m = none ∧
  t σ H1 fun vs H2 => tk σ H2 fun zs H3 => vs.length = n ∧ zs.length = j ∧ sp (gV (x :: vs) zs) H3 Q E
end

/-! ### repr of data; repr of an own instance; {x} of data -/
mutual
theorem dp_nodict {K : PySem.W.Frag} {H : Hp} : ∀ {d : PyData} {v : V}, Dp K H v d → d.hasDict = false
  | .none, _, _ => by simp [PyData.hasDict]
  | .bool _, _, _ => by simp [PyData.hasDict]
  | .int _, _, _ => by simp [PyData.hasDict]
  | .str _, _, _ => by simp [PyData.hasDict]
  | .list ds, _, h => by
    cases h with
    | lst _ ha => simpa [PyData.hasDict] using dp_nodictAll ha
  | .tuple ds, _, h => by
    cases h with
    | tup _ ha => simpa [PyData.hasDict] using dp_nodictAll ha
  | .dict _, _, h => by cases h
theorem dp_nodictAll {K : PySem.W.Frag} {H : Hp} : ∀ {ds : List PyData} {vs : List V}, DpAll K H vs ds → PyData.hasDictAll ds = false
  | [], _, _ => by simp [PyData.hasDictAll]
  | d :: ds, _, h => by
    cases h with
    | cons h1 h2 => simp [PyData.hasDictAll, dp_nodict h1, dp_nodictAll h2]
end
noncomputable def rRepr (K : PySem.W.Frag) : List V → Hp → VK → Prop := fun xs H Q => ∃ (a : Addr) (d : PyData), xs = [.ref a] ∧ Dp K H (.ref a) d ∧ d.showable = true ∧ d.depth ≤ 60 ∧ d.shown.length ≤ sizeLine ∧ Q (.str d.shown) H
end G
end
section
set_option maxHeartbeats 2000000
namespace G
open PySem PySem.Spec PyProof.Rows L2
section
variable {X : Cx} {CX : CXT} {k : Nat} {f C : Addr} {fd : FuncData} {ps : List Str} {sp : Sp} {E : XK}
noncomputable def rReprO (C : Addr) (sp : Sp) (E : XK) : List V → Hp → VK → Prop := fun xs H Q => ∃ (a dx : Addr) (fs : List (Str × V)), xs = [.ref a] ∧ H a = some (.ins C dx fs) ∧ sp [.ref a] H (fun v H' => (∃ y, v = .str y) ∧ Q v H') E

/-- {x} of data, as a text -/
noncomputable def tFmtD (K : PySem.W.Frag) (te : TE) : TE := fun σ H Q => te σ H fun x H1 => ∃ (a : Addr) (d : PyData), x = .ref a ∧ Dp K H1 (.ref a) d ∧ d.showable = true ∧ d.depth ≤ 60 ∧ d.shown.length ≤ sizeLine ∧ Q (.str d.shown) H1
end
end G
end
section
set_option maxHeartbeats 2000000
namespace G
open PySem PySem.Spec PyProof.Rows L2

/-! ### list(enumerate(xs)) -/
noncomputable def enObj (f0 f1 : Value) (it : Addr) (i : Int) (old : Value) : Obj := { cls := .type "enumerate", dict := none, data := .fields #[f0, f1, .ref it, rawInt i, .none, old], slots := #[] }
noncomputable def IsEn (h : Heap) (e it : Addr) (i : Int) : Prop := ∃ f0 f1 old, h.get? e = some (enObj f0 f1 it i old) ∧ (f0 = .none ∨ ∃ a : Addr, f0 = rawInt a)
section
variable {prog : Program} {w : World} {A : Around} {E : Value → Shared → Prop} {s : Shared}


end
end G
end
section
set_option maxHeartbeats 2000000
namespace G
open PySem PySem.Spec PyProof.Rows L2
namespace F
end F
section
variable {prog : Program} {w : World} {A : Around} {E : Value → Shared → Prop} {s : Shared} {R : Result → Shared → Prop}

/-- the tuples made so far -/
noncomputable def Tups (h : Heap) (acc items : Array Value) (n B : Nat) : Prop := acc.size = n ∧ ∀ j, j < n → ∃ (T : Addr) (tk : Tok) (x : Value), acc[j]? = some (.ref T) ∧ items[j]? = some x ∧ B ≤ T ∧ h.get? T = some { cls := .type "tuple", data := .seq #[.int j tk, x] }


end
end G
end
section
set_option maxHeartbeats 2000000
namespace G
open PySem PySem.Spec PyProof.Rows L2
section
variable {prog : Program} {w : World} {A : Around} {E : Value → Shared → Prop} {s : Shared}
end

open Classical in
/-- what is new: the list at S, a pair for each item -/
noncomputable def enH (H : Hp) (S : Addr) (acc : List Addr) (xs : List V) : Hp := fun b =>
  if b = S then some (.lst (acc.map V.ref)) else if h : ∃ (j : Nat) (x : V), acc[j]? = some b ∧ xs[j]? = some x then some (.tup [.int ((Classical.choose h : Nat) : Int), Classical.choose (Classical.choose_spec h)]) else H b

section
variable {X : Cx}
noncomputable def tListEn (K : PySem.W.Frag) (te : TE) : TE := fun σ H Q => te σ H fun x H1 => ∃ (a : Addr) (xs : List V), x = .ref a ∧ SqL K H1 a xs ∧
  ∀ (l : Addr) (ts : List Addr) (H2 : Hp), H1 l = none → Evl.Ex H1 H2 → H2 l = some (.lst (ts.map V.ref)) → ts.length = xs.length → (∀ (j : Nat) (T : Addr) (x : V), ts[j]? = some T → xs[j]? = some x → H2 T = some (.tup [.int (j : Int), x])) → Q (.ref l) H2
end
end G
end
section
set_option maxHeartbeats 2000000
namespace G
open PySem L2 Evl

/-! ### data at any depth -/
mutual
theorem dp_mono {K : PySem.W.Frag} {H H' : Hp} (e : Ex H H') : ∀ {d : PyData} {v : V}, Dp K H v d → Dp K H' v d
  | .none, _, h => by cases h; exact .non
  | .bool _, _, h => by cases h; exact .bl _
  | .int _, _, h => by cases h; exact .int _
  | .str _, _, h => by cases h; exact .str _
  | .list ds, _, h => by
    cases h with
    | lst hs ha => exact .lst (ex_l e hs) (dp_monoAll e ha)
  | .tuple ds, _, h => by
    cases h with
    | tup hs ha => exact .tup (ex_t e hs) (dp_monoAll e ha)
  | .dict _, _, h => by cases h
theorem dp_monoAll {K : PySem.W.Frag} {H H' : Hp} (e : Ex H H') : ∀ {ds : List PyData} {vs : List V}, DpAll K H vs ds → DpAll K H' vs ds
  | [], _, h => by cases h; exact .nil
  | d :: ds, _, h => by
    cases h with
    | cons h1 h2 => exact .cons (dp_mono e h1) (dp_monoAll e h2)
end
noncomputable def dInts (ns : List Int) : PyData := .list (ns.map PyData.int)
theorem dp_len {K : PySem.W.Frag} {H : Hp} : ∀ {ds : List PyData} {vs : List V}, DpAll K H vs ds → vs.length = ds.length
  | _, _, .nil => rfl
  | _, _, .cons _ h => by simp [dp_len h]

/-! ### what evaluates to data -/
variable {K : PySem.W.Frag} {σ : L2.St} {H H' : Hp} {ta tb te tx : TE} {tt : TT} {x y z v : V} {d : PyData} {ds : List PyData} {p C dx : Addr} {fs : List (Str × V)} {f m : Str} {sp : Sp} {dvs vs : List V} {E : XK} {tA tr tk : TA}
noncomputable def EvD (K : PySem.W.Frag) (te : TE) (σ : L2.St) (H : Hp) (d : PyData) : Prop := ∀ H1, Ex H H1 → ∀ Q : VK, (∀ v H2, Ex H1 H2 → Dp K H2 v d → Q v H2) → te σ H1 Q
noncomputable def EvAD (K : PySem.W.Frag) (ta : TA) (σ : L2.St) (H : Hp) (ds : List PyData) : Prop := ∀ H1, Ex H H1 → ∀ Q : List V → Hp → Prop, (∀ vs H2, Ex H1 H2 → DpAll K H2 vs ds → Q vs H2) → ta σ H1 Q
theorem evd_v (h : Ev te σ H v) (hd : ∀ H1, Ex H H1 → Dp K H1 v d) : EvD K te σ H d := fun H1 e Q q => h H1 e Q fun H2 e2 => q v H2 e2 (hd H2 (e.trans e2))
theorem evd_int {i : Int} (h : Ev te σ H (.int i)) : EvD K te σ H (.int i) := evd_v h fun _ _ => .int i
theorem evd_ref (h : Ev te σ H v) (hd : Dp K H v d) : EvD K te σ H d := evd_v h fun _ e => dp_mono e hd
theorem evad_nil : EvAD K tNil σ H [] := fun H1 _ _ q => q [] H1 (Ex.refl H1) .nil
theorem evad_cons (h : EvD K ta σ H d) (hr : EvAD K tr σ H ds) : EvAD K (tCons ta tr) σ H (d :: ds) := fun H1 e Q q =>
  h H1 e _ fun v H2 e2 hv => hr H2 (e.trans e2) _ fun vs H3 e3 hvs => q _ H3 (e2.trans e3) (.cons (dp_mono e3 hv) hvs)
theorem evd_tup (h : EvAD K tA σ H ds) (hl : ds.length ≤ 100000) : EvD K (tTup tA) σ H (.tuple ds) := fun H1 e Q q =>
  h H1 e _ fun vs H2 e2 hv => ⟨sz_of (by rw [dp_len hv]; exact hl), fun p hp => q _ _ (e2.trans (Ex.new hp)) (.tup (st_of upd_same) (dp_monoAll (Ex.new hp) hv))⟩
theorem dp_app {Hx : Hp} : ∀ {as bs : List V} {cs es : List PyData}, DpAll K Hx as cs → DpAll K Hx bs es → DpAll K Hx (as ++ bs) (cs ++ es)
  | _, _, _, _, .nil, h2 => h2
  | _, _, _, _, .cons q1 q2, h2 => .cons q1 (dp_app q2 h2)
theorem dp_repl {Hx : Hp} {as : List V} {cs : List PyData} (h : DpAll K Hx as cs) : ∀ k : Nat, DpAll K Hx (List.replicate k as).flatten (List.replicate k cs).flatten
  | 0 => .nil
  | k + 1 => by
    rw [List.replicate_succ, List.replicate_succ, List.flatten_cons, List.flatten_cons]
    exact dp_app h (dp_repl h k)

/-! ### fields, methods, properties -/
theorem ev_fld {tv : V} (h : Ev ta σ H (.ref p)) (ho : H p = some (.ins C dx fs)) (hc : Cls K C) (hn : NoAttr K C f) (hl : fs.lookup f = some tv) : Ev (tFld K ta f) σ H tv := fun H1 e Q q =>
  h H1 e _ fun H2 e2 => ⟨p, C, dx, fs, tv, rfl, (e.trans e2) p _ ho, hc, hn, hl, q H2 e2⟩
theorem ev_prop (h : Ev ta σ H (.ref p)) (ho : H p = some (.ins C dx fs)) (hs : SpV sp (.ref p :: dvs) H z) : Ev (tProp C sp dvs E ta) σ H z := fun H1 e Q q =>
  h H1 e _ fun H2 e2 => ⟨p, dx, fs, rfl, (e.trans e2) p _ ho, hs H2 (e.trans e2) Q (fun H3 e3 => q H3 (e2.trans e3)) E⟩
theorem ev_meth (h : Ev ta σ H (.ref p)) (ho : H p = some (.ins C dx fs)) (hl : fs.lookup m = none) (ha : EvA tA σ H vs) (hs : SpV sp (.ref p :: (vs ++ dvs)) H z) : Ev (tMeth C m sp dvs E ta tA) σ H z := fun H1 e Q q =>
  h H1 e _ fun H2 e2 => ⟨p, dx, fs, rfl, (e.trans e2) p _ ho, hl, ha H2 (e.trans e2) _ fun H3 e3 => hs H3 ((e.trans e2).trans e3) Q (fun H4 e4 => q H4 ((e2.trans e3).trans e4)) E⟩
noncomputable def SpD (K : PySem.W.Frag) (sp : Sp) (vs : List V) (H : Hp) (d : PyData) : Prop := ∀ H1, Ex H H1 → ∀ Q : VK, (∀ v H2, Ex H1 H2 → Dp K H2 v d → Q v H2) → ∀ E : XK, sp vs H1 Q E

variable {D : Ends} {tu tw tz : TS}
end G
end
section
set_option maxHeartbeats 2000000
namespace G
open PySem L2 Evl
variable {K : PySem.W.Frag} {σ : L2.St} {H H' : Hp} {ta tb te tx : TE} {tt : TT} {x y z v : V} {p C dx : Addr} {tA tr tk : TA}

/-! ### calls of built-ins, by their answers -/
theorem rc_len {n : Nat} {ys : List V} (h : SqL K H p ys ∨ SqT K H p ys) (hn : ys.length = n) : RC (fun xs H Q => ∃ p ys, xs = [.ref p] ∧ (SqL K H p ys ∨ SqT K H p ys) ∧ Q (.int (ys.length : Int)) H) [.ref p] H (.int (n : Int)) := fun H1 e Q q =>
  ⟨p, ys, rfl, h.imp (ex_l e) (ex_t e), by rw [hn]; exact q H1 (Ex.refl _)⟩
theorem rc_abs {i : Int} : RC (fun xs H Q => ∃ i, xs = [.int i] ∧ Q (.int (if i < 0 then -i else i)) H) [.int i] H (.int (if i < 0 then -i else i)) := fun H1 e Q q => ⟨i, rfl, q H1 (Ex.refl _)⟩
theorem rc_max2 {i j : Int} : RC (fun xs H Q => ∃ i j, xs = [.int i, .int j] ∧ Q (.int (if j > i then j else i)) H) [.int i, .int j] H (.int (if j > i then j else i)) := fun H1 e Q q => ⟨i, j, rfl, q H1 (Ex.refl _)⟩
theorem rc_min2 {i j : Int} : RC (fun xs H Q => ∃ i j, xs = [.int i, .int j] ∧ Q (.int (if j < i then j else i)) H) [.int i, .int j] H (.int (if j < i then j else i)) := fun H1 e Q q => ⟨i, j, rfl, q H1 (Ex.refl _)⟩
theorem rc_int1 {i : Int} : RC (fun xs H Q => (∃ i, xs = [.int i] ∧ Q (.int i) H) ∨ ∃ k, xs = [.bl k] ∧ Q (.int (if k then 1 else 0)) H) [.int i] H (.int i) := fun H1 e Q q => .inl ⟨i, rfl, q H1 (Ex.refl _)⟩
theorem rc_sum {ns : List Int} (h : SqL K H p (ns.map V.int)) : RC (rSum K) [.ref p] H (.int ns.sum) := fun H1 e Q q => ⟨p, ns, rfl, ex_l e h, q H1 (Ex.refl _)⟩
theorem rc_all {bs : List Bool} (h : SqL K H p (bs.map V.bl)) : RC (rAll K) [.ref p] H (.bl (bs.all id)) := fun H1 e Q q => ⟨p, bs, rfl, ex_l e h, q H1 (Ex.refl _)⟩
theorem rc_max {ns : List Int} {m : Int} (h : SqL K H p (ns.map V.int)) (hm : m ∈ ns) (hle : ∀ y, y ∈ ns → y ≤ m) : RC (rMax K) [.ref p] H (.int m) := fun H1 e Q q =>
  ⟨p, ns, rfl, ex_l e h, List.length_pos_of_mem hm, fun k hk hkl => by
    have e1 : k = m := Int.le_antisymm (hle k hk) (hkl m hm)
    rw [e1]; exact q H1 (Ex.refl _)⟩
theorem rc_min {ns : List Int} {m : Int} (h : SqL K H p (ns.map V.int)) (hm : m ∈ ns) (hle : ∀ y, y ∈ ns → m ≤ y) : RC (rMin K) [.ref p] H (.int m) := fun H1 e Q q =>
  ⟨p, ns, rfl, ex_l e h, List.length_pos_of_mem hm, fun k hk hkl => by
    have e1 : k = m := Int.le_antisymm (hkl m hm) (hle k hk)
    rw [e1]; exact q H1 (Ex.refl _)⟩
theorem rc_isi {c : V} {t u : Value} {b : Bool} (k : ClsV c u) (ty : ∀ H1, Ex H H1 → TyX K H1 x t) (hb : PySem.W.kitOne K t u = some b) : RC (rIsi K) [x, c] H (.bl b) := fun H1 e Q q => ⟨x, c, t, u, b, rfl, k, ty H1 e, hb, q H1 (Ex.refl _)⟩
theorem rc_list {xs : List V} (h : SqL K H p xs ∨ SqT K H p xs) : RCL (fun xs H Q => ∃ p ys, xs = [.ref p] ∧ (SqL K H p ys ∨ SqT K H p ys) ∧ ∀ l, H l = none → Q (.ref l) (upd H l (.lst ys))) [.ref p] H xs := fun H1 e Q q =>
  ⟨p, xs, rfl, h.imp (ex_l e) (ex_t e), fun l hl => q l _ hl (Ex.new hl) upd_same⟩
/-- a built-in asked of a list that is new -/
theorem ev_cbL {r : List V → Hp → VK → Prop} {xs : List V} (h : EvL ta σ H xs) (hr : ∀ p H1, Ex H H1 → H1 p = some (.lst xs) → RC r [.ref p] H1 z) : Ev (tCB r (tCons ta tNil)) σ H z := fun H1 e Q q =>
  h H1 e _ fun p H2 _ e2 h2 => hr p H2 (e.trans e2) h2 H2 (Ex.refl _) Q fun H3 e3 => q H3 (e2.trans e3)

theorem q_par {D : Ends} {tz : TS} {i j : Nat} {v w : V} (h : EvA tA σ H [v, w]) (k : ∀ H1, Ex H H1 → tz D ((σ.set i (some v)).set j (some w)) H1) : tSeq (tPar i j tA) tz D σ H := h H (Ex.refl H) _ fun H1 e => ⟨v, w, rfl, k H1 e⟩
theorem ev_allT {n : Nat} (h : EvL te σ H (given n (fun _ => true) (fun _ => V.bl true))) : Ev (tCB (rAll K) (tCons te tNil)) σ H (.bl true) := ev_cbL h fun p H1 e h1 => by
  have e1 : given n (fun _ => true) (fun _ => V.bl true) = (List.replicate n true).map V.bl := by
    unfold given
    rw [List.filter_eq_self.mpr (fun _ _ => rfl)]
    apply List.ext_getElem <;> simp
  have := rc_all (K := K) (H := H1) (p := p) (bs := List.replicate n true) (sq_of (by rw [← e1]; exact h1))
  have e2 : (List.replicate n true).all id = true := by simp
  rw [e2] at this
  exact this
theorem ev_chain {tc : TE} {r r' : R2} {w : V} (ha : Ev ta σ H x) (hb : Ev tb σ H y) (hr : RV r x y H (.bl true)) (hc : Ev tc σ H w) (hr' : RV r' y w H z) : Ev (tChain r r' ta tb tc) σ H z := fun H1 e Q q =>
  ha H1 e _ fun H2 e2 => hb H2 (e.trans e2) _ fun H3 e3 => hr H3 ((e.trans e2).trans e3) _ fun H4 e4 => ⟨true, rfl, by
    rw [if_pos rfl]
    exact hc H4 (((e.trans e2).trans e3).trans e4) _ fun H5 e5 => hr' H5 ((((e.trans e2).trans e3).trans e4).trans e5) Q fun H6 e6 => q H6 ((((e2.trans e3).trans e4).trans e5).trans e6)⟩
theorem el_lcT {a : Addr} {xs : List V} {tl : TE} {j : Nat} {vs : List Nat} (f : Nat → Bool) (v : Nat → V) (h : Ev tl σ H (.ref a)) (hx : SqT K H a xs) (hz : xs.length ≤ 40000) (hw : ∀ x, wipe ((wipe σ vs).set j (some x)) vs = wipe σ vs)
    (ht : ∀ (i : Nat) (x : V) H1, Ex H H1 → xs[i]? = some x → EvT tt ((wipe σ vs).set j (some x)) H1 (f i)) (he : ∀ (i : Nat) (x : V) H1, Ex H H1 → xs[i]? = some x → f i = true → Ev te ((wipe σ vs).set j (some x)) H1 (v i)) :
    EvL (tLc (iTup K tl) (gName j) tt te vs) σ H (given xs.length f v) := fun H0 e Q q => h H0 e _ fun H1 e1 => ⟨a, rfl, ⟨xs, ex_t (e.trans e1) hx⟩, fun Dl hD =>
  lc_tup (xs := xs) (Cw H1 f v Dl) ⟨hD, Ex.new hD, upd_same⟩ (fun i H' _ p => ex_t ((e.trans e1).trans p.2.1) hx) (fun i x H' hi p => ⟨hw x, cw_turn p (by have := (List.getElem?_eq_some_iff.mp hi).1; omega) (ht i x H1 (e.trans e1) hi) (fun hf => he i x H1 (e.trans e1) hi hf)⟩)
    (fun H' p => q Dl H' (fresh_back e1 p.1) (e1.trans p.2.1) p.2.2)⟩
theorem lc_yes : EvT tYes σ H true := fun H1 _ _ q => q H1 (Ex.refl _)
section
variable {X : Cx} {e : Expr} {f : Str} {pos : Pos}
theorem ixL (hK : X.K = K) : IxR X (rIxL K) := hK ▸ ix_list
theorem ixT (hK : X.K = K) : IxR X (rIxT K) := hK ▸ ix_tup
theorem lenS (hK : X.K = K) : CallR X (.builtin "len") (fun xs H Q => ∃ p ys, xs = [.ref p] ∧ (SqL K H p ys ∨ SqT K H p ys) ∧ Q (.int (ys.length : Int)) H) := hK ▸ call_len_seq
theorem pe_fldK (hK : X.K = K) (he : PE X e ta) (hb : attributeBase e f X.env (eval e X.env) = eval e X.env) : PE X (.Attribute e f pos) (tFld K ta f) := hK ▸ pe_fld he hb
theorem eqD (hK : X.K = K) (hu : X.A.units + 64 < cLine) : OpR X (compareOp .Eq) (rEqD K) := hK ▸ op_eqD hu
theorem neD (hK : X.K = K) (hu : X.A.units + 64 < cLine) : OpR X (compareOp .NotEq) (rNeD K) := hK ▸ op_neD hu
theorem maxL (hK : X.K = K) (hc : X.calm = true) : CallR X (.builtin "max") (rMax K) := hK ▸ cr_max hc
theorem minL (hK : X.K = K) (hc : X.calm = true) : CallR X (.builtin "min") (rMin K) := hK ▸ cr_min hc
theorem sumL (hK : X.K = K) (hc : X.calm = true) : CallR X (.builtin "sum") (rSum K) := hK ▸ cr_sum hc
theorem allL (hK : X.K = K) (hc : X.calm = true) : CallR X (.builtin "all") (rAll K) := hK ▸ cr_all hc
end
theorem eu_divmod {i j : Int} (ha : Ev ta σ H (.int i)) (hb : Ev tb σ H (.int j)) (h0 : 0 < j) (h1 : j < 1073741824) :
    EvU (tCB (fun xs H Q => ∃ i j, xs = [.int i, .int j] ∧ CDiv i j ∧ ∀ p, H p = none → Q (.ref p) (upd H p (.tup [.int (i / j), .int (i % j)]))) (tCons ta (tCons tb tNil))) σ H [.int (i / j), .int (i % j)] := fun H1 e Q q =>
  ha H1 e _ fun H2 e2 => hb H2 (e.trans e2) _ fun H3 e3 => ⟨i, j, rfl, ⟨h0, h1⟩, fun p hp => q p _ (fresh_back (e2.trans e3) hp) ((e2.trans e3).trans (Ex.new hp)) upd_same⟩
theorem q_asgT2 {D : Ends} {tz : TS} {i j : Nat} {v w : V} (h : EvU te σ H [v, w]) (k : ∀ H1, Ex H H1 → tz D ((σ.set i (some v)).set j (some w)) H1) : tSeq (tAsg te (gTup K 2 (gCons (gName i) (gCons (gName j) gNil)))) tz D σ H :=
  h H (Ex.refl H) _ fun u H1 _ e hu => ⟨u, [v, w], rfl, st_of hu, rfl, _, _, rfl, _, _, rfl, rfl, k H1 e⟩
theorem q_asgG {D : Ends} {tz : TS} {g : TG} {xs : List V} (h : EvU te σ H xs) (k : ∀ p H1, H p = none → Ex H H1 → H1 p = some (.tup xs) → g (.ref p) σ H1 fun σ' H' => tz D σ' H') : tSeq (tAsg te g) tz D σ H := h H (Ex.refl H) _ fun p H1 hp e h1 => k p H1 hp e h1
/-! ### comprehensions whose target is a pair -/
section
variable {D : Ends} {f : Nat → Bool} {g : Nat → V} {i j : Nat} {vs : List Nat}
/-- what evaluates to a new list of new pairs (number, item) -/
noncomputable def EvR (te : TE) (σ : L2.St) (H : Hp) (xs : List V) : Prop := ∀ H1, Ex H H1 → ∀ Q : VK, (∀ (l : Addr) (ts : List Addr) (H2 : Hp), H1 l = none → Ex H1 H2 → H2 l = some (.lst (ts.map V.ref)) → ts.length = xs.length → (∀ (j : Nat) (T : Addr) (x : V), ts[j]? = some T → xs[j]? = some x → H2 T = some (.tup [.int (j : Int), x])) → Q (.ref l) H2) → te σ H1 Q
noncomputable def SpR (sp : Sp) (vs : List V) (H : Hp) (xs : List V) : Prop := ∀ H1, Ex H H1 → ∀ Q : VK, (∀ (l : Addr) (ts : List Addr) (H2 : Hp), H1 l = none → Ex H1 H2 → H2 l = some (.lst (ts.map V.ref)) → ts.length = xs.length → (∀ (j : Nat) (T : Addr) (x : V), ts[j]? = some T → xs[j]? = some x → H2 T = some (.tup [.int (j : Int), x])) → Q (.ref l) H2) → ∀ E : XK, sp vs H1 Q E
/-- [e for k, x in enumerate(xs) if ..] -/
theorem el_lcE {a : Addr} {tl : TE} {xs : List V} (f : Nat → Bool) (g : Nat → V) (h : Ev tl σ H (.ref a)) (hs : SqL K H a xs) (hz : xs.length ≤ 40000) (hw : ∀ x y, wipe (((wipe σ vs).set i (some x)).set j (some y)) vs = wipe σ vs)
    (ht : ∀ (k : Nat) (x : V) H1, Ex H H1 → xs[k]? = some x → EvT tt (((wipe σ vs).set i (some (.int (k : Int)))).set j (some x)) H1 (f k))
    (he : ∀ (k : Nat) (x : V) H1, Ex H H1 → xs[k]? = some x → f k = true → Ev te (((wipe σ vs).set i (some (.int (k : Int)))).set j (some x)) H1 (g k)) :
    EvL (tLc (iEnum K (tCons tl tNil)) (gTup K 2 (gCons (gName i) (gCons (gName j) gNil))) tt te vs) σ H (given xs.length f g) := fun H0 e Q q => h H0 e _ fun H1 e1 => by
  have hs1 : SqL K H1 a xs := ex_l (e.trans e1) hs
  refine ⟨a, xs, rfl, hs1, fun Dl hD => ?_⟩
  refine ⟨fun i0 m H' => m = xs.length - i0 ∧ i0 ≤ xs.length ∧ Cw H1 f g Dl i0 H', ⟨xs.length, by simp, Nat.zero_le _, hD, Ex.new hD, upd_same⟩, ?_⟩
  rintro i0 m H' ⟨rfl, hi, pc⟩
  have hs2 : SqL K H' a xs := ex_l pc.2.1 hs1
  by_cases hlt : i0 < xs.length
  · refine .inr ⟨⟨xs, xs[i0], hs2, List.getElem?_eq_getElem hlt⟩, fun H'' => Cw H1 f g Dl (i0 + 1) H'', fun H'' p' => ⟨xs.length - (i0 + 1), by omega, rfl, hlt, p'⟩, fun x0 H'' y => ?_⟩
    obtain ⟨T, w, rfl, hT, rfl, hx⟩ := y
    have hw' := hx xs hs2
    refine ⟨T, [.int (i0 : Int), w], rfl, st_of upd_same, rfl, _, _, rfl, _, _, rfl, rfl, ?_⟩
    have pc2 : Cw H1 f g Dl i0 (upd H' T (.tup [.int (i0 : Int), w])) := ⟨pc.1, pc.2.1.trans (Ex.new hT), by rw [upd_ne (ne_of_none pc.2.2 hT)]; exact pc.2.2⟩
    exact ⟨hw _ _, cw_turn pc2 (by omega) (ht i0 w H1 (e.trans e1) hw') (fun hf => he i0 w H1 (e.trans e1) hw' hf)⟩
  · have e0 : i0 = xs.length := by omega
    subst e0
    exact .inl ⟨⟨xs, hs2, Nat.le_refl _⟩, q Dl H' (fresh_back e1 pc.1) (e1.trans pc.2.1) pc.2.2⟩
end
end G
end
section
set_option maxHeartbeats 2000000
namespace G
open PySem L2 Evl
/-! ### lists and tuples of pairs of numbers -/
noncomputable abbrev Row := Int × Int
noncomputable def rowV (r : Row) : List V := [.int r.1, .int r.2]
noncomputable def RowsAt (H : Hp) (ts : List Addr) (rs : List Row) : Prop := ts.length = rs.length ∧ ∀ (j : Nat) (T : Addr) (r : Row), ts[j]? = some T → rs[j]? = some r → H T = some (.tup (rowV r))
noncomputable def RowsL (H : Hp) (a : Addr) (rs : List Row) : Prop := ∃ ts : List Addr, H a = some (.lst (ts.map V.ref)) ∧ RowsAt H ts rs
noncomputable def RowsU (H : Hp) (a : Addr) (rs : List Row) : Prop := ∃ ts : List Addr, H a = some (.tup (ts.map V.ref)) ∧ RowsAt H ts rs
variable {K : PySem.W.Frag} {σ : L2.St} {H H' : Hp} {ta tb te tl tx : TE} {tt : TT} {x y z v w : V} {p a q C dx : Addr} {tA tr tk : TA} {ts us : List Addr} {rs ss : List Row} {vs : List Nat} {i j : Nat} {Q : VK} {D : Ends} {tz : TS}
theorem given_rows {f : Row → V} : given rs.length (fun _ => true) (fun k => f (rs.getD k (0, 0))) = rs.map f := by
  unfold given
  rw [List.filter_eq_self.mpr (fun _ _ => rfl)]
  apply List.ext_getElem
  · simp
  · intro k h1 h2
    have hk : k < rs.length := by simpa using h2
    simp [List.getD_eq_getElem?_getD, List.getElem?_eq_getElem hk]

/-! ### what evaluates to a new list of pairs -/
noncomputable def EvP (te : TE) (σ : L2.St) (H : Hp) (rs : List Row) : Prop := ∀ H1, Ex H H1 → ∀ Q : VK, (∀ p H2, H1 p = none → Ex H1 H2 → RowsL H2 p rs → Q (.ref p) H2) → te σ H1 Q
noncomputable def SpP (sp : Sp) (vs : List V) (H : Hp) (rs : List Row) : Prop := ∀ H1, Ex H H1 → ∀ Q : VK, (∀ p H2, H1 p = none → Ex H1 H2 → RowsL H2 p rs → Q (.ref p) H2) → ∀ E : XK, sp vs H1 Q E
/-- tuple(rows) -/
noncomputable def EvPU (te : TE) (σ : L2.St) (H : Hp) (rs : List Row) : Prop := ∀ H1, Ex H H1 → ∀ Q : VK, (∀ p H2, H1 p = none → Ex H1 H2 → RowsU H2 p rs → Q (.ref p) H2) → te σ H1 Q
end G
end
section
set_option maxHeartbeats 2000000
namespace G
open PySem PySem.Spec PyProof.Rows L2 Evl
/-! ### == and != of two instances by the text's own == -/
section
variable {prog : Program} {w : World} {A : Around} {Er : Value → Shared → Prop} {s : Shared} {K : PySem.W.Frag} {x C f : Addr} {ox : Obj} {od : Option Obj} {b : Value}
end
section
variable {X : Cx} {CX : CXT} {k : Nat} {f C : Addr} {fd : FuncData} {ps : List Str} {sp : Sp} {E : XK}
/-- x == y, x != y of two instances of the class at C, by its own == -/
noncomputable def rEqO (C : Addr) (sp : Sp) (E : XK) : R2 := fun x y H Q => ∃ a b dx dy fs gs, x = .ref a ∧ y = .ref b ∧ H a = some (.ins C dx fs) ∧ H b = some (.ins C dy gs) ∧ sp [.ref a, .ref b] H (fun v H' => (∃ c, v = .bl c) ∧ Q v H') E
noncomputable def rNeO (C : Addr) (sp : Sp) (E : XK) : R2 := fun x y H Q => ∃ a b dx dy fs gs, x = .ref a ∧ y = .ref b ∧ H a = some (.ins C dx fs) ∧ H b = some (.ins C dy gs) ∧ sp [.ref a, .ref b] H (fun v H' => ∃ c, v = .bl c ∧ Q (.bl (!c)) H') E
end
end G
end
section
set_option maxHeartbeats 2000000
namespace G
open PySem PySem.Spec PyProof.Rows L2 Evl
section
variable {X : Cx} {CX : CXT} {k j : Nat} {f : Addr} {fd : FuncData} {ps ks : List Str} {sp : Sp} {E : XK} {x : Str} {p pos : Pos} {kws : List Keyword} {tk : TA} {g : List Value → List Value → List Value} {gV : List V → List V → List V}
/-- f(k = v, ..) -/
noncomputable def tCallN0 (j : Nat) (sp : Sp) (gV : List V → List V → List V) (E : XK) (tk : TA) : TE := fun σ H Q => tk σ H fun zs H1 => zs.length = j ∧ sp (gV [] zs) H1 Q E
theorem pe_callN0 (F : FnOk X.prog X.w X.K X.mg X.base CX k f fd ps sp) (hr : Room k X.A) (hg : Gl X x) (hm : X.mg x = some (.ref f)) (hk : PySem.W.keepIn X.K (.ref f) = true) (hb : KBn X.K fd ps 0 ks g gV) (hx : Passes CX X E) (hkw : PK X kws tk)
    (hall : (backToKw pos (keywordEach kws X.env)).all (·.1.isSome) = true := by rfl) (hks : (backToKw pos (keywordEach kws X.env)).filterMap (·.1) = ks := by rfl) (hdb : (x == ("__debug__" : Str)) = false := by decide)
    (hpl : ((backTo pos (starEach [] X.env)).any (·.1) || (backToKw pos (keywordEach kws X.env)).any (·.1.isNone)) = false := by rfl) : PE X (.Call (.Name x p) [] kws pos) (tCallN0 ks.length sp gV E tk) := by
  refine ⟨fun pins s σ H Q I h => wpAny_Call_Name_kw (ld_glob I hg hm ?_ hdb)⟩
  refine PySem.W.callWith_KW0 (first := []) (h₀ := X.base) I.ok.mod.kin hk hall ?_ hpl
  refine thn (hkw.run pos pins s σ H _ I h) fun ws s1 ⟨zs, H1, I1, rz, l1, q1⟩ => ⟨I1.kIn, ?_⟩
  rw [hks]
  exact run_fnN (us := []) (vs := []) F hr hb hx I1 .nil rz rfl l1 q1
end
section
variable {X : Cx} {K : PySem.W.Frag} {tg e : Expr} {te : TE}
theorem piL (hK : X.K = K) (h : PE X e te) : PI X tg e (iList K te) := hK ▸ pi_list h
theorem piT (hK : X.K = K) (h : PE X e te) : PI X tg e (iTup K te) := hK ▸ pi_tup h
end
/-- lcm(a, b) -/
noncomputable def rLcm : List V → Hp → VK → Prop := fun vs H Q => ∃ a b : Int, vs = [.int a, .int b] ∧ a.natAbs < 18446744073709551616 ∧ b.natAbs < 18446744073709551616 ∧ Q (.int ((Nat.lcm a.natAbs b.natAbs : Nat) : Int)) H
variable {K : PySem.W.Frag} {σ : L2.St} {H H' : Hp} {ta tb te tl tx tc : TE} {tt : TT} {x y z v w : V} {p a q C dx : Addr} {tA tr tk : TA} {rs ss : List Row} {vs : List Nat} {i j : Nat} {Q : VK} {E : XK} {D : Ends} {tz : TS} {d : PyData} {ds : List PyData} {sp : Sp} {ws zs : List V} {gV : List V → List V → List V} {xs : List V}
/-! ### a new instance, as a value -/
/-- what evaluates to an instance of the class at C of which M tells -/
noncomputable def EvM (te : TE) (σ : L2.St) (H : Hp) (M : Hp → Addr → Prop) : Prop := ∀ H1, Ex H H1 → ∀ Q : VK, (∀ p H2, H1 p = none → Ex H1 H2 → M H2 p → Q (.ref p) H2) → te σ H1 Q
noncomputable def SpM (sp : Sp) (vs : List V) (H : Hp) (M : Hp → Addr → Prop) : Prop := ∀ H1, Ex H H1 → ∀ Q : VK, (∀ p H2, H1 p = none → Ex H1 H2 → M H2 p → Q (.ref p) H2) → ∀ E : XK, sp vs H1 Q E
/-! ### data, once more -/
noncomputable def dRow (r : Row) : PyData := .tuple [.int r.1, .int r.2]
noncomputable def dRows (rs : List Row) : PyData := .list (rs.map dRow)
theorem evd_eqD {d e : PyData} (ha : EvD K ta σ H d) (hb : EvD K tb σ H e) (h1 : SeqAt.shaped d = true) (h2 : SeqAt.shaped e = true) : Ev (tOp (rEqD K) ta tb) σ H (.bl (PyData.eqv d e)) := fun H1 e1 Q q =>
  ha H1 e1 _ fun v H2 e2 hv => hb H2 (e1.trans e2) _ fun u H3 e3 hu => ⟨_, _, dp_mono e3 hv, hu, h1, h2, q H3 (e2.trans e3)⟩
end G
end
section
set_option maxHeartbeats 4000000
/-! own errors over any built-in one -/
namespace G
open PySem PySem.W PySem.Calls PyProof.Rows PySem.HandSPX PySem.OEX
section
open Builtin Builtin.ObjectAttr
structure Tail (tl : List Value) : Prop where
  pass : ∀ self, refuseLoop self "__setattr__" tl = pure ()
  ne : tl.isEmpty = false
  ob : tl.contains (.type "object") = true
theorem tail_arith : Tail [.type "ArithmeticError", .type "Exception", .type "BaseException", .type "object"] := ⟨fun self => by kernel_rfl, rfl, by decide +kernel⟩
noncomputable def Over (tl bm : List Value) : Prop := ∃ cs : List Addr, bm = cs.map Value.ref ++ tl
theorem Over.cons {tl bm : List Value} (h : Over tl bm) (C : Addr) : Over tl (.ref C :: bm) := let ⟨cs, e⟩ := h; ⟨C :: cs, by rw [e]; rfl⟩
theorem Over.pass {tl bm : List Value} (T : Tail tl) (h : Over tl bm) (self : Value) : refuseLoop self "__setattr__" bm = pure () := by
  obtain ⟨cs, rfl⟩ := h
  induction cs with
  | nil => exact T.pass self
  | cons c cs ih => rw [List.map_cons, List.cons_append, refuseLoop_ref]; exact ih
theorem Over.has {tl bm : List Value} (h : Over tl bm) (X : String) : bm.contains (.type X) = tl.contains (.type X) := by
  obtain ⟨cs, rfl⟩ := h
  induction cs with
  | nil => rfl
  | cons c cs ih => rw [List.map_cons, List.cons_append, List.contains_cons, ih]; rfl
theorem Over.ne {tl bm : List Value} (T : Tail tl) (h : Over tl bm) : bm.isEmpty = false := by
  obtain ⟨cs, rfl⟩ := h
  cases cs with
  | nil => exact T.ne
  | cons c cs => rfl
variable {prog : Program} {w : World} {A : Around} {R : Result → Shared → Prop} {hp : Heap} {g : Array GenState} {d : Drawn} {t : Nat} {os : OsState} {K : Frag} {name : Str} {tk : Tok} {v : Value} {x C dx : Addr} {fv : Array Value} {cd : ClassData} {m0 : Str → Option Value} {nl : List Str} {tl : List Value} {od : Option Addr} {oo : Option Obj}
/-- what comes ahead of the store itself -/
theorem osa_way (T : Tail tl) (X : K.In hp) (I : InstAt hp x { cls := .ref C, dict := od, data := .fields fv } C oo) (hcd : clsIn K C = some cd) (hm : Over tl cd.mro) (ha : findIn K (.ref C) name = some none)
    (h : wpAny (model prog w) A.in1 (storeInOwnDict (.ref x) (.ref C) (.str name tk) name v false) (fun fin s' => match fin with
      | .done f => R (.ok f) s'
      | .again c' => c'.quiet = true ∧ codeAny (model prog w) A c' R s') (fun e s' => R (.error e) s') ⟨hp, g, d, t, os⟩) :
    codeAny (model prog w) A (.call (.builtin "object.__setattr__") ⟨[.ref x, .str name tk, v], []⟩) R ⟨hp, g, d, t, os⟩ := by
  have SF := F.store_object
  have hob : cd.mro.contains (.type "object") = true := (hm.has "object").trans T.ob
  have sub : Looks (model prog w) hp (isInstance (.ref x) (.type "object")) true := I.type.andThen (looks_mroIn X (by unfold mroIn; rw [hcd, Option.bind_some, if_neg (by rw [hm.ne T]; decide), hob]))
  refine codeAny_call_builtin SF.slot.plain SF.entry (@check_slot (model prog w) _ _ ⟨hp, g, d, t, os⟩ "object.__setattr__" "object" "__setattr__" (.ref x) [.str name tk, v] [] _ SF.kind SF.split sub (SF.args (.ref x) (.str name tk) v) ?_)
  have hmr : Looks (model prog w) hp (mroOf (.ref C)) cd.mro := (looks_clsIn X hcd).andThen .now
  rw [osa_eq, refuse_eq]
  refine wpAny_bind (wpAny_bind (I.type.at (wpAny_bind (hmr.at ?_))))
  rw [hm.pass T]
  exact wpAny_pure (wpAny_bind (I.type.at (wpAny_bind ((looks_findIn X ha).at (wpAny_bind ((Looks.now : Looks (model prog w) hp (storeTaker? none) none).at h))))))
/-- x.name = v, x an error of the class at C that has no dict as yet -/
theorem osa_first (T : Tail tl) (X : K.In hp) (hx : hp.get? x = some { cls := .ref C, data := .fields fv }) (hcd : clsIn K C = some cd) (hm : Over tl cd.mro) (hh : cd.hasDict = true) (ha : findIn K (.ref C) name = some none)
    (hq : ∀ h' tk' dx, (∀ b o, b ≠ x → hp.get? b = some o → h'.get? b = some o) → hp.objs.size ≤ dx → dx ≠ x → h'.get? x = some { cls := .ref C, dict := some dx, data := .fields fv } →
      h'.Ns1 dx (fun y => if y = name then some v else none) → R (.ok (.ret .none)) ⟨h', g, d, tk', os⟩) :
    codeAny (model prog w) A (.call (.builtin "object.__setattr__") ⟨[.ref x, .str name tk, v], []⟩) R ⟨hp, g, d, t, os⟩ := by
  refine osa_way (od := none) (oo := none) T X ⟨hx, rfl, rfl, trivial⟩ hcd hm ha ?_
  have hxs : x ≠ hp.objs.size := Nat.ne_of_lt (Heap.lt_size hx)
  have hcls := looks_clsIn (M := model prog w) X hcd
  obtain ⟨nm, bs, mro, ns, qn, hd, sn, sb, ab, col, del⟩ := cd
  dsimp only at hh
  subst hh
  unfold storeInOwnDict ownDictForStores
  repeat (first | with_reducible refine store_in_new ?_ ?_ | with_reducible refine wpAny_loadPart_at hx ?_ | with_reducible refine hcls.at ?_ | wp_step)
  · exact ⟨_, #[], _, (Heap.get?_update_ne _ _ _ _ hxs.symm).trans (Heap.get?_push_at rfl rfl), rfl, fun e he => absurd he (by simp), fun _ => rfl⟩
  · intro h' tk' hn' hs
    refine hq h' tk' hp.objs.size (fun b o hb ho => ?_) (Nat.le_refl _) hxs.symm ?_ hn'
    · exact (hs.2 b (Nat.ne_of_lt (Heap.lt_size ho))).trans ((Heap.get?_update_ne _ _ _ _ hb).trans (Heap.get?_push_of_some _ ho))
    · exact (hs.2 x hxs).trans (Heap.get?_update_self _ (Heap.get?_push_of_some _ hx) rfl)
/-- .. that has one -/
theorem osa_more (T : Tail tl) (X : K.In hp) (hx : hp.get? x = some { cls := .ref C, dict := some dx, data := .fields fv }) (hns : hp.Ns1 dx m0) (hw : Within m0 nl) (hz : nl.length ≤ 1000) (hcd : clsIn K C = some cd) (hm : Over tl cd.mro) (hh : cd.hasDict = true) (ha : findIn K (.ref C) name = some none)
    (hq : ∀ h' tk', (∀ b o, b ≠ dx → hp.get? b = some o → h'.get? b = some o) → h'.Ns1 dx (fun y => if y = name then some v else m0 y) → R (.ok (.ret .none)) ⟨h', g, d, tk', os⟩) :
    codeAny (model prog w) A (.call (.builtin "object.__setattr__") ⟨[.ref x, .str name tk, v], []⟩) R ⟨hp, g, d, t, os⟩ := by
  obtain ⟨oD, esD, epD, hoD, hdD, _⟩ := hns.count hw
  refine osa_way (od := some dx) (oo := some oD) T X ⟨hx, rfl, rfl, hoD⟩ hcd hm ha ?_
  have hcls := looks_clsIn (M := model prog w) X hcd
  obtain ⟨nm, bs, mro, ns, qn, hd, sn, sb, ab, col, del⟩ := cd
  dsimp only at hh
  subst hh
  unfold storeInOwnDict ownDictForStores
  repeat (first | with_reducible refine store_in_old hns hw hz ?_ | with_reducible refine wpAny_loadPart_at hx ?_ | with_reducible refine hcls.at ?_ | wp_step)
  intro h' tk' hn' hs
  exact hq h' tk' (fun b o hb ho => (hs.2 b hb).trans ho) hn'
end
end G
namespace G
open PySem PySem.Spec PyProof.Rows L2 Evl
/-- an own error's class, over the built-in error B -/
structure Own (K : PySem.W.Frag) (B newId initId : String) (tl : List Value) (C : Addr) : Prop where
  base : ExcBaseFacts B newId initId tl
  tail : Tail tl
  cls : ∃ nm q N bs bm sn sub ab col dd k0 k1 k2 k3 k5, K.lookup C = some (excClassObj nm q C N bs bm true sn sub ab col dd k0 k1 k2 k3 k5 newId) ∧ Over tl bm
  sa : PySem.W.findIn K (.ref C) "__setattr__" = some (some (.builtin "object.__setattr__"))
  exC : PySem.W.subIn K (.ref C) (.type "BaseException") = some true
  tyC : PySem.W.typeIn K (.ref C) = some (.type "type")
  kC : PySem.W.keepIn K (.ref C) = true
section
variable {X : Cx} {pins : List (Addr × Obj)} {σ : L2.St} {H : Hp} {s : Shared} {a C dx : Addr} {f : Str} {y : V} {u : Value} {fs : List (Str × V)} {Q : Unit → Shared → Prop} {Er : Value → Shared → Prop} {A : Around} {B newId initId : String} {tl : List Value}
theorem own_cls {K : PySem.W.Frag} (T : Own K B newId initId tl C) : ∃ cd, PySem.W.clsIn K C = some cd ∧ Over tl cd.mro ∧ cd.hasDict = true := by
  obtain ⟨nm, q, N, bs, bm, sn, sub, ab, col, dd, k0, k1, k2, k3, k5, hC, hbm⟩ := T.cls
  exact ⟨{ name := nm, bases := bs, mro := .ref C :: bm, ns := N, qualname := q, hasDict := true, slotNames := sn, subclasses := sub, abstract := ab, collection := col, hasDel := false }, by unfold PySem.W.clsIn; rw [hC] <;> rfl, hbm.cons C, rfl⟩
theorem own_first (T : Own X.K B newId initId tl C) (I : Inv X pins σ H s) (e : H a = some (exo a C none)) (hno : PySem.W.findIn X.K (.ref C) f = some none) (ry : RelV y u)
    (h : ∀ dx s', H dx = none → dx ≠ a → Inv X pins σ (upd (upd H dx (exd dx [(f, y)])) a (exo a C (some dx))) s' → Q () s') : wpAny (model X.prog X.w) A (setAttr (.ref a) f u) Q Er s := by
  obtain ⟨cd, hcl, hov, hhd⟩ := own_cls T
  obtain ⟨t1, ho⟩ := exo_at I.hok e
  obtain ⟨hp, g, d, t, os⟩ := s
  refine PySem.W.set_plain I.kIn (ox := { cls := .ref C, dict := none, data := .fields #[.ref t1, .none, .none, .none, .bool false, .none] }) (od := none) ⟨ho, rfl, rfl, trivial⟩ T.sa ?_
  refine osa_first T.tail I.kIn ho hcl hov hhd hno (fun h' tk' dx k dn dne hx hn => ?_)
  have hnd : H dx = none := I.hok.fresh dn
  have nd : ∀ {b : Addr} {o : Obj}, hp.get? b = some o → b ≠ dx := fun {b o} q => Nat.ne_of_lt (Nat.lt_of_lt_of_le (Heap.lt_size q) dn)
  have na : ∀ {b : Addr}, H b = none → b ≠ a := fun {b} n z => by rw [z, e] at n; cases n
  have U : Un X.fs [] H (upd (upd H dx (exd dx [(f, y)])) a (exo a C (some dx))) hp h' := {
    keep := fun b o q n _ _ => k b o (na n) q
    slot := fun b o q n _ _ => ⟨o.slots, k b o (na n) q⟩
    free := fun b o q n _ => by rw [upd_ne (na n), upd_ne (nd q)]; exact n
    there := fun b o q _ => by
      by_cases hb : b = a
      · exact ⟨_, by rw [hb]; exact hx⟩
      · exact ⟨o, k b o hb q⟩
    tups := fun b xs q => by rw [upd_ne (at_ne e q exo_tup), upd_ne (ne_of_none q hnd)]; exact q
    frzs := fun b o v q => by rw [upd_ne (at_ne e q exo_frz), upd_ne (ne_of_none q hnd)]; exact q
    tbls := fun b ps q => ⟨#[], by rw [upd_ne (at_ne e q exo_tbl), upd_ne (ne_of_none q hnd), q]; simp⟩ }
  refine h dx _ hnd dne (I.un (t' := tk') U fun b o q => ?_)
  by_cases hb : b = a
  · subst hb
    rw [upd_same] at q
    cases q
    exact exo_ok hx
  · rw [upd_ne hb] at q
    by_cases hd : b = dx
    · subst hd
      rw [upd_same] at q
      cases q
      exact exd_ok hn (relO_put (fs := []) ry fun g => True.intro)
    · rw [upd_ne hd] at q
      exact (I.hok b o q).stay (fun c v hc z => k c v (by
          rcases hc with hc | hc
          · rw [hc]; exact hb
          · exact at_ne e hc exo_own) z)
        (fun c hc => by rw [upd_ne (at_ne e hc exo_own), upd_ne (ne_of_none hc hnd)]; exact hc) (fun c xs hc => by rw [upd_ne (at_ne e hc exo_tup), upd_ne (ne_of_none hc hnd)]; exact hc)
theorem own_more (T : Own X.K B newId initId tl C) (I : Inv X pins σ H s) (e : H a = some (exo a C (some dx))) (ed : H dx = some (exd dx fs)) (hl : fs.length ≤ 900) (hno : PySem.W.findIn X.K (.ref C) f = some none) (ry : RelV y u)
    (h : ∀ s', Inv X pins σ (upd H dx (exd dx ((f, y) :: fs))) s' → Q () s') : wpAny (model X.prog X.w) A (setAttr (.ref a) f u) Q Er s := by
  obtain ⟨cd, hcl, hov, hhd⟩ := own_cls T
  obtain ⟨t1, ho⟩ := exo_at I.hok e
  obtain ⟨mA, hns, rel⟩ := exd_at I.hok ed
  have hw := within_of rel
  obtain ⟨hp, g, d, t, os⟩ := s
  obtain ⟨oD, _, _, hoD, _, _⟩ := hns.count hw
  refine PySem.W.set_plain I.kIn (ox := { cls := .ref C, dict := some dx, data := .fields #[.ref t1, .none, .none, .none, .bool false, .none] }) (od := some oD) ⟨ho, rfl, rfl, hoD⟩ T.sa ?_
  refine osa_more T.tail I.kIn ho hns hw (by rw [List.length_map]; omega) hcl hov hhd hno (fun h' tk' k hn => ?_)
  have hd : ∃ o, h'.get? dx = some o := by obtain ⟨o, _, _, e', _⟩ := hn; exact ⟨o, e'⟩
  exact h _ (I.write (t' := tk') (x := dx) (e := dx) (o := exd dx ((f, y) :: fs)) (by rw [ed]; exact True.intro) (.inl rfl) k hd (exd_ok hn (relO_put ry rel)))
end
/-- self.f = e in an own error's __init__ -/
noncomputable def tOwn (K : PySem.W.Frag) (f : Str) (to te : TE) : TS := fun D σ H => te σ H fun y H1 => to σ H1 fun x H2 => ∃ (a C : Addr) (B newId initId : String) (tl : List Value), x = .ref a ∧ Own K B newId initId tl C ∧ PySem.W.findIn K (.ref C) f = some none ∧
  ((H2 a = some (exo a C none) ∧ ∀ dx, H2 dx = none → dx ≠ a → D.nx σ (upd (upd H2 dx (exd dx [(f, y)])) a (exo a C (some dx)))) ∨
    ∃ (dx : Addr) (fs : List (Str × V)), H2 a = some (exo a C (some dx)) ∧ H2 dx = some (exd dx fs) ∧ fs.length ≤ 900 ∧ D.nx σ (upd H2 dx (exd dx ((f, y) :: fs))))
section
variable {X : Cx} {o e : Expr} {es : List Expr} {to te : TE} {ta : TA} {f : Str} {p p' pos : Pos} {B newId initId : String} {tl : List Value}
theorem ps_own (ho : PE X o to) (he : PE X e te) (hs : swapsWith e (some (.Attribute o f p')) pos.line X.env = pure false := by rfl) : PS X (.Assign [.Attribute o f p'] e pos) (tOwn X.K f to te) := by
  refine ⟨fun pins s σ H D I h => ?_⟩
  refine plainObj_wpAny_Assign_Attribute (thn (he.run pins s σ H _ I h) fun v s1 ⟨y, H1, I1, r1, q1⟩ => thn (ho.run pins s1 σ H1 _ I1 q1) fun u s2 ⟨x, H2, I2, r2, a, C, B, newId, initId, tl, ex, T, hno, q⟩ => ?_) hs
  subst ex
  obtain rfl : u = Value.ref a := r2
  rcases q with ⟨ea, q⟩ | ⟨dx, fs, ea, ed, hl, q⟩
  · exact own_first T I2 ea hno r1 fun dx s' n ne J => ⟨σ, _, J, q dx n ne⟩
  · exact own_more T I2 ea ed hl hno r1 fun s' J => ⟨σ, _, J, q⟩
/-- C(e, ..), C an own error's class, its own __init__ keeping sp -/
theorem pmk_own2 {CX : CXT} {x : Str} {C fI : Addr} {k : Nat} {fd : FuncData} {ps : List Str} {sp : Sp} {ds : List Value} {dvs : List V} (T : Own X.K B newId initId tl C) (iC : PySem.W.findIn X.K (.ref C) "__init__" = some (some (.ref fI))) (tI : PySem.W.typeIn X.K (.ref fI) = some (.type "function"))
    (F1 : FnOk X.prog X.w X.K X.mg X.base CX k fI fd ps sp) (hr : Room (k + 1) X.A) (hb : Binds X.K fd ps ds) (hd : Vals dvs ds) (hx : Passes CX X (fun _ _ _ => False)) (hg : Gl X x) (hm : X.mg x = some (.ref C)) (ha : PA X (e :: es) ta)
    (hdb : (x == ("__debug__" : Str)) = false := by decide) (he : starEach (e :: es) X.env = (false, eval e X.env) :: starEach es X.env := by rfl) (hpl : (backTo pos (starEach es X.env)).any (·.1) = false := by rfl) :
    PMk X (.Call (.Name x p) (e :: es) [] pos) (tMkO C sp dvs ta) := by
  intro pins s σ H Q I h
  obtain ⟨nm, q, N, bs, bm, sn, sub, ab, col, dd, k0, k1, k2, k3, k5, hC, hbm⟩ := T.cls
  refine wpAny_Call_Name_kw (ld_glob I hg hm ?_ hdb)
  refine PySem.W.callWith_K (h₀ := X.base) I.ok.mod.kin T.kC (thn (ha.run pos pins s σ H _ I h) fun us s1 ⟨vs, H1, I1, r1, hz, q1⟩ => ⟨I1.kIn, ?_⟩) he hpl
  show wpAny _ _ (call (.ref C) us) _ _ _
  obtain ⟨hp, g, dr, tk, os⟩ := s1
  have hsz : hp.objs.size ≤ hp.objs.size + 1 := Nat.le_succ _
  have hq := q1 (hp.objs.size + 1) (I1.hok.fresh hsz)
  have kk : ∀ b o, hp.get? b = some o → ((hp.push (PySem.W.kdv_tup us)).push (PySem.HandSPX.excO C hp.objs.size)).get? b = some o := fun b o e => Heap.get?_push_of_some _ (Heap.get?_push_of_some _ e)
  have hget : ((hp.push (PySem.W.kdv_tup us)).push (PySem.HandSPX.excO C hp.objs.size)).get? (hp.objs.size + 1) = some (PySem.HandSPX.excO C hp.objs.size) := by heap_get
  have I2 := I1.laid (t' := tk) (a := hp.objs.size + 1) (o := exo (hp.objs.size + 1) C none) (h' := (hp.push (PySem.W.kdv_tup us)).push (PySem.HandSPX.excO C hp.objs.size)) kk hsz (exo_ok hget)
  have r2 : Vals (V.ref (hp.objs.size + 1) :: (vs ++ dvs)) (Value.ref (hp.objs.size + 1) :: (us ++ ds)) := .cons rfl (r1.append hd)
  have hl : (Value.ref (hp.objs.size + 1) :: us ++ ds).length = ps.length := by
    have e := r2.length
    rw [F1.len _ _ _ _ hq] at e
    exact e.symm
  have hus : us.length ≤ sizeLine := by rw [← Paired.length r1, sizeLine_eq]; omega
  refine wpAny_call (PySem.HandSPX.call_own T.base (fun Y => hbm.has Y) (I1.kIn _ _ hC) (PySem.W.looks_findIn I1.kIn iC) (fun self => PySem.W.bind_fn I1.kIn self tI) hus
    (codeAny_mono (F1.run _ X.stack _ _ ⟨Value.ref (hp.objs.size + 1) :: us, []⟩ (Value.ref (hp.objs.size + 1) :: (us ++ ds)) _ _ (fun _ _ _ => False) (hr.make C us []) (I2.env0.make C us []) (hb _ (Value.ref (hp.objs.size + 1) :: us) I2.kIn hl) r2 hq) fun r s' hq' => ?_))
  match r, hq' with
  | .error er, hq' => exact hx pins σ _ _ er s' I2 hq'
  | .ok .next, hq' => exact hq'.elim
  | .ok .brk, hq' => exact hq'.elim
  | .ok .cont, hq' => exact hq'.elim
  | .ok (.ret u), hq' =>
    obtain ⟨v, H2, os2, bare2, un2, hok2, rv, ev, d, fs, ea, ed, hd1, q2⟩ := hq'
    subst ev
    obtain ⟨h2, g2, d2, t2, os'⟩ := s'
    exact ⟨rv, mk_end (raises_own T.exC T.tyC) I1 hsz kk un2 hok2 os2 bare2 ea ed hd1 q2⟩
end
end G
end
section
set_option maxHeartbeats 2000000
namespace G
open PySem PySem.Spec PyProof.Rows L2 Evl
/-! ### ranges that have a name -/
noncomputable def iRgV (te : TE) : TI := fun σ H R => te σ H fun x H1 => ∃ (p : Addr) (j : Int), x = .ref p ∧ H1 p = some (.rng 0 j) ∧ -(2 ^ 62) ≤ j ∧ j < 2 ^ 62 ∧ R (Itr 0 j.toNat) H1
variable {K : PySem.W.Frag} {σ : L2.St} {H : Hp} {tl te ta : TE} {p : Addr} {n : Nat} {j i : Nat} {vs : List Nat} {D : Ends} {tz : TS} {tA : TA} {z0 : Int}
/-! ### calls of a def that a name holds -/
section
variable {X : Cx} {CX : CXT} {k : Nat} {sp : Sp} {E : L2.St → XK} {pos : Pos} {fe e : Expr} {es : List Expr} {tf : TE} {t : TA}
noncomputable def tCallV (S : Addr → Prop) (sp : Sp) (E : L2.St → XK) (tf : TE) (t : TA) : TE := fun σ H Q => tf σ H fun x H1 => ∃ f, x = .ref f ∧ S f ∧ t σ H1 fun vs H2 => sp vs H2 Q (E σ)
end
/-- an error is named by its own class -/
theorem exm_at {K : PySem.W.Frag} {S : Addr} (b : PySem.W.subIn K (.ref S) (.type "BaseException") = some true) (c : PySem.W.isClsIn K S = true) (t : PySem.W.typeIn K (.ref S) = some (.type "type")) (s : PySem.W.subIn K (.ref S) (.ref S) = some true) : PySem.W.exmOne K (.ref S) (.ref S) = some true := by
  have c' : (PySem.W.clsIn K S).isSome = true := c
  unfold PySem.W.exmOne PySem.W.kitCls
  simp [b, c', t, s]
theorem passF {X : Cx} {E₁ : XK} (tk : Takes X (fun cls d _ H => E₁ cls d H)) : Passes (L2.CX X.prog X.w) X E₁ := fun pins σ H s e s' I c => tk e s' (XE.of_call I (fun _ _ _ h => h) c)
end G
end
section
set_option maxHeartbeats 2000000
namespace G
open PySem L2 Evl
/-! ### data that stand apart from what else changes: B the heap whose data may be shared, H1 the heap ahead -/
noncomputable def Sep (B H1 H2 : Hp) : Hp := fun b => if H1 b = none ∨ (B b).isSome = true then H2 b else none
section
variable {B B' H H' H1 H2 H3 : Hp} {b : Addr} {o : HO}
end
variable {K : PySem.W.Frag} {σ : L2.St} {B H H' : Hp} {ta tb te tx tl : TE} {tt : TT} {x y z v : V} {d d' : PyData} {ds es : List PyData} {p C dx a : Addr} {fs : List (Str × V)} {f m : Str} {sp : Sp} {dvs vs xs : List V} {E : XK} {tA tr tk : TA} {js : List Nat} {j i : Nat} {D : Ends} {tz : TS}
/-- what evaluates to data, B the heap whose data may be shared (a part of H) -/
noncomputable def EvN (K : PySem.W.Frag) (B : Hp) (te : TE) (σ : L2.St) (H : Hp) (d : PyData) : Prop := ∀ H1, Ex H H1 → ∀ Q : VK, (∀ v H2, Ex H1 H2 → Dp K (Sep B H1 H2) v d → Q v H2) → te σ H1 Q
noncomputable def EvAN (K : PySem.W.Frag) (B : Hp) (ta : TA) (σ : L2.St) (H : Hp) (ds : List PyData) : Prop := ∀ H1, Ex H H1 → ∀ Q : List V → Hp → Prop, (∀ vs H2, Ex H1 H2 → DpAll K (Sep B H1 H2) vs ds → Q vs H2) → ta σ H1 Q
/-- the promise's end: data -/
noncomputable def RetN (K : PySem.W.Frag) (B : Hp) (d : PyData) (H : Hp) (Q : VK) : Prop := ∀ v H2, Ex H H2 → Dp K (Sep B H H2) v d → Q v H2
noncomputable def SpN (K : PySem.W.Frag) (B : Hp) (sp : Sp) (vs : List V) (H : Hp) (d : PyData) : Prop := ∀ H1, Ex H H1 → ∀ Q : VK, RetN K B d H1 Q → ∀ E : XK, sp vs H1 Q E
/-- a def that is given data: its promise holds for whatever heap the data stand in -/
noncomputable def SpF (K : PySem.W.Frag) (sp : Sp) (ds : List PyData) (d : PyData) : Prop := ∀ (B H : Hp) (vs : List V), Ex B H → DpAll K B vs ds → ∀ Q : VK, RetN K B d H Q → ∀ E : XK, sp vs H Q E
end G
end
section
set_option maxHeartbeats 2000000
/-! xs.extend(a tuple), t[::-1] of a tuple -/
namespace SX
open PySem PySem.Spec PyProof.Rows L2
open MeetsSeq MeetsSeq2 MeetsSeq3 SeqRoads2
/-- xs.extend(t): the object of the tuple may be any -/
theorem extend_tup {l b : Addr} {xs ys : Array Value} {n m : Nat} {o : Obj} (hc : o.cls = .type "tuple") (hd : o.data = .seq ys m) (z1 : xs.size ≤ sizeLine) (z2 : xs.size + ys.size ≤ sizeLine) :
    Meets (Builtin.«list.extend» ⟨[.ref l, .ref b], []⟩) (fun _ R s => s.heap.get? l = some (seqObj "list" xs n) ∧ s.heap.get? b = some o ∧ R (.ok (.ret .none)) { s with heap := s.heap.update l (Obj.mapSeq (· ++ ys)) }) :=
  .of_wp fun P w A R s ⟨el, eb, q⟩ => by
    show wpAny (model P w) A.in1 ((pure (Value.ref l, Value.ref b) : Sem (Value × Value)) >>= fun p => Builtin.List.listExtendWith p.1 p.2 .none) _ _ s
    refine wpAny_bind (wpAny_pure ?_)
    dsimp only
    unfold Builtin.List.listExtendWith Builtin.List.listItems
    refine wpAny_bind (wpAny_typeOf ⟨o, eb, hc⟩ ?_)
    rw [if_pos (by simp)]
    refine wpAny_bind (wpAny_bind (wpAny_seqItems eb hd (wpAny_pure (wpAny_bind (wpAny_bind (wpAny_seqItems el rfl (wpAny_pure ?_)))))))
    dsimp only
    rw [if_neg (by rw [notLongL z2, Bool.and_false]; exact Bool.false_ne_true)]
    exact wpAny_bind (wpAny_updateSeq el rfl (wpAny_pure ⟨_, rfl, q⟩) z1 (by rw [Array.size_append]; omega))
noncomputable def rExtT (K : PySem.W.Frag) : V → List V → Hp → VK → Prop := fun x vs H Q => ∃ l b xs zs, x = .ref l ∧ vs = [.ref b] ∧ H l = some (.lst xs) ∧ SqT K H b zs ∧ xs.length + zs.length ≤ sizeLine ∧ Q .non (upd H l (.lst (xs ++ zs)))
theorem mt_extT {X : Cx} {K : PySem.W.Frag} (hK : X.K = K) : MtR X "list.extend" (rExtT K) := by
  rintro pins s σ H _ _ v us Q I rx rv ⟨l, b, xs, zs, rfl, rfl, hH, hB, hz, q⟩
  subst hK
  cases rx
  obtain ⟨_, rfl, ru⟩ := rv.one
  cases ru
  obtain ⟨z1, own, n, ro, _, el⟩ := I.lstM hH
  obtain ⟨its, rt, ⟨o, eb, hc, m, hd⟩, _⟩ := I.tuple hB
  have n1 := ro.length
  have n2 := rt.length
  refine call_meets PySem.F.slot_list_extend ⟨_, el, rfl⟩ PySem.F.entry_list_extend (PySem.F.args_list_extend_2 _ _) (extend_tup (xs := own.toArray) (n := n) hc hd (by rw [List.size_toArray]; omega) (by simp only [List.size_toArray]; omega)) ⟨el, eb, ?_⟩
  exact ⟨.non, _, I.lset (its' := own ++ its) hH el (by simp) (ro.append rt) (by rw [List.length_append]; omega), rfl, q⟩
/-! ### t[::-1] -/
theorem back_places (n : Nat) : Builtin.Slice.slicePlaces ((n : Int) - 1) (-1) (-1) = n := by
  unfold Builtin.Slice.slicePlaces
  simp only [show ¬ (0 : Int) < -1 by decide, if_false]
  rcases n with _ | n
  · decide
  · simp only [Int.neg_neg, Int.ediv_one]
    split <;> omega
theorem back_pick (xs : Array Value) : ((List.range xs.size).filterMap fun (k : Nat) => xs[((xs.size : Int) - 1 + (k : Int) * (-1)).toNat]?).toArray = xs.toList.reverse.toArray := by
  have e : ((List.range xs.size).map fun k => xs.size - 1 - k).filterMap (xs[·]?) = xs.toList.reverse := by
    rw [PySem.W.krv_range, List.filterMap_reverse, PySem.W.krv_all]
  rw [← e, List.filterMap_map]
  congr 2
  funext k
  rw [show ((xs.size : Int) - 1 + (k : Int) * (-1)).toNat = xs.size - 1 - k by omega] <;> rfl
section
variable {P : Program} {w : World} {A : Around} {E : Value → Shared → Prop} {s : Shared}
theorem back_applied {sl : Addr} {n : Nat} {tk : Tok} (hs : s.heap.IsSliceOf sl .none .none (.int (-1) tk)) :
    wpAny (model P w) A (Builtin.Slice.sliceApplied (.ref sl) (pure (n : Int))) (fun r s' => r = ((n : Int) - 1, -1, n) ∧ s' = s) E s := by
  obtain ⟨o, ho, _, hd⟩ := hs
  have e : Builtin.Slice.sliceAdjust none none (-1) (n : Int) = ((n : Int) - 1, -1) := rfl
  unfold Builtin.Slice.sliceApplied Builtin.Slice.sliceFields
  refine wpAny_bind (wpAny_bind (wpAny_field ho hd rfl (wpAny_bind (wpAny_field ho hd rfl (wpAny_bind (wpAny_field ho hd rfl (wpAny_pure ?_)))))))
  dsimp only
  refine wpAny_bind (slicePart_int (wpAny_bind (slicePart_none (wpAny_bind (slicePart_none (wpAny_bind (wpAny_pure ?_)))))))
  exact wpAny_pure ⟨by
    simp only [Option.getD_some, e, back_places], rfl⟩
theorem getItem_back {t sl : Addr} {xs : Array Value} {tk : Tok} {Q : Value → Shared → Prop} (ht : IsTup s.heap t xs) (hs : s.heap.IsSliceOf sl .none .none (.int (-1) tk)) (hz : xs.size ≤ sizeLine)
    (q : Q (.ref s.heap.objs.size) { s with heap := s.heap.push { cls := .type "tuple", data := .seq xs.toList.reverse.toArray } }) : wpAny (model P w) A (getItem (.ref t) (.ref sl)) Q E s := by
  have isS : s.TypeIs (.ref sl) "slice" := let ⟨o, ho, hc, _⟩ := hs; ⟨o, ho, hc⟩
  have fits : sizeOk (.seq xs.toList.reverse.toArray) := by
    show xs.toList.reverse.toArray.size ≤ sizeLine
    simpa using hz
  have go : ∀ (A : Around) E, wpAny (model P w) A (Builtin.«tuple.__getitem__» ⟨[.ref t, .ref sl], []⟩) (fun fin s' => fin = .done (.ret (.ref s.heap.objs.size)) ∧ s' = { s with heap := s.heap.push { cls := .type "tuple", data := .seq xs.toList.reverse.toArray } }) E s := fun A E => by
    refine wpAny_bind (m := Builtin.Tuple.tupleItemsOf (.ref t)) (tupleItemsOf_ ht (wpAny_bind (wpAny_typeOf isS ?_)))
    rw [if_pos (by decide)]
    refine wpAny_bind (wpAny_mono (back_applied hs) ?_ fun _ _ x => x)
    rintro _ _ ⟨rfl, rfl⟩
    dsimp only
    rw [if_neg (by simp), back_pick]
    exact wpAny_bind (m := Builtin.Tuple.tupleExact _) (wpAny_newObj_type (wpAny_pure ⟨rfl, rfl⟩) fits)
  unfold getItem
  refine wpAny_holding (wpAny_bind (wpAny_sequenceKey ht.typeIs (by decide) (wpAny_bind ?_)))
  refine wpAny_callSpecial?_slot (name := Str.ofString "__getitem__") ht.typeIs slot_tuple_getitem (wpAny_call_entry slot_tuple_getitem ht.typeIs entry_tuple_getitem (wpAny_mono (go _ _) ?_ fun _ _ x => x) (args_tuple_getitem _ _))
  rintro _ _ ⟨rfl, rfl⟩
  exact ⟨_, rfl, wpAny_pure q⟩
end
noncomputable def tRevT (K : PySem.W.Frag) (te : TE) : TE := fun σ H Q => te σ H fun x H1 => ∃ a xs, x = .ref a ∧ SqT K H1 a xs ∧ ∀ p, H1 p = none → Q (.ref p) (upd H1 p (.tup xs.reverse))
theorem pe_revT {X : Cx} {K : PySem.W.Frag} (hK : X.K = K) {e : Expr} {te : TE} {k : Nat} {p1 p2 p3 pos : Pos} (he : PE X e te) : PE X (.Subscript e (.Slice none none (some (.UnaryOp .USub (.Constant (.int 1) k p1) p2)) p3) pos) (tRevT K te) := by
  subst hK
  have last : PO X (some (.UnaryOp .USub (.Constant (.int 1) k p1) p2)) (tPart (tUn (rU fun i => .int (-i)) (tC (.int 1)))) := po_some (pe_un un_neg pe_int)
  refine ⟨fun pins s σ H Q I h => Subscript_ (thn (he.run pins s σ H _ I h) ?_)⟩
  rintro _ s1 ⟨_, H1, I1, rt, a, xs, rfl, hx, q⟩
  cases rt
  refine wpAny_Slice (thn (po_none.run pins s1 σ H1 (fun o H2 => o = none ∧ H2 = H1) I1 ⟨rfl, rfl⟩) ?_)
  rintro vl s2 ⟨_, _, I2, pl, rfl, rfl⟩
  refine thn (po_none.run pins s2 σ _ (fun o H3 => o = none ∧ H3 = _) I2 ⟨rfl, rfl⟩) ?_
  rintro vu s3 ⟨_, _, I3, pu, rfl, rfl⟩
  refine thn (last.run pins s3 σ _ (fun o H4 => o = some (-1) ∧ H4 = _) I3 ⟨1, rfl, -1, rfl, rfl, rfl⟩) ?_
  rintro vs s4 ⟨_, _, I4, ps, rfl, rfl⟩
  cases pl
  cases pu
  obtain ⟨tk, rfl⟩ : ∃ tk, vs = Value.int (-1) tk := by cases ps; exact ⟨_, rfl⟩
  have grow : ∀ b o, s4.heap.get? b = some o → (s4.heap.push { cls := .type "slice", data := .fields #[.none, .none, .int (-1) tk] }).get? b = some o := fun b o => Heap.get?_push_of_some _
  have I5 := I4.kept (t' := s4.toks) grow
  obtain ⟨its, r, ht, hz⟩ := I5.tuple hx
  have len := r.length
  refine tail_any (ops := [.ref a, .ref s4.heap.objs.size]) ht.typeIs slot_tuple_getitem.lookup (getItem_back ht (Heap.IsSliceOf.new _ .none .none (.int (-1) tk)) (by rw [List.size_toArray]; omega) ?_) (by with_unfolding_all rfl)
  exact ⟨.ref _, _, I5.laid (t' := s4.toks) (o := .tup xs.reverse) (fun b o => Heap.get?_push_of_some _) (Nat.le_refl _) ⟨by rw [List.length_reverse]; exact hz, _, r.reverse, IsTup.new _ _⟩, rfl, q _ (I5.hok.fresh (Nat.le_refl _))⟩
end SX
end
section
set_option maxHeartbeats 2000000
/-! set(xs), whatever stands in xs: a list or a tuple is walked, and each item added -/
namespace ZS
open PySem PySem.Spec PyProof.Rows L2
open PySem.Froz (sObj)
section
variable {P : Program} {w : World} {A : Around} {E : Value → Shared → Prop} {s : Shared}
/-- nothing but the set at S and the count of tokens has changed, and J is true behind it -/
noncomputable def Only (S : Addr) (J : Heap → Prop) (s s' : Shared) : Prop := ∃ h' tk, s' = { s with heap := h', toks := tk } ∧ Heap.SameBut S s.heap h' ∧ J h'
theorem fill {I S : Addr} {fp wr : List Addr} {n : Nat} {Pv : Nat → Value → Prop} {St : Nat → Heap → Prop} {J : Nat → Heap → Prop}
    (W : Walks P w A.in1 I fp wr n Pv St) (hS : S ∉ fp) (keep : ∀ i h h', J i h → (∀ b o, b ∉ wr → h.get? b = some o → h'.get? b = some o) → J i h')
    (add : ∀ i v (s : Shared) (E : Value → Shared → Prop), i < n → Pv i v → J i s.heap → wpAny (model P w) A.in1 (setAdd S v) (fun _ => Only S (J (i + 1)) s) E s) :
    ∀ (m i : Nat) (s : Shared), i + m = n → St i s.heap → J i s.heap → codeAny (model P w) A (.builtin "set.update.loop" ⟨[.ref S, .ref I], []⟩)
      (fun r s' => r = .ok (.ret .none) ∧ ∃ h' tk, s' = { s with heap := h', toks := tk } ∧ J n h' ∧ ∀ b o, b ≠ S → b ∉ wr → s.heap.get? b = some o → h'.get? b = some o) s
  | 0, i, s, e, st, j => by
    obtain rfl : i = n := e
    refine codeAny_builtin F.entry_set_update_loop (Around.under_plainId F.plain_set_update_loop _ ▸ ?_)
    exact wpAny_bind (m := pyNext (.ref I)) (W.done s _ _ st fun h' tk k => wpAny_pure ⟨rfl, h', tk, rfl, keep _ _ _ j k, fun b o _ => k b o⟩)
  | m + 1, i, s, e, st, j => by
    refine codeAny_builtin F.entry_set_update_loop (Around.under_plainId F.plain_set_update_loop _ ▸ ?_)
    refine wpAny_bind (m := pyNext (.ref I)) (W.item i s _ _ (by omega) st fun v h1 t1 pv st1 k => ?_)
    refine wpAny_bind (m := holding [v] (setAdd S v)) (wpAny_holding (wpAny_mono (add i v _ _ (by omega) pv (keep _ _ _ j k)) ?_ fun _ _ x => x))
    rintro _ _ ⟨h2, t2, rfl, sb, j2⟩
    refine wpAny_pure ⟨plainId_quiet F.plain_set_update_loop _, codeAny_mono (fill W hS keep add m (i + 1) _ (by omega) (W.frame _ _ _ st1 fun b hb o q => (sb.2 b fun z => hS (z ▸ hb)).trans q) j2) ?_⟩
    rintro _ _ ⟨rfl, h3, t3, rfl, j3, k3⟩
    exact ⟨rfl, h3, t3, rfl, j3, fun b o hb hw q => k3 b o hb hw ((sb.2 b hb).trans (k b o hw q))⟩
/-- a set that was just made -/
noncomputable abbrev bare (w : World) : Obj := sObj "set" (#[], 0, .fresh 0 0 (!w.params.followText "set-order"))
theorem call_of {l : Addr} {T : String} {Q : Value → Shared → Prop} (hT : s.TypeIs (.ref l) T) (f1 : isSubtype (.type T) (.type "set") = pure false) (f2 : isSubtype (.type T) (.type "frozenset") = pure false)
    (f3 : (Value.type T == Value.type "dict") = false)
    (go : ∀ E', wpAny (model P w) A.in1.in1 (pyIter (.ref l)) (fun it s2 => codeAny (model P w) A.in1.in1 (.builtin "set.update.loop" ⟨[.ref s.heap.objs.size, it], []⟩) (fun r s3 => r = .ok (.ret .none) ∧ Q (.ref s.heap.objs.size) s3) s2) E' { s with heap := s.heap.push (bare w) }) :
    wpAny (model P w) A (call (.type "set") [.ref l]) Q E s := by
  have ft := PySem.F.called_set
  have made := ft.made
  have sub := ft.sub
  have no := ft.notType
  have can := ft.canCreate
  have one := PySem.F.typeCall_set_1 (.ref l)
  obtain ⟨_, _, mro⟩ := ft.mro
  refine wpAny_call (codeAny_of_tree (wpAny_pure ⟨Code.quiet_builtin _ (by decide +kernel), codeAny_builtin PySem.F.entry_type_call (Around.under_plain (weight_type_call_type "set" [.ref l] []) rfl ▸ ?_)⟩))
  repeat (any_goals (first | assumption | wp_step))
  refine codeAny_mono (R := wants (fun v t => v = .ref s.heap.objs.size ∧ t = { s with heap := s.heap.push (bare w) }) E) (code_set_led1 _ ⟨rfl, rfl⟩) ?_
  rintro (e | _ | v | _ | _) s1 h1 <;> try exact h1
  obtain ⟨rfl, rfl⟩ := h1
  have there : (s.heap.push (bare w)).get? s.heap.objs.size = some (bare w) := Heap.get?_push_size _ rfl
  have isS : Shared.TypeIs { s with heap := s.heap.push (bare w) } (.ref s.heap.objs.size) "set" := ⟨_, there, rfl⟩
  have look := ft.init.lookup
  have bnd := ft.init.bind (.ref s.heap.objs.size)
  repeat (any_goals (first | assumption | wp_step))
  refine codeAny_mono (R := wants (fun v s3 => v = .none ∧ Q (.ref s.heap.objs.size) s3) E) (codeAny_call_builtin ft.init.plain PySem.F.entry_set_init (check_set_init_1 isS ?_)) ?_
  · obtain ⟨o, ho, hc⟩ := hT
    have hT1 : Shared.TypeIs { s with heap := s.heap.push (bare w) } (.ref l) T := ⟨o, Heap.get?_push_of_some _ ho, hc⟩
    unfold Builtin.«set.__init__» noKeywords Builtin.Frozenset.updateFrom
    generalize hg : pyIter = G at go ⊢
    wp_walk
    refine wpAny_mono (go _) (fun it s2 h2 => wpAny_bind (wpAny_runValue (codeAny_mono h2 ?_))) fun _ _ x => x
    rintro _ s3 ⟨rfl, q⟩
    exact wpAny_pure (wpAny_pure ⟨rfl, q⟩)
  · rintro (e | _ | v | _ | _) s3 h3 <;> try exact h3
    obtain ⟨rfl, q⟩ := h3
    repeat (any_goals (first | assumption | wp_step))
theorem apart {l S : Nat} (h : l < S) : S ∉ [S + 1, l] ∧ l ≠ S + 1 ∧ l ∉ [S + 1] := by
  refine ⟨fun z => ?_, by omega, fun z => ?_⟩
  · rcases List.mem_cons.mp z with z | z
    · omega
    · have := List.mem_singleton.mp z
      omega
  · have := List.mem_singleton.mp z
    omega
/-- set(xs), xs a list or a tuple: what stays true as the items are added one by one -/
theorem call_set {l : Addr} {us : Array Value} {J : Nat → Heap → Prop} {Q : Value → Shared → Prop} (src : s.heap.IsList l us ∨ s.heap.IsTuple l us) (hh : A.handled = none)
    (j0 : ∀ h, h.get? s.heap.objs.size = some (bare w) → (∀ b o, s.heap.get? b = some o → h.get? b = some o) → J 0 h)
    (keep : ∀ i h h', J i h → (∀ b o, b ≠ s.heap.objs.size + 1 → h.get? b = some o → h'.get? b = some o) → J i h')
    (add : ∀ i v (s1 : Shared) (E : Value → Shared → Prop), us[i]? = some v → J i s1.heap → wpAny (model P w) A.in1.in1.in1 (setAdd s.heap.objs.size v) (fun _ => Only s.heap.objs.size (J (i + 1)) s1) E s1)
    (q : ∀ h' tk, J us.size h' → (∀ b o, s.heap.get? b = some o → h'.get? b = some o) → Q (.ref s.heap.objs.size) { s with heap := h', toks := tk }) :
    wpAny (model P w) A (call (.type "set") [.ref l]) Q E s := by
  have hd : A.in1.in1.in1.handled = none := by simp [hh]
  have old : ∀ b o, s.heap.get? b = some o → (s.heap.push (bare w)).get? b = some o := fun b o e => Heap.get?_push_of_some _ e
  have sz : (s.heap.push (bare w)).objs.size = s.heap.objs.size + 1 := Heap.size_push ..
  have new : (s.heap.push (bare w)).get? s.heap.objs.size = some (bare w) := Heap.get?_push_size _ rfl
  have fin : ∀ (T : String) (L : l < s.heap.objs.size) (St : Nat → Heap → Prop) (ob : Obj), St 0 ((s.heap.push (bare w)).push ob) →
      Walks P w A.in1.in1.in1 (s.heap.push (bare w)).objs.size [(s.heap.push (bare w)).objs.size, l] [(s.heap.push (bare w)).objs.size] us.size (fun i v => us[i]? = some v) St →
      codeAny (model P w) A.in1.in1 (.builtin "set.update.loop" ⟨[.ref s.heap.objs.size, .ref (s.heap.push (bare w)).objs.size], []⟩) (fun r s3 => r = .ok (.ret .none) ∧ Q (.ref s.heap.objs.size) s3) { s with heap := (s.heap.push (bare w)).push ob } := by
    intro T L St ob st W
    rw [sz] at W ⊢
    have two : ∀ b o, s.heap.get? b = some o → ((s.heap.push (bare w)).push ob).get? b = some o := fun b o e => Heap.get?_push_of_some _ (old b o e)
    refine codeAny_mono (fill W (apart L).1 (fun i h h' j k => keep i h h' j fun b o hb => k b o (by simpa using hb)) (fun i v s1 E _ pv j => add i v s1 E pv j) us.size 0 _ (Nat.zero_add _) st (j0 _ (Heap.get?_push_of_some _ new) two)) ?_
    rintro _ _ ⟨rfl, h', tk, rfl, j, k⟩
    exact ⟨rfl, q h' tk j fun b o e => k b o (Nat.ne_of_lt (Heap.lt_size e)) (apart (Heap.lt_size e)).2.2 (two b o e)⟩
  rcases src with src | src
  · have L : l < s.heap.objs.size := by obtain ⟨o, ho, _⟩ := src; exact Heap.lt_size ho
    refine call_of src.typeIs PySem.F.sub_list_set PySem.F.sub_list_frozenset (by decide) fun E' => wpAny_pyIter_list (src.push _) (fin "list" L _ _ ⟨⟨_, Heap.get?_push_size _ rfl, rfl, rfl⟩, (src.push _).push _⟩ (Walks.list hd _ l ?_ us))
    rw [sz]; exact (apart L).2.1
  · have L : l < s.heap.objs.size := by obtain ⟨o, ho, _⟩ := src; exact Heap.lt_size ho
    refine call_of src.typeIs PySem.F.sub_tuple_set PySem.F.sub_tuple_frozenset (by decide) fun E' => wpAny_pyIter_tuple (src.push _) (fin "tuple" L _ _ ⟨⟨_, Heap.get?_push_size _ rfl, rfl, rfl⟩, (src.push _).push _⟩ (Walks.tuple hd _ l ?_ us))
    rw [sz]; exact (apart L).2.1
end
end ZS
end
section
set_option maxHeartbeats 2000000
/-! sets whose members are found by a scan: ints, texts, bools, None -/
namespace ZS
open PySem PySem.Spec PyProof.Rows L2
open PySem.Froz (sObj SD tailTx addTail_x)
section
variable {P : Program} {w : World} {A : Around} {E : Value → Shared → Prop} {s : Shared} {K : Type} [DecidableEq K] [BEq K] [LawfulBEq K] {knd : KeyKind P w K}
noncomputable def Apart (knd : KeyKind P w K) (e e' : Int × Value) : Prop := ∀ k, ¬(knd.is k e.2 = true ∧ knd.is k e'.2 = true)
/-- what a table tells that can be walked -/
structure Tab (w : World) (t : SetTable) (n : Nat) : Prop where
  fits : t.fits n = true
  ris : Ris t.place.toList
  led : w.params.followText "set-order" = true ∨ t.led = true
structure Scan (knd : KeyKind P w K) (D : SD) (L : List K) : Prop where
  el : ElemsOf knd D.1.toList
  mem : ∀ k, k ∈ L ↔ ∃ e ∈ D.1.toList, knd.is k e.2 = true
  ap : D.1.toList.Pairwise (Apart knd)
  few : D.1.size ≤ L.length
  tab : Tab w D.2.2 D.1.size
theorem Scan.perm {es es' : Array (Int × Value)} {ep ep' : Nat} {t t' : SetTable} {L : List K} (R : Scan knd (es, ep, t) L) (p : es'.toList.Perm es.toList) (T : Tab w t' es'.size) : Scan knd (es', ep', t') L where
  el := fun e he => R.el e (p.mem_iff.mp he)
  mem := fun k => (R.mem k).trans (exists_congr fun e => and_congr_left fun _ => p.mem_iff.symm)
  ap := (p.pairwise_iff fun x k z => x k z.symm).mpr R.ap
  few := by
    have := p.length_eq
    rw [Array.length_toList, Array.length_toList] at this
    exact this ▸ R.few
  tab := T
/-- the payload behind what may be a laying anew -/
theorem Scan.tail {es : Array (Int × Value)} {ep : Nat} {t : SetTable} {L : List K} (R : Scan knd (es, ep, t) L) (wd : Bool) : Scan knd (tailTx ep es t wd) L := by
  unfold tailTx
  split
  · exact R.perm (relayAll_perm t es _) ⟨relayAll_fits t es _, relayAll_ris t es _, R.tab.led.imp id fun z => (relayAll_led t es _).trans z⟩
  · exact R.perm (.refl _) R.tab
theorem is_one {k k' : K} {x : Value} (h : knd.is k x = true) : knd.is k' x = true ↔ k' = k := ⟨fun h' => knd.inj x k' k h' h, fun e => e ▸ h⟩
/-- a member more -/
theorem Scan.more {es es' : Array (Int × Value)} {ep ep' : Nat} {t t' : SetTable} {L : List K} {k : K} {x : Value} (R : Scan knd (es, ep, t) L) (hx : knd.is k x = true) (hs : x.scannable = true) (hk : k ∉ L)
    (p : es'.toList.Perm ((knd.hash k, x) :: es.toList)) (T : Tab w t' es'.size) : Scan knd (es', ep', t') (L ++ [k]) where
  el := fun e he => by
    rcases List.mem_cons.mp (p.mem_iff.mp he) with rfl | he
    · exact ⟨⟨k, hx, rfl⟩, hs⟩
    · exact R.el e he
  mem := fun k' => by
    rw [List.mem_append, List.mem_singleton, R.mem k', ← is_one hx]
    constructor
    · rintro (⟨e, he, q⟩ | q)
      · exact ⟨e, p.mem_iff.mpr (List.mem_cons_of_mem _ he), q⟩
      · exact ⟨_, p.mem_iff.mpr List.mem_cons_self, q⟩
    · rintro ⟨e, he, q⟩
      rcases List.mem_cons.mp (p.mem_iff.mp he) with rfl | he
      · exact .inr q
      · exact .inl ⟨e, he, q⟩
  ap := (p.pairwise_iff fun x k z => x k z.symm).mpr (List.pairwise_cons.mpr ⟨fun e he k' z => hk ((R.mem k).mpr ⟨e, he, ((is_one hx).mp z.1) ▸ z.2⟩), R.ap⟩)
  few := by
    have := p.length_eq
    rw [List.length_cons, Array.length_toList, Array.length_toList] at this
    rw [List.length_append]
    exact this ▸ Nat.succ_le_succ R.few
  tab := T
/-- the set at a has just the members of L -/
noncomputable def ScanAt (knd : KeyKind P w K) (h : Heap) (a : Addr) (L : List K) : Prop := ∃ D, h.get? a = some (sObj "set" D) ∧ Scan knd D L
theorem scan_bare {h : Heap} {a : Addr} (e : h.get? a = some (bare w)) : ScanAt knd h a [] :=
  ⟨_, e, fun _ z => (by simp at z), fun k => by simp, .nil, Nat.le_refl _, rfl, .nil, by
    show _ ∨ (!w.params.followText "set-order") = true
    cases w.params.followText "set-order"
    · exact .inr rfl
    · exact .inl rfl⟩
theorem put_one {h : Heap} {a : Addr} {X Y : Obj} (e : h.get? a = some X) (hf : Y.isFreed = false) : (h.update a fun _ => Y).get? a = some Y := PySem.Froz.get_upd Y e hf
theorem only_refl {a : Addr} {J : Heap → Prop} (j : J s.heap) : Only a J s s := ⟨s.heap, s.toks, rfl, .refl _ _, j⟩
theorem scan_hashed {a : Addr} {L : List K} {k : K} {x : Value} (R : ScanAt knd s.heap a L) (hx : knd.is k x = true) (hs : x.scannable = true) (few : L.length + 1 < scanBound) :
    wpAny (model P w) A (setAddHashed a x (knd.hash k)) (fun _ => Only a (fun h => ScanAt knd h a (L ++ [k])) s) E s := by
  obtain ⟨⟨es, ep, t⟩, at_, R⟩ := R
  have lt : es.size < scanBound := Nat.lt_of_le_of_lt R.few (by omega)
  have say : ∀ (b : Bool) (s₁ : Shared) (Q : Unit → Shared → Prop), Q () s₁ → wpAny (model P w) A (match b with | true => rule "set.scan.the-table-gave-way" | false => pure ()) Q E s₁ := fun b _ _ q => by
    cases b
    · exact wpAny_pure q
    · exact wpAny_rule q
  unfold setAddHashed setAddHashedIn
  refine wpAny_holding (wpAny_bind (wpAny_setState_of at_ rfl R.tab.fits ?_))
  dsimp only
  rw [byScan_of hs lt R.el, if_pos rfl]
  unfold setAddByScan
  refine wpAny_bind (wpAny_bind (wpAny_rule (wpAny_bind (wpAny_setScan_of hx at_ rfl R.tab.fits R.el ?_))))
  cases hf : List.findIdx? (fun e => knd.is k e.2) es.toList with
  | some j =>
    obtain ⟨hj, is_, _⟩ := List.findIdx?_eq_some_iff_getElem.mp hf
    have inL := (R.mem k).mpr ⟨_, List.getElem_mem hj, is_⟩
    refine wpAny_pure (wpAny_pure (only_refl ⟨_, at_, R.el, fun k' => ?_, R.ap, Nat.le_trans R.few (by simp), R.tab⟩))
    rw [List.mem_append, List.mem_singleton, ← R.mem k']
    exact ⟨fun z => z.elim id fun e => e ▸ inL, .inl⟩
  | none =>
    have outL : k ∉ L := fun z => by
      obtain ⟨e, he, q⟩ := (R.mem k).mp z
      exact absurd q (by rw [List.findIdx?_eq_none_iff.mp hf e he]; decide)
    have p := layNew_perm t es (knd.hash k) x
    have T : Tab w (layNew t es (knd.hash k) x).2.1 (layNew t es (knd.hash k) x).1.size := ⟨layNew_fits .., layNew_ris _ _ _ _ R.tab.ris, R.tab.led.imp id fun z => (layNew_led ..).trans z⟩
    generalize layNew t es (knd.hash k) x = Z at p T
    obtain ⟨es1, t1, wd, gave⟩ := Z
    dsimp only at p T ⊢
    rw [Array.toList_push] at p
    have p := p.trans (List.perm_append_singleton _ _)
    have lt1 : es1.size < scanBound := by
      have := p.length_eq
      rw [List.length_cons, Array.length_toList, Array.length_toList] at this
      have := R.few
      dsimp only at this
      omega
    have done : ∀ t2, Tab w t2 es1.size → Only a (fun h => ScanAt knd h a (L ++ [k])) s { s with heap := s.heap.update a fun _ => sObj "set" (tailTx ep es1 t2 wd) } := fun t2 T2 =>
      ⟨_, s.toks, rfl, .update .., _, put_one at_ rfl, (R.more hx hs outL p T2).tail wd⟩
    refine wpAny_bind (say _ _ _ ?_)
    split
    · rw [hashByValue_scannable 8 hs]
      refine wpAny_bind (wpAny_pure (addTail_x say at_ lt1 (wpAny_pure (done _ ?_))))
      split
      · exact T
      · exact ⟨SetTable.fits_plain_off T.fits, T.ris, T.led⟩
    · exact wpAny_bind (wpAny_pure (addTail_x say at_ lt1 (wpAny_pure (done _ T))))
theorem scan_add {a : Addr} {L : List K} {k : K} {x : Value} (R : ScanAt knd s.heap a L) (hx : knd.is k x = true) (hs : x.scannable = true) (few : L.length + 1 < scanBound) :
    wpAny (model P w) A (setAdd a x) (fun _ => Only a (fun h => ScanAt knd h a (L ++ [k])) s) E s := by
  unfold setAdd
  refine wpAny_holding (wpAny_bind (knd.pyHash hx (wpAny_mono (scan_hashed (s := { s with toks := s.toks + 1 }) R hx hs few) ?_ fun _ _ z => z)))
  rintro _ _ ⟨h', tk, rfl, sb, j⟩
  exact ⟨h', tk, rfl, sb, j⟩
/-- set(xs), xs a list or tuple of what a scan finds -/
theorem call_scan {l : Addr} {us : Array Value} {L : List K} {Q : Value → Shared → Prop} (src : s.heap.IsList l us ∨ s.heap.IsTuple l us) (hh : A.handled = none) (few : L.length < scanBound)
    (is_ : PySem.W.EachIs (fun v k => knd.is k v = true ∧ v.scannable = true) us.toList L)
    (q : ∀ h' tk, ScanAt knd h' s.heap.objs.size L → (∀ b o, s.heap.get? b = some o → h'.get? b = some o) → Q (.ref s.heap.objs.size) { s with heap := h', toks := tk }) :
    wpAny (model P w) A (call (.type "set") [.ref l]) Q E s := by
  have len : us.size = L.length := by rw [← Array.length_toList, PySem.W.EachIs.length is_]
  have atI : ∀ {us : List Value} {L : List K}, PySem.W.EachIs (fun v k => knd.is k v = true ∧ v.scannable = true) us L → ∀ (i : Nat) (v : Value), us[i]? = some v → ∃ k, L[i]? = some k ∧ knd.is k v = true ∧ v.scannable = true := by
    intro us L h
    induction h with
    | nil => intro i v e; simp at e
    | cons h _ ih =>
      intro i v e
      cases i with
      | zero => cases e; exact ⟨_, rfl, h⟩
      | succ i => exact ih i v e
  refine call_set (J := fun i h => ScanAt knd h s.heap.objs.size (L.take i)) src hh (fun h e _ => scan_bare e) (fun i h h' ⟨D, e, R⟩ k => ⟨D, k _ _ (Nat.ne_of_lt (Nat.lt_succ_self _)) e, R⟩) (fun i v s1 E pv R => ?_) fun h' tk R k => q h' tk ?_ k
  · obtain ⟨k, hk, hx, hs⟩ := atI is_ i v (by rw [Array.getElem?_toList]; exact pv)
    have lt : i < L.length := (List.getElem?_eq_some_iff.mp hk).1
    have e : L.take (i + 1) = L.take i ++ [k] := by rw [List.take_add_one, hk] <;> rfl
    rw [e]
    exact scan_add R hx hs (by rw [List.length_take]; omega)
  · rw [len, List.take_length] at R
    exact R
end
end ZS
end
section
set_option maxHeartbeats 2000000
/-! sorted(a set), by what its members read as -/
namespace ZS
open PySem PySem.Spec PyProof.Rows L2
open PySem.Froz (sObj SD)
theorem each_of {α β : Type} {R : α → β → Prop} : ∀ (l : List α), (∀ a ∈ l, ∃ b, R a b) → ∃ bs, PySem.W.EachIs R l bs
  | [], _ => ⟨[], .nil⟩
  | a :: l, h => by
    obtain ⟨b, hb⟩ := h a List.mem_cons_self
    obtain ⟨bs, hs⟩ := each_of l fun x hx => h x (List.mem_cons_of_mem _ hx)
    exact ⟨b :: bs, .cons hb hs⟩
theorem each_mem_iff {α β : Type} {R : α → β → Prop} (one : ∀ a b b', R a b → R a b' → b = b') : ∀ {l : List α} {bs : List β}, PySem.W.EachIs R l bs → ∀ b, b ∈ bs ↔ ∃ a ∈ l, R a b
  | _, _, .nil, b => by simp
  | _, _, .cons h hs, b => by
    have ih := each_mem_iff one hs b
    constructor
    · intro z
      rcases List.mem_cons.mp z with rfl | z
      · exact ⟨_, List.mem_cons_self, h⟩
      · obtain ⟨a, ha, r⟩ := ih.mp z
        exact ⟨a, List.mem_cons_of_mem _ ha, r⟩
    · rintro ⟨a, ha, r⟩
      rcases List.mem_cons.mp ha with rfl | ha
      · exact one _ _ _ r h ▸ List.mem_cons_self
      · exact List.mem_cons_of_mem _ (ih.mpr ⟨a, ha, r⟩)
theorem each_nodup {α β : Type} {R : α → β → Prop} (one : ∀ a b b', R a b → R a b' → b = b') : ∀ {l : List α} {bs : List β}, PySem.W.EachIs R l bs → l.Pairwise (fun a a' => ∀ b, ¬(R a b ∧ R a' b)) → bs.Nodup
  | _, _, .nil, _ => .nil
  | _, _, .cons h hs, p => by
    obtain ⟨p1, p2⟩ := List.pairwise_cons.mp p
    refine List.nodup_cons.mpr ⟨fun z => ?_, each_nodup one hs p2⟩
    obtain ⟨a, ha, r⟩ := (each_mem_iff one hs _).mp z
    exact p1 a ha _ ⟨h, r⟩
section
variable {P : Program} {w : World} {A : Around} {E : Value → Shared → Prop} {s : Shared}
theorem sorted_of {a : Addr} {D : SD} {β : Type} {R : Value → β → Prop} (enc : β → PyData) {Q : Value → Shared → Prop} (at_ : s.heap.get? a = some (sObj "set" D)) (T : Tab w D.2.2 D.1.size) (few : D.1.size < scanBound) (hh : A.handled = none)
    (one : ∀ v b b', R v b → R v b' → b = b') (ms : ∀ e ∈ D.1.toList, ∃ b, R e.2 b)
    (rd : ∀ e ∈ D.1.toList, ∀ b h', R e.2 b → (∀ c o, s.heap.get? c = some o → h'.get? c = some o) → Reads h' e.2 (enc b) [])
    (al : ∀ b b', PySem.W.alike (enc b) (enc b') = true) (so : ∀ bs : List β, PySem.W.Sortable (bs.map enc)) (dp : ∀ b, (enc b).depth ≤ 1) (hu : A.units + 8 < cLine)
    (hQ : ∀ s' p (out : List Value) (c : Nat) (bs : List β), (∀ b o, s.heap.get? b = some o → s'.heap.get? b = some o) → s'.gens = s.gens → s'.os = s.os → s.heap.objs.size ≤ p → s'.heap.get? p = some (seqObj "list" (List.toArray out) c) →
      PySem.W.EachIs R out (bs.mergeSort (PySem.W.dataLe false enc)) → (∀ v ∈ out, ∃ e ∈ D.1.toList, v = e.2) → (∀ b, b ∈ bs ↔ ∃ e ∈ D.1.toList, R e.2 b) → (D.1.toList.Pairwise (fun e e' => ∀ b, ¬(R e.2 b ∧ R e'.2 b)) → bs.Nodup) → bs.length = D.1.size → Q (.ref p) s') :
    wpAny (model P w) A (call (.builtin "sorted") [.ref a]) Q E s := by
  obtain ⟨es, ep, t⟩ := D
  refine Calls.call_function_entry kind_sorted plain_sorted entry_sorted (args_sorted1 _) ?_
  unfold Builtin.«sorted»
  refine wpAny_bind (m := checkCount "sorted" 1 1 _) (wpAny_pure ?_)
  refine wpAny_bind (collect_set (A := A.in1) hh ⟨_, at_, rfl, rfl⟩ T.fits few T.ris T.led fun s1 vs k1 hz g1 o1 pm => ?_)
  have from_ : ∀ v ∈ vs, ∃ e ∈ es.toList, v = e.2 := fun v hv => by
    obtain ⟨e, he, q⟩ := List.mem_map.mp (pm.mem_iff.mp hv)
    exact ⟨e, he, q.symm⟩
  obtain ⟨bs, eb⟩ := each_of (R := fun v b => R v b ∧ ∃ e ∈ es.toList, v = e.2) vs fun v hv => by
    obtain ⟨e, he, rfl⟩ := from_ v hv
    obtain ⟨b, hb⟩ := ms e he
    exact ⟨b, hb, e, he, rfl⟩
  have one' : ∀ v b b', (R v b ∧ ∃ e ∈ es.toList, v = e.2) → (R v b' ∧ ∃ e ∈ es.toList, v = e.2) → b = b' := fun v b b' h h' => one v b b' h.1 h'.1
  have lv : vs.length = es.size := by rw [pm.length_eq, List.length_map, Array.length_toList]
  have lb := PySem.W.EachIs.length eb
  have sl : vs.length ≤ sizeLine := by
    rw [lv, sizeLine_eq]
    unfold scanBound at few
    dsimp only at few
    omega
  have mem : ∀ b, b ∈ bs ↔ ∃ e ∈ es.toList, R e.2 b := fun b => by
    rw [each_mem_iff one' eb b]
    constructor
    · rintro ⟨v, _, r, e, he, rfl⟩
      exact ⟨e, he, r⟩
    · rintro ⟨e, he, r⟩
      exact ⟨e.2, pm.mem_iff.mpr (List.mem_map.mpr ⟨e, he, rfl⟩), r, e, he, rfl⟩
  refine wpAny_bind (wpAny_newList ?_ sl)
  have new : (s1.heap.push (seqObj "list" vs.toArray 0)).get? s1.heap.objs.size = some (seqObj "list" vs.toArray 0) := Heap.get?_push_size _ rfl
  have more : ∀ c o, s.heap.get? c = some o → (s1.heap.push (seqObj "list" vs.toArray 0)).get? c = some o := fun c o e => Heap.get?_push_of_some _ (k1 c o e)
  have all : PySem.W.AllAlike (bs.map enc) := PySem.W.AllAlike.of al
  refine wpAny_bind (wpAny_holding (PySem.W.list_sort_data (s := { s1 with heap := s1.heap.push (seqObj "list" vs.toArray 0) }) new eb (eb.mono fun v b ⟨r, e, he, z⟩ => ⟨[], by rw [z] at r ⊢; exact rd e he b _ r more, by simp⟩) all (so bs) (by rw [← lb]; exact sl) (fun b _ => ?_) fun out lo eo => ?_))
  · have := dp b
    have e1 : A.in1.units = A.units + 1 := Around.in1_units A
    omega
  · obtain ⟨c, hc⟩ := sortedHeap_at (vs := vs) (out := out.toArray) new
    refine wpAny_pure ⟨_, rfl, hQ _ s1.heap.objs.size out c bs (fun b u e => ?_) g1 o1 hz hc (eo.mono fun _ _ z => z.1) (fun v hv => ?_) mem (fun pw => each_nodup one' eb ?_) (by rw [← lb, lv])⟩
    · have q := k1 b u e
      have lt := Heap.lt_size q
      exact (sortedHeap_old (Nat.ne_of_lt lt) (by rw [size_push']; exact Nat.lt_succ_of_lt lt)).trans (Heap.get?_push_of_some _ q)
    · obtain ⟨b, _, z⟩ := PySem.W.EachIs.left eo v hv
      exact z.2
    · refine (pm.pairwise_iff fun x b z => x b z.symm).mpr (List.pairwise_map.mpr ?_)
      exact pw.imp fun x b z => x b ⟨z.1.1, z.2.1⟩
end
end ZS
end
section
set_option maxHeartbeats 2000000
/-! set(texts), sorted(a set of texts) as words -/
namespace ZS
open PySem PySem.Spec PyProof.Rows L2
/-- a call that leaves all as it was beside a new list -/
theorem inv_list {X : Cx} {pins : List (Addr × Obj)} {σ : L2.St} {H : Hp} {s s' : Shared} (I : L2.Inv X pins σ H s) {p : Addr} {out : List Value} {c : Nat} {ys : List V} (k : ∀ b o, s.heap.get? b = some o → s'.heap.get? b = some o) (g : s'.gens = s.gens) (o : s'.os = s.os)
    (hp : s.heap.objs.size ≤ p) (hg : s'.heap.get? p = some (seqObj "list" out.toArray c)) (r : Vals ys out) (hz : ys.length ≤ sizeLine) : H p = none ∧ L2.Inv X pins σ (upd H p (.lst ys)) s' := by
  have free : H p = none := I.hok.fresh hp
  exact ⟨free, I.call' (ch := []) o (Un.laid k hp free) (I.hok.laid k hp (show ObjOk X.prog X.w _ s'.heap p (.lst ys) from ⟨hz, out, c, r, hg⟩)) (g ▸ I.bare) (fun _ z => nomatch z)⟩
end ZS
namespace SX
open PySem PySem.Spec PyProof.Rows L2 ZS
/-- the set at a holds just the texts ks -/
noncomputable def SetO (w : World) (a : Addr) (ks : List Str) : HO := .ext fun h => ∃ P : Program, ScanAt (strKind P w) h a ks
theorem setO_new {P : Program} {w : World} {H : Hp} {h : Heap} {a : Addr} {ks : List Str} (R : ScanAt (strKind P w) h a ks) : ObjOk P w H h a (SetO w a ks) :=
  ⟨⟨P, R⟩, let ⟨_, e, _⟩ := R; ⟨_, e⟩, fun _ _ ⟨P', D, e, S⟩ k => ⟨P', D, k _ e, S⟩⟩
theorem each_strs {P : Program} {w : World} : ∀ {ks : List Str} {us : List Value}, Vals (ks.map V.str) us → PySem.W.EachIs (fun v k => (strKind P w).is k v = true ∧ v.scannable = true) us ks
  | [], _, .nil => .nil
  | k :: ks, _, .cons ⟨t, e⟩ rs => .cons (by subst e; exact ⟨strKind_is P w k t, rfl⟩) (each_strs rs)
theorem strs_each : ∀ {ks : List Str} {us : List Value}, PySem.W.EachIs (fun v k => ∃ t, v = Value.str k t) us ks → Vals (ks.map V.str) us
  | _, _, .nil => .nil
  | _, _, .cons h hs => .cons h (strs_each hs)
theorem rising_of : ∀ (p : Str) (l : List Str), (p :: l).Pairwise (fun a b => a.cps.toList ≤ b.cps.toList) → risingS p l = true
  | _, [], _ => rfl
  | p, x :: l, h => by
    obtain ⟨h1, h2⟩ := List.pairwise_cons.mp h
    show (!PySem.Spec.ltCps x.cps.toList p.cps.toList && risingS x l) = true
    rw [rising_of x l h2, ltCps_eq, decide_eq_false (List.not_lt.mpr (h1 x List.mem_cons_self))]
    rfl
theorem sorted_of_le : ∀ (l : List Str), l.Pairwise (fun a b => a.cps.toList ≤ b.cps.toList) → sortedS l = true
  | [], _ => rfl
  | x :: l, h => rising_of x l h
section
variable {X : Cx}
noncomputable def rSet (K : PySem.W.Frag) (w : World) : List V → Hp → VK → Prop := fun xs H Q => ∃ (l : Addr) (ks : List Str), xs = [V.ref l] ∧ (SqL K H l (ks.map V.str) ∨ SqT K H l (ks.map V.str)) ∧ ks.length < 4000 ∧ ∀ a, H a = none → Q (.ref a) (upd H a (SetO w a ks))
theorem cr_set (hc : X.calm = true) : CallR X (.type "set") (rSet X.K X.w) := by
  rintro pins s σ H _ us Q I r ⟨l, ks, rfl, hl, few, q⟩
  rw [Vals.ref1 r]
  have src : ∃ its, Vals (ks.map V.str) its ∧ (s.heap.IsList l its.toArray ∨ s.heap.IsTuple l its.toArray) := by
    rcases hl with hl | hl
    · obtain ⟨its, rv, pl, _⟩ := I.list hl
      exact ⟨its, rv, .inl pl.isList⟩
    · obtain ⟨its, rv, pt, _⟩ := I.tuple hl
      exact ⟨its, rv, .inr pt⟩
  obtain ⟨its, rv, src⟩ := src
  refine call_scan (knd := strKind X.prog X.w) (L := ks) src (I.ok.hd hc) (by unfold scanBound; omega) (by simpa using each_strs rv) fun h' tk R k => ?_
  exact ⟨.ref s.heap.objs.size, _, I.laid (t' := tk) k (Nat.le_refl _) (setO_new R), rfl, q _ (I.hok.fresh (Nat.le_refl _))⟩
noncomputable def rSorted (w : World) : List V → Hp → VK → Prop := fun vs H Q => ∃ (a : Addr) (ks : List Str), vs = [V.ref a] ∧ H a = some (SetO w a ks) ∧ ks.length < 4000 ∧
  ∀ (ys : List Str) (p : Addr), sortedS ys = true → ys.Nodup → (∀ k, k ∈ ys ↔ k ∈ ks) → H p = none → Q (.ref p) (upd H p (.lst (ys.map V.str)))
theorem cr_sorted (hc : X.calm = true) (hu : X.A.units + 64 < cLine) : CallR X (.builtin "sorted") (rSorted X.w) := by
  rintro pins s σ H _ us Q I r ⟨a, ks, rfl, ha, few, q⟩
  rw [Vals.ref1 r]
  obtain ⟨P, D, e, S⟩ := (I.hok a _ ha).1
  have lt : D.1.size < scanBound := by
    have := S.few
    unfold scanBound
    omega
  have shape : ∀ e ∈ D.1.toList, ∃ k t, e.2 = Value.str k t ∧ ∀ k', (strKind P X.w).is k' e.2 = true ↔ k' = k := fun e he => by
    obtain ⟨⟨k, hk, _⟩, _⟩ := S.el e he
    obtain ⟨t, ht⟩ := Value.isStrOf_shape (show Value.isStrOf k e.2 = true from hk)
    exact ⟨k, t, ht, fun k' => is_one hk⟩
  have same : ∀ e ∈ D.1.toList, ∀ k, (∃ t, e.2 = Value.str k t) ↔ (strKind P X.w).is k e.2 = true := fun e he k => by
    obtain ⟨k1, t1, e1, i1⟩ := shape e he
    rw [i1 k, e1]
    exact ⟨fun ⟨t, z⟩ => by cases z; rfl, fun z => ⟨t1, by rw [z]⟩⟩
  refine sorted_of (R := fun v k => ∃ t, v = Value.str k t) PyData.str e S.tab lt (I.ok.hd hc) ?_ ?_ ?_ (fun _ _ => rfl) (fun bs => PySem.W.Sortable.others fun b => ⟨(fun z => nomatch z), (fun _ z => nomatch z)⟩) (fun _ => Nat.zero_le _) (by omega) ?_
  · rintro v b b' ⟨t, rfl⟩ ⟨t', z⟩
    cases z
    rfl
  · intro e he
    obtain ⟨k, t, h, _⟩ := shape e he
    exact ⟨k, t, h⟩
  · rintro e he b h' ⟨t, z⟩ _
    rw [z]
    exact .str b t
  · intro s' p out c bs k g o hp hg er _ mem nd len
    have pm := List.mergeSort_perm bs (PySem.W.dataLe false PyData.str)
    have ln : ((bs.mergeSort (PySem.W.dataLe false PyData.str)).map V.str).length ≤ sizeLine := by
      rw [List.length_map, pm.length_eq, len, sizeLine_eq]
      unfold scanBound at lt
      omega
    obtain ⟨free, J⟩ := inv_list I k g o hp hg (strs_each er) ln
    refine ⟨.ref p, _, J, rfl, q _ p (sorted_of_le _ ?_) (pm.nodup_iff.mpr (nd (S.ap.imp_of_mem fun ha hb z b y => z b ⟨(same _ ha b).mp y.1, (same _ hb b).mp y.2⟩))) (fun b => ?_) free⟩
    · have le := PySem.W.dataLe_str (k := fun b : Str => b)
      rw [show (PySem.W.dataLe false PyData.str) = fun a b : Str => decide (a.cps.toList ≤ b.cps.toList) from le]
      refine (List.pairwise_mergeSort (fun a b c h1 h2 => ?_) (fun a b => ?_) bs).imp fun h => of_decide_eq_true h
      · exact decide_eq_true (List.le_trans (of_decide_eq_true h1) (of_decide_eq_true h2))
      · rw [Bool.or_eq_true, decide_eq_true_eq, decide_eq_true_eq]
        exact List.le_total _ _
    · rw [pm.mem_iff, mem b, S.mem b]
      exact exists_congr fun e => and_congr_right fun he => same e he b
end
end SX
end
section
namespace TM
/-! the mathematics of lists of days -/
noncomputable def onL (ns : List Int) (x : Int) : Int := ns.getD (x % (ns.length : Int)).toNat 0 + x / (ns.length : Int) * (ns.length : Int)
structure Good (ns : List Int) : Prop where
  pos : 1 ≤ ns.length
  most : ns.length ≤ 600
  up : ∀ i j : Nat, i ≤ j → j < ns.length → ns.getD i 0 ≤ ns.getD j 0
  span : ns.getD (ns.length - 1) 0 - ns.getD 0 0 ≤ (ns.length : Int)
section
variable {ns : List Int} (g : Good ns)
include g
theorem Good.posI : (0 : Int) < (ns.length : Int) := by have := g.pos; omega
theorem on_at {i : Nat} (hi : i < ns.length) (t : Int) : onL ns ((i : Int) + t * (ns.length : Int)) = ns.getD i 0 + t * (ns.length : Int) := by
  have hp := g.posI
  unfold onL
  have e1 : ((i : Int) + t * (ns.length : Int)) % (ns.length : Int) = (i : Int) := by
    rw [Int.add_mul_emod_self_right, Int.emod_eq_of_lt (by omega) (by omega)]
  have e2 : ((i : Int) + t * (ns.length : Int)) / (ns.length : Int) = t := by
    rw [Int.add_mul_ediv_right _ _ (by omega), Int.ediv_eq_zero_of_lt (by omega) (by omega), Int.zero_add]
  rw [e1, e2, Int.toNat_natCast]
theorem split_at (x : Int) : ∃ (i : Nat) (t : Int), i < ns.length ∧ x = (i : Int) + t * (ns.length : Int) := by
  have hp := g.posI
  refine ⟨(x % (ns.length : Int)).toNat, x / (ns.length : Int), ?_, ?_⟩
  · have h1 := Int.emod_nonneg x (show (ns.length : Int) ≠ 0 by omega)
    have h2 := Int.emod_lt_of_pos x hp
    omega
  · have h1 := Int.emod_nonneg x (show (ns.length : Int) ≠ 0 by omega)
    rw [Int.toNat_of_nonneg h1]
    have := Int.emod_add_mul_ediv x (ns.length : Int)
    rw [Int.mul_comm] at this
    omega
theorem on_step (x : Int) : onL ns x ≤ onL ns (x + 1) := by
  obtain ⟨i, t, hi, rfl⟩ := split_at g x
  by_cases hl : i + 1 < ns.length
  · have e : (i : Int) + t * (ns.length : Int) + 1 = ((i + 1 : Nat) : Int) + t * (ns.length : Int) := by omega
    rw [e, on_at g hi, on_at g hl]
    have := g.up i (i + 1) (by omega) hl
    omega
  · have e0 : i + 1 = ns.length := by omega
    have e : (i : Int) + t * (ns.length : Int) + 1 = ((0 : Nat) : Int) + (t + 1) * (ns.length : Int) := by
      rw [Int.add_mul, Int.one_mul]; omega
    have h0 : 0 < ns.length := by omega
    rw [e, on_at g hi, on_at g h0, Int.add_mul, Int.one_mul]
    have := g.span
    have e1 : ns.length - 1 = i := by omega
    rw [e1] at this
    omega
theorem on_mono {x y : Int} (h : x ≤ y) : onL ns x ≤ onL ns y := by
  obtain ⟨k, hk⟩ : ∃ k : Nat, y = x + k := ⟨(y - x).toNat, by omega⟩
  subst hk
  clear h
  induction k with
  | zero => simp
  | succ k ih =>
    refine Int.le_trans ih ?_
    have := on_step g (x + k)
    have e : x + ((k + 1 : Nat) : Int) = x + (k : Int) + 1 := by omega
    rw [e]; exact this
end
/-- m is the first day with which y is served -/
noncomputable def IsBy (ns : List Int) (y m : Int) : Prop := y ≤ onL ns m ∧ onL ns (m - 1) < y
theorem isBy_uniq {ns : List Int} (g : Good ns) {y m k : Int} (h : IsBy ns y m) (h' : IsBy ns y k) : m = k := by
  have a1 : ¬ m ≤ k - 1 := fun q => by have := on_mono g q; have := h.1; have := h'.2; omega
  have a2 : ¬ k ≤ m - 1 := fun q => by have := on_mono g q; have := h'.1; have := h.2; omega
  omega
/-- so many of ns, from the left, are below d -/
noncomputable def IsCnt (ns : List Int) (d : Int) (c : Nat) : Prop := c ≤ ns.length ∧ (∀ i, i < c → ns.getD i 0 < d) ∧ ∀ i, c ≤ i → i < ns.length → d ≤ ns.getD i 0
theorem isBy_of_cnt {ns : List Int} (g : Good ns) {y : Int} {c : Nat} (h : IsCnt ns (y - (y - ns.getD 0 0 - 1) / (ns.length : Int) * (ns.length : Int)) c) :
    IsBy ns y ((c : Int) + (y - ns.getD 0 0 - 1) / (ns.length : Int) * (ns.length : Int)) := by
  have hp := g.posI
  have h0 : 0 < ns.length := by have := g.pos; omega
  generalize ht : (y - ns.getD 0 0 - 1) / (ns.length : Int) = t at *
  have hr1 := Int.emod_nonneg (y - ns.getD 0 0 - 1) (show (ns.length : Int) ≠ 0 by omega)
  have hr2 := Int.emod_lt_of_pos (y - ns.getD 0 0 - 1) hp
  have hr := Int.emod_add_mul_ediv (y - ns.getD 0 0 - 1) (ns.length : Int)
  rw [ht, Int.mul_comm] at hr
  obtain ⟨hc, hlo, hhi⟩ := h
  have c1 : 1 ≤ c := by
    refine Classical.byContradiction fun q => ?_
    have := hhi 0 (by omega) h0
    omega
  constructor
  · by_cases hl : c < ns.length
    · rw [on_at g hl]
      have := hhi c (Nat.le_refl _) hl
      omega
    · have e : c = ns.length := by omega
      have e2 : (c : Int) + t * (ns.length : Int) = ((0 : Nat) : Int) + (t + 1) * (ns.length : Int) := by rw [Int.add_mul, Int.one_mul]; omega
      rw [e2, on_at g h0, Int.add_mul, Int.one_mul]
      omega
  · have e : (c : Int) + t * (ns.length : Int) - 1 = ((c - 1 : Nat) : Int) + t * (ns.length : Int) := by omega
    rw [e, on_at g (by omega)]
    have := hlo (c - 1) (by omega)
    omega
theorem cnt_ex {ns : List Int} (g : Good ns) (d : Int) : ∃ c, IsCnt ns d c := by
  have key : ∀ n, n ≤ ns.length → ∃ c, c ≤ n ∧ (∀ i, i < c → ns.getD i 0 < d) ∧ ∀ i, c ≤ i → i < n → d ≤ ns.getD i 0 := by
    intro n
    induction n with
    | zero => exact fun _ => ⟨0, Nat.le_refl _, fun i h => absurd h (Nat.not_lt_zero _), fun i _ h => absurd h (Nat.not_lt_zero _)⟩
    | succ n ih =>
      intro hn
      obtain ⟨c, h1, h2, h3⟩ := ih (by omega)
      by_cases hd : d ≤ ns.getD n 0
      · exact ⟨c, by omega, h2, fun i q1 q2 => by
          by_cases e : i = n
          · subst e; exact hd
          · exact h3 i q1 (by omega)⟩
      · refine ⟨n + 1, Nat.le_refl _, fun i q => ?_, fun i q1 q2 => absurd q2 (by omega)⟩
        have := g.up i n (by omega) (by omega)
        omega
  exact key ns.length (Nat.le_refl _)
theorem by_ex {ns : List Int} (g : Good ns) (y : Int) : ∃ m, IsBy ns y m := by
  obtain ⟨c, hc⟩ := cnt_ex g (y - (y - ns.getD 0 0 - 1) / (ns.length : Int) * (ns.length : Int))
  exact ⟨_, isBy_of_cnt g hc⟩
open Classical in
noncomputable def byL (ns : List Int) (y : Int) : Int := if h : ∃ m, IsBy ns y m then Classical.choose h else 0
theorem byL_is {ns : List Int} (g : Good ns) (y : Int) : IsBy ns y (byL ns y) := by
  unfold byL
  rw [dif_pos (by_ex g y)]
  exact Classical.choose_spec (by_ex g y)
theorem byL_eq {ns : List Int} (g : Good ns) {y m : Int} (h : IsBy ns y m) : byL ns y = m := isBy_uniq g (byL_is g y) h
theorem by_le {ns : List Int} (g : Good ns) {x y : Int} : byL ns y ≤ x ↔ y ≤ onL ns x := by
  have h := byL_is g y
  constructor
  · exact fun q => Int.le_trans h.1 (on_mono g q)
  · intro q
    refine Classical.byContradiction fun n => ?_
    have := on_mono g (show x ≤ byL ns y - 1 by omega)
    have := h.2
    omega
/-- the day of a served one less itself is at most M, at least m -/
theorem on_le {ns : List Int} (g : Good ns) {M : Int} (h : ∀ i, i < ns.length → ns.getD i 0 - (i : Int) ≤ M) (x : Int) : onL ns x ≤ x + M := by
  obtain ⟨i, t, hi, rfl⟩ := split_at g x
  rw [on_at g hi]
  have := h i hi
  omega
end TM
end
section
namespace TM
/-! the mathematics of rules through rows -/
noncomputable def IsMinL (l : List Int) (m : Int) : Prop := m ∈ l ∧ ∀ y, y ∈ l → m ≤ y
noncomputable def IsMaxL (l : List Int) (m : Int) : Prop := m ∈ l ∧ ∀ y, y ∈ l → y ≤ m
theorem isMinL_ex : ∀ {l : List Int}, l ≠ [] → ∃ m, IsMinL l m
  | [], h => absurd rfl h
  | [a], _ => ⟨a, by simp, fun y hy => by simp at hy; omega⟩
  | a :: b :: l, _ => by
    obtain ⟨m, h1, h2⟩ := isMinL_ex (l := b :: l) (by simp)
    by_cases q : a ≤ m
    · exact ⟨a, by simp, fun y hy => by
        rcases List.mem_cons.mp hy with e | hy
        · omega
        · have := h2 y hy; omega⟩
    · exact ⟨m, List.mem_cons_of_mem _ h1, fun y hy => by
        rcases List.mem_cons.mp hy with e | hy
        · omega
        · exact h2 y hy⟩
theorem isMaxL_ex : ∀ {l : List Int}, l ≠ [] → ∃ m, IsMaxL l m
  | [], h => absurd rfl h
  | [a], _ => ⟨a, by simp, fun y hy => by simp at hy; omega⟩
  | a :: b :: l, _ => by
    obtain ⟨m, h1, h2⟩ := isMaxL_ex (l := b :: l) (by simp)
    by_cases q : m ≤ a
    · exact ⟨a, by simp, fun y hy => by
        rcases List.mem_cons.mp hy with e | hy
        · omega
        · have := h2 y hy; omega⟩
    · exact ⟨m, List.mem_cons_of_mem _ h1, fun y hy => by
        rcases List.mem_cons.mp hy with e | hy
        · omega
        · exact h2 y hy⟩
open Classical in
noncomputable def mxI (l : List Int) : Int := if h : ∃ m, IsMaxL l m then Classical.choose h else 0
open Classical in
noncomputable def mnI (l : List Int) : Int := if h : ∃ m, IsMinL l m then Classical.choose h else 0
noncomputable def early (L : Int) (r : Int × Int) (d : Int) : Int := r.2 + (d - r.1) / L * L
noncomputable def late (L : Int) (r : Int × Int) (d : Int) : Int := r.2 - (r.1 - d) / L * L
section
variable {L : Int} (hL : 0 < L)
include hL
omit hL in
omit hL in
omit hL in
end
noncomputable def earT (L : Int) (rs : List (Int × Int)) (d : Int) : Int := mxI (rs.map fun r => early L r d)
noncomputable def latT (L : Int) (rs : List (Int × Int)) (d : Int) : Int := mnI (rs.map fun r => late L r d)
section
variable {L : Int} {rs ss : List (Int × Int)} (h0 : rs ≠ [])
include h0
end
noncomputable def keptB (L : Int) (rs : List (Int × Int)) : Bool := rs.all fun r => rs.all fun o => decide (early L r o.1 ≤ o.2)
/-- the list of a rule's first days -/
noncomputable def listF (n : Nat) (f : Int → Int) : List Int := (List.range n).map fun (i : Nat) => f (i : Int)
section
variable {n : Nat} {f : Int → Int} (h1 : 1 ≤ n) (h2 : n ≤ 600) (hm : ∀ d e : Int, d ≤ e → f d ≤ f e) (hp : ∀ d : Int, f (d + (n : Int)) = f d + (n : Int))
include h1 h2 hm hp
omit h1 h2 hm in
end
/-- rows of a rule -/
noncomputable def Reads (ns : List Int) (rs : List (Int × Int)) : Prop := ∀ r, r ∈ rs → onL ns r.1 = r.2
noncomputable def endRows (ns : List Int) (first : Int) : List (Int × Int) := (List.range ns.length).map fun (i : Nat) => (first + (i : Int), onL ns (first + (i : Int)))
end TM
end
section
namespace TM
/-! the mathematics of two rules -/
noncomputable def Per (f : Int → Int) (n : Int) : Prop := ∀ x, f (x + n) = f x + n
noncomputable def Mono (f : Int → Int) : Prop := ∀ d e : Int, d ≤ e → f d ≤ f e
noncomputable def tilL (ns : List Int) (y : Int) : Int := byL ns (y + 1) - 1
theorem til_le {ns : List Int} (g : Good ns) {x y : Int} : x ≤ tilL ns y ↔ onL ns x ≤ y := by
  have := by_le g (x := x) (y := y + 1)
  unfold tilL
  omega
/-- a rule told by a map with a period -/
structure Rule (n : Nat) (f : Int → Int) : Prop where
  pos : 1 ≤ n
  most : n ≤ 600
  mono : Mono f
  per : Per f (n : Int)
/-- the least length of a rule -/
structure Least (ns : List Int) (d : Nat) : Prop where
  pos : 1 ≤ d
  dvd : d ∣ ns.length
  per : Per (onL ns) (d : Int)
  min : ∀ e : Nat, 1 ≤ e → e ∣ ns.length → Per (onL ns) (e : Int) → d ≤ e
/-! behind, later, sooner and what is asked back -/
section
variable {ns ms : List Int} (g : Good ns) (k : Good ms) {L : Nat} (h1 : 1 ≤ L) (h2 : L ≤ 600) (hn : ns.length ∣ L) (hm : ms.length ∣ L)
include g k h1 h2 hn hm
end
end TM
end
section
set_option maxHeartbeats 2000000
/-! what is told: formulas and sayings, nested tuples -/
namespace TD
open PySem L2 Evl G TM
/-- a leaf, a part behind a thing of its own, a not, two parts -/
inductive Td where
  | lf (w : Str) (v : V)
  | ov (w : Str) (v : V) (t : Td)
  | nt (t : Td)
  | bi (w : Str) (t u : Td)
noncomputable def word : Td → Str
  | .lf w _ => w
  | .ov w _ _ => w
  | .nt _ => "not"
  | .bi w _ _ => w
noncomputable def kids : Td → List Td
  | .lf _ _ => []
  | .ov _ _ t => [t]
  | .nt t => [t]
  | .bi _ t u => [t, u]
noncomputable def At (H : Hp) : V → Td → Prop
  | x, .lf w v => ∃ a, x = .ref a ∧ H a = some (.tup [.str w, v])
  | x, .ov w v t => ∃ a y, x = .ref a ∧ H a = some (.tup [.str w, v, y]) ∧ At H y t
  | x, .nt t => ∃ a y, x = .ref a ∧ H a = some (.tup [.str "not", y]) ∧ At H y t
  | x, .bi w t u => ∃ a y z, x = .ref a ∧ H a = some (.tup [.str w, y, z]) ∧ At H y t ∧ At H z u
/-- all tuples stay -/
noncomputable def Tu (H H' : Hp) : Prop := ∀ a xs, H a = some (.tup xs) → H' a = some (.tup xs)
theorem Tu.trans {H H1 H2 : Hp} (a : Tu H H1) (b : Tu H1 H2) : Tu H H2 := fun x xs h => b x xs (a x xs h)
theorem Tu.ex {H H' : Hp} (e : Ex H H') : Tu H H' := fun a xs h => e a _ h
theorem Tu.put {H : Hp} {p : Addr} {o u : HO} (h : H p = some u) (hu : ∀ xs, u ≠ .tup xs) : Tu H (upd H p o) := fun a xs ha => by
  have : a ≠ p := fun z => by subst z; rw [h] at ha; exact hu xs (Option.some.inj ha)
  rw [upd_ne this]
  exact ha
theorem Tu.lst {H : Hp} {p : Addr} {o : HO} {ys : List V} (h : H p = some (.lst ys)) : Tu H (upd H p o) := Tu.put h fun _ z => by cases z
theorem At.mono {H H' : Hp} (e : Tu H H') : ∀ {t : Td} {x : V}, At H x t → At H' x t
  | .lf _ _, _, ⟨a, h, k⟩ => ⟨a, h, e a _ k⟩
  | .ov _ _ t, _, ⟨a, y, h, k, q⟩ => ⟨a, y, h, e a _ k, At.mono e q⟩
  | .nt t, _, ⟨a, y, h, k, q⟩ => ⟨a, y, h, e a _ k, At.mono e q⟩
  | .bi _ t u, _, ⟨a, y, z, h, k, q, r⟩ => ⟨a, y, z, h, e a _ k, At.mono e q, At.mono e r⟩
noncomputable abbrev Ats (H : Hp) : List V → List Td → Prop := Paired (At H)
theorem Ats.mono {H H' : Hp} (e : Tu H H') : ∀ {xs : List V} {ts : List Td}, Ats H xs ts → Ats H' xs ts
  | _, _, .nil => .nil
  | _, _, .cons h t => .cons (h.mono e) (Ats.mono e t)
theorem Ats.app {H : Hp} : ∀ {xs ys : List V} {ts us : List Td}, Ats H xs ts → Ats H ys us → Ats H (xs ++ ys) (ts ++ us)
  | _, _, _, _, .nil, h => h
  | _, _, _, _, .cons h t, k => .cons h (Ats.app t k)
theorem Ats.rev {H : Hp} : ∀ {xs : List V} {ts : List Td}, Ats H xs ts → Ats H xs.reverse ts.reverse
  | _, _, .nil => .nil
  | _, _, .cons h t => by
    rw [List.reverse_cons, List.reverse_cons]
    exact Ats.app (Ats.rev t) (.cons h .nil)
theorem Ats.len {H : Hp} : ∀ {xs : List V} {ts : List Td}, Ats H xs ts → xs.length = ts.length
  | _, _, .nil => rfl
  | _, _, .cons _ t => congrArg (· + 1) (Ats.len t)
theorem Ats.get {H : Hp} : ∀ {xs : List V} {ts : List Td} {i : Nat} {x : V}, Ats H xs ts → xs[i]? = some x → ∃ t, ts[i]? = some t ∧ At H x t
  | _, _, _, _, .nil, e => by simp at e
  | _, _, 0, x, .cons (b := t) h _, e => by
    simp at e
    subst e
    exact ⟨t, rfl, h⟩
  | _, _, i + 1, x, .cons _ t, e => by
    simp at e
    obtain ⟨u, a, b⟩ := Ats.get t e
    exact ⟨u, by simpa using a, b⟩
theorem Ats.one {H : Hp} {x : V} {t : Td} (h : At H x t) : Ats H [x] [t] := .cons h .nil
theorem Ats.two {H : Hp} {x y : V} {t u : Td} (h : At H x t) (k : At H y u) : Ats H [x, y] [t, u] := .cons h (.cons k .nil)
/-- the last of a list -/
theorem Ats.last {H : Hp} {xs : List V} {ts : List Td} {t : Td} (h : Ats H xs (ts ++ [t])) : ∃ ys y, xs = ys ++ [y] ∧ Ats H ys ts ∧ At H y t := by
  induction ts generalizing xs with
  | nil => cases h with | cons a b => cases b; exact ⟨[], _, rfl, .nil, a⟩
  | cons u ts ih =>
    cases h with
    | cons a b =>
      obtain ⟨ys, y, rfl, h1, h2⟩ := ih b
      exact ⟨_ :: ys, y, rfl, .cons a h1, h2⟩
/-- a thing's tuple: its word, its own thing (if there is one), its parts -/
noncomputable def own : Td → List V
  | .lf _ v => [v]
  | .ov _ v _ => [v]
  | _ => []
theorem At.open {H : Hp} {x : V} {t : Td} (h : At H x t) : ∃ a ys, x = .ref a ∧ H a = some (.tup (.str (word t) :: (own t ++ ys))) ∧ Ats H ys (kids t) := by
  cases t with
  | lf w v => obtain ⟨a, rfl, k⟩ := h; exact ⟨a, [], rfl, k, .nil⟩
  | ov w v t => obtain ⟨a, y, rfl, k, q⟩ := h; exact ⟨a, [y], rfl, k, .one q⟩
  | nt t => obtain ⟨a, y, rfl, k, q⟩ := h; exact ⟨a, [y], rfl, k, .one q⟩
  | bi w t u => obtain ⟨a, y, z, rfl, k, q, r⟩ := h; exact ⟨a, [y, z], rfl, k, .two q r⟩
/-! ### which are formulas, which are sayings -/
noncomputable def ruleL : List Str := ["a", "b", "c", "d", "e", "f", "g", "h"]
noncomputable def nameL : List Str := ["p", "q", "r", "s", "t", "u", "v", "w", "x", "y", "z"]
noncomputable def turnL : List Str := ["on", "by", "til"]
noncomputable def IsF : Td → Prop
  | .lf w v => (w = "day" ∧ ∃ n, n ∈ nameL ∧ v = .str n) ∨ (w = "num" ∧ ∃ i, v = .int i)
  | .ov w v t => ((w ∈ turnL ∧ ∃ r, r ∈ ruleL ∧ v = .str r) ∨ (w = "add" ∧ ∃ i, v = .int i)) ∧ IsF t
  | .nt _ => False
  | .bi w t u => (w = "late" ∨ w = "soon") ∧ IsF t ∧ IsF u
noncomputable def IsS : Td → Prop
  | .lf _ _ => False
  | .ov _ _ _ => False
  | .nt t => IsS t
  | .bi w t u => (w = "le" ∧ IsF t ∧ IsF u) ∨ ((w = "and" ∨ w = "or") ∧ IsS t ∧ IsS u)
/-- what parts_of may be asked of -/
noncomputable def Ok : Td → Prop
  | .lf w _ => w = "day" ∨ w = "num"
  | .ov w _ _ => w = "on" ∨ w = "by" ∨ w = "til" ∨ w = "add"
  | .nt _ => True
  | .bi w _ _ => w = "late" ∨ w = "soon" ∨ w = "le" ∨ w = "and" ∨ w = "or"
noncomputable def OkD : Td → Prop
  | .lf w v => Ok (.lf w v)
  | .ov w v t => Ok (.ov w v t) ∧ OkD t
  | .nt t => OkD t
  | .bi w t u => Ok (.bi w t u) ∧ OkD t ∧ OkD u
theorem OkD.ok {t : Td} (h : OkD t) : Ok t := by
  cases t with
  | lf w v => exact h
  | ov w v t => exact h.1
  | nt t => exact True.intro
  | bi w t u => exact h.1
theorem OkD.kid {t u : Td} (h : OkD t) (hu : u ∈ kids t) : OkD u := by
  cases t with
  | lf w v => cases hu
  | ov w v t => cases List.mem_singleton.mp hu; exact h.2
  | nt t => cases List.mem_singleton.mp hu; exact h
  | bi w t u' =>
    rcases List.mem_cons.mp hu with e | e
    · subst e; exact h.2.1
    · cases List.mem_singleton.mp e; exact h.2.2
theorem turn_cases {w : Str} (h : w ∈ turnL) : w = "on" ∨ w = "by" ∨ w = "til" := by
  simpa [turnL] using h
theorem IsF.okD : ∀ {t : Td}, IsF t → OkD t
  | .lf w v, h => h.imp (·.1) (·.1)
  | .ov w v t, ⟨h, k⟩ => ⟨by
      rcases h with ⟨h, _⟩ | ⟨h, _⟩
      · rcases turn_cases h with e | e | e
        · exact .inl e
        · exact .inr (.inl e)
        · exact .inr (.inr (.inl e))
      · exact .inr (.inr (.inr h)), IsF.okD k⟩
  | .nt _, h => h.elim
  | .bi w t u, ⟨h, k, l⟩ => ⟨h.imp id .inl, IsF.okD k, IsF.okD l⟩
theorem IsS.okD : ∀ {t : Td}, IsS t → OkD t
  | .lf _ _, h => h.elim
  | .ov _ _ _, h => h.elim
  | .nt t, h => IsS.okD (t := t) h
  | .bi w t u, h => by
    rcases h with ⟨h, k, l⟩ | ⟨h, k, l⟩
    · exact ⟨.inr (.inr (.inl h)), k.okD, l.okD⟩
    · exact ⟨.inr (.inr (.inr h)), IsS.okD k, IsS.okD l⟩
/-! ### pieces -/
noncomputable def pcs : Td → List Td
  | .lf w v => [.lf w v]
  | .ov w v t => .ov w v t :: pcs t
  | .nt t => .nt t :: pcs t
  | .bi w t u => .bi w t u :: (pcs t ++ pcs u)
theorem pcs_kids (t : Td) : pcs t = t :: (kids t).flatMap pcs := by
  cases t with
  | lf w v => rfl
  | ov w v t => simp [pcs, kids]
  | nt t => simp [pcs, kids]
  | bi w t u => simp [pcs, kids]
theorem pcs_pos (t : Td) : 0 < (pcs t).length := by rw [pcs_kids]; exact Nat.succ_pos _
theorem OkD.pcs : ∀ {t u : Td}, OkD t → u ∈ TD.pcs t → OkD u
  | .lf w v, u, h, hu => by cases List.mem_singleton.mp hu; exact h
  | .ov w v t, u, h, hu => by
    rcases List.mem_cons.mp hu with e | e
    · subst e; exact h
    · exact OkD.pcs h.2 e
  | .nt t, u, h, hu => by
    rcases List.mem_cons.mp hu with e | e
    · subst e; exact h
    · exact OkD.pcs (t := t) h e
  | .bi w t t2, u, h, hu => by
    rcases List.mem_cons.mp hu with e | e
    · subst e; exact h
    · rcases List.mem_append.mp e with e | e
      · exact OkD.pcs h.2.1 e
      · exact OkD.pcs h.2.2 e
/-- so many pieces in a list of things -/
noncomputable def sizes (ts : List Td) : Nat := (ts.flatMap pcs).length
theorem sizes_cons (t : Td) (ts : List Td) : sizes (t :: ts) = (pcs t).length + sizes ts := by
  unfold sizes
  rw [List.flatMap_cons, List.length_append]
theorem sizes_app (ts us : List Td) : sizes (ts ++ us) = sizes ts + sizes us := by
  unfold sizes
  rw [List.flatMap_append, List.length_append]
theorem size_kids (t : Td) : (pcs t).length = 1 + sizes (kids t) := by
  rw [pcs_kids, List.length_cons, Nat.add_comm]
  rfl
theorem kids_le (t : Td) : (kids t).length ≤ 2 := by cases t <;> simp [kids]
noncomputable def namesOf (t : Td) : List Str := (pcs t).filterMap fun u => match u with | .lf w (.str n) => if w = "day" then some n else none | _ => none
noncomputable def rulesOf (t : Td) : List Str := (pcs t).filterMap fun u => match u with | .ov w (.str r) _ => if w ∈ turnL then some r else none | _ => none
/-! ### days -/
noncomputable def dayOf (dn : Str → Int) (wd : Str → List Int) : Td → Int
  | .lf _ (.str n) => dn n
  | .lf _ (.int i) => i
  | .lf _ _ => 0
  | .ov w (.str r) t => if w = "on" then onL (wd r) (dayOf dn wd t) else if w = "by" then byL (wd r) (dayOf dn wd t) else tilL (wd r) (dayOf dn wd t)
  | .ov _ (.int i) t => dayOf dn wd t + i
  | .ov _ _ _ => 0
  | .nt _ => 0
  | .bi w t u => if w = "late" then (if dayOf dn wd u > dayOf dn wd t then dayOf dn wd u else dayOf dn wd t) else (if dayOf dn wd u < dayOf dn wd t then dayOf dn wd u else dayOf dn wd t)
open Classical in
noncomputable def soOf (dn : Str → Int) (wd : Str → List Int) : Td → Bool
  | .lf _ _ => false
  | .ov _ _ _ => false
  | .nt t => !soOf dn wd t
  | .bi w t u => if w = "le" then decide (dayOf dn wd t ≤ dayOf dn wd u) else if w = "and" then soOf dn wd t && soOf dn wd u else soOf dn wd t || soOf dn wd u
end TD
end
section
set_option maxHeartbeats 2000000
namespace G
open PySem L2 Evl TD SX
section
variable {X : Cx} {K : PySem.W.Frag} {o i : Expr} {td ty : TE} {pos : Pos}
theorem slA (hK : X.K = K) : SlR X (rSlA K) := hK ▸ sl_tupA
theorem isiS (hK : X.K = K) : CallR X (.builtin "isinstance") (rIsi K) := hK ▸ call_isi
theorem inS (hK : X.K = K) : OpR X (compareOp .In) (rIn K false) := hK ▸ op_in_seq
theorem pe_dgetR (hu : X.A.units + 64 < cLine) (ho : PE X o td) (hi : PE X i ty) (hs : NoSl i) : PE X (.Subscript o i pos) (tDGet td ty) := pe_dget (by omega) ho hi hs
theorem pc_dniR (hu : X.A.units + 64 < cLine) (hi : PE X i ty) (ho : PE X o td) : PC X .NotIn i o (tDNotIn ty td) := pc_dnotin (by omega) hi ho
end
variable {K : PySem.W.Frag} {σ : L2.St} {H H' : Hp} {ta tb te tx : TE} {tt : TT} {x y z v : V} {p a l C dx : Addr} {tA tr tk : TA} {xs ys : List V} {t u : Td} {ts us : List Td} {D : Ends} {tz : TS} {i : Nat} {Q : VK} {sp : Sp} {dvs vs : List V} {E : XK}
theorem eu_slA {tl th : TO} {lo hi : Option Int} (h : Ev te σ H (.ref a)) (h1 : EvO tl σ H lo) (h2 : EvO th σ H hi) (hs : SqT K H a xs) (hw : ¬ (HT.sIx xs.length 0 lo = 0 ∧ HT.sIx xs.length xs.length hi = xs.length)) :
    EvU (tSl (rSlA K) te tl th) σ H (cutV xs lo hi) := fun H1 e _ q =>
  h H1 e _ fun H2 e2 => h1 H2 (e.trans e2) _ fun H3 e3 => h2 H3 ((e.trans e2).trans e3) _ fun H4 e4 =>
    ⟨a, xs, rfl, ex_t (((e.trans e2).trans e3).trans e4) hs, fun z => absurd z hw, fun _ p hp => q p _ (fresh_back ((e2.trans e3).trans e4) hp) (((e2.trans e3).trans e4).trans (Ex.new hp)) upd_same⟩
/-- d[k] -/
theorem ev_dget {k : Key} {kvs : List (Key × V)} (h : Ev ta σ H (.ref a)) (hk : Ev tb σ H (kV k)) (hd : H a = some (.dK kvs)) (hv : valV kvs k = some v) : Ev (tDGet ta tb) σ H v := fun H1 e Q q =>
  h H1 e _ fun H2 e2 => hk H2 (e.trans e2) _ fun H3 e3 => ⟨a, v, rfl, hv ▸ DGet.k (((e.trans e2).trans e3) a _ hd), q H3 (e2.trans e3)⟩
theorem ev_dni {k : Key} {kvs : List (Key × V)} (hk : Ev ta σ H (kV k)) (h : Ev tb σ H (.ref a)) (hd : H a = some (.dK kvs)) : Ev (tDNotIn ta tb) σ H (.bl (!(valV kvs k).isSome)) := fun H1 e Q q =>
  hk H1 e _ fun H2 e2 => h H2 (e.trans e2) _ fun H3 e3 => ⟨a, _, rfl, DGet.k (((e.trans e2).trans e3) a _ hd), q H3 (e2.trans e3)⟩
/-! ### what evaluates to a told thing, to a new tuple or list of told things -/
noncomputable def EvTd (te : TE) (σ : L2.St) (H : Hp) (t : Td) : Prop := ∀ H1, Ex H H1 → ∀ Q : VK, (∀ v H2, Ex H1 H2 → At H2 v t → Q v H2) → te σ H1 Q
noncomputable def EvKs (te : TE) (σ : L2.St) (H : Hp) (ts : List Td) : Prop := ∀ H1, Ex H H1 → ∀ Q : VK, (∀ p ys H2, H1 p = none → Ex H1 H2 → H2 p = some (.tup ys) → Ats H2 ys ts → Q (.ref p) H2) → te σ H1 Q
noncomputable def EvLs (te : TE) (σ : L2.St) (H : Hp) (ts : List Td) : Prop := ∀ H1, Ex H H1 → ∀ Q : VK, (∀ p ys H2, H1 p = none → Ex H1 H2 → H2 p = some (.lst ys) → Ats H2 ys ts → Q (.ref p) H2) → te σ H1 Q
noncomputable def RetTd (t : Td) (H : Hp) (Q : VK) : Prop := ∀ v H2, Ex H H2 → At H2 v t → Q v H2
noncomputable def RetKs (ts : List Td) (H : Hp) (Q : VK) : Prop := ∀ p ys H2, H p = none → Ex H H2 → H2 p = some (.tup ys) → Ats H2 ys ts → Q (.ref p) H2
noncomputable def RetLs (ts : List Td) (H : Hp) (Q : VK) : Prop := ∀ p ys H2, H p = none → Ex H H2 → H2 p = some (.lst ys) → Ats H2 ys ts → Q (.ref p) H2
noncomputable def SpTd (sp : Sp) (vs : List V) (H : Hp) (t : Td) : Prop := ∀ H1, Ex H H1 → ∀ Q : VK, RetTd t H1 Q → ∀ E : XK, sp vs H1 Q E
noncomputable def SpKs (sp : Sp) (vs : List V) (H : Hp) (ts : List Td) : Prop := ∀ H1, Ex H H1 → ∀ Q : VK, RetKs ts H1 Q → ∀ E : XK, sp vs H1 Q E
noncomputable def SpLs (sp : Sp) (vs : List V) (H : Hp) (ts : List Td) : Prop := ∀ H1, Ex H H1 → ∀ Q : VK, RetLs ts H1 Q → ∀ E : XK, sp vs H1 Q E
theorem eks_call (h : EvA tA σ H vs) (hs : SpKs sp (vs ++ dvs) H ts) : EvKs (tCall sp dvs E tA) σ H ts := fun H1 e Q q =>
  h H1 e _ fun H2 e2 => hs H2 (e.trans e2) Q (fun p ys H3 hp e3 h3 k => q p ys H3 (fresh_back e2 hp) (e2.trans e3) h3 k) E
theorem els_call (h : EvA tA σ H vs) (hs : SpLs sp (vs ++ dvs) H ts) : EvLs (tCall sp dvs E tA) σ H ts := fun H1 e Q q =>
  h H1 e _ fun H2 e2 => hs H2 (e.trans e2) Q (fun p ys H3 hp e3 h3 k => q p ys H3 (fresh_back e2 hp) (e2.trans e3) h3 k) E
theorem etd_call (h : EvA tA σ H vs) (hs : SpTd sp (vs ++ dvs) H t) : EvTd (tCall sp dvs E tA) σ H t := fun H1 e Q q =>
  h H1 e _ fun H2 e2 => hs H2 (e.trans e2) Q (fun v H3 e3 k => q v H3 (e2.trans e3) k) E
theorem etd_ref (h : Ev te σ H v) (k : At H v t) : EvTd te σ H t := fun H1 e Q q => h H1 e Q fun H2 e2 => q v H2 e2 (k.mono (Tu.ex (e.trans e2)))
theorem eks_rev (h : EvKs te σ H ts) : EvKs (tRevT K te) σ H ts.reverse := fun H1 e Q q => h H1 e _ fun b ys H2 hb e2 h2 k =>
  ⟨b, ys, rfl, st_of h2, fun p hp => q p _ _ (fresh_back e2 hp) (e2.trans (Ex.new hp)) upd_same ((k.mono (Tu.ex (Ex.new hp))).rev)⟩
/-- (w, v) -/
theorem etd_lf {w : Str} (h : EvA tA σ H [.str w, v]) : EvTd (tTup tA) σ H (.lf w v) := fun H1 e Q q => (eu_tup h (by show 2 ≤ 100000; decide)) H1 e Q fun p H2 hp e2 h2 => q _ H2 e2 ⟨p, rfl, h2⟩
theorem etd_nt (h1 : Ev ta σ H (.str "not")) (h3 : EvTd tx σ H t) : EvTd (tTup (tCons ta (tCons tx tNil))) σ H (.nt t) := fun H1 e Q q =>
  h1 H1 e _ fun H2 e2 => h3 H2 (e.trans e2) _ fun y H4 e4 k => ⟨sz_of (by show 2 ≤ 100000; decide), fun p hp =>
    q _ _ ((e2.trans e4).trans (Ex.new hp)) ⟨p, y, rfl, upd_same, k.mono (Tu.ex (Ex.new hp))⟩⟩
theorem etd_bi {w : Str} (h1 : Ev ta σ H (.str w)) (h2 : EvTd tb σ H t) (h3 : EvTd tx σ H u) : EvTd (tTup (tCons ta (tCons tb (tCons tx tNil)))) σ H (.bi w t u) := fun H1 e Q q =>
  h1 H1 e _ fun H2 e2 => h2 H2 (e.trans e2) _ fun y H3 e3 k1 => h3 H3 ((e.trans e2).trans e3) _ fun z H4 e4 k2 => ⟨sz_of (by show 3 ≤ 100000; decide), fun p hp =>
    q _ _ (((e2.trans e3).trans e4).trans (Ex.new hp)) ⟨p, y, z, rfl, upd_same, k1.mono (Tu.ex (e4.trans (Ex.new hp))), k2.mono (Tu.ex (Ex.new hp))⟩⟩
/-! ### statements -/
/-- x = l.pop() -/
theorem q_pop {y : V} (hl : H l = some (.lst (xs ++ [y]))) (ha : Ev ta σ H (.ref l)) (k : ∀ H1, Ex H H1 → tz D (σ.set i (some y)) (upd H1 l (.lst xs))) : tSeq (tAsg (tBM0 K "list" rPop ta) (gName i)) tz D σ H := ha H (Ex.refl H) _ fun H1 e1 =>
  ⟨Or.inl ⟨rfl, _, sq_of (e1 l _ hl)⟩, l, xs ++ [y], y, rfl, rfl, e1 l _ hl, by simp, by
    rw [List.dropLast_concat]
    exact k H1 e1⟩
theorem s_extK (hl : H l = some (.lst xs)) (ha : Ev ta σ H (.ref l)) (h : EvKs te σ H ts) (hz : xs.length + ts.length ≤ 100000) (k : ∀ H1 ys, Ex H H1 → Ats H1 ys ts → D.nx σ (upd H1 l (.lst (xs ++ ys)))) :
    tDrop (tBM K "list" (rExtT K) ta (tCons te tNil)) D σ H := ha H (Ex.refl H) _ fun H1 e1 =>
  ⟨Or.inl ⟨rfl, xs, sq_of (e1 l _ hl)⟩, h H1 e1 _ fun p ys H2 hp e2 h2 kk => ⟨l, p, xs, ys, rfl, rfl, e2 l _ (e1 l _ hl), st_of h2, sz_of (by rw [kk.len]; exact hz), k H2 ys (e1.trans e2) kk⟩⟩
end G
end
section
set_option maxHeartbeats 2000000
namespace G
open PySem
mutual
noncomputable def bnd : PyData → Nat
  | .none => 4
  | .bool _ => 5
  | .int _ => 22
  | .str _ => 100000000
  | .list xs => bndAll xs + 2
  | .tuple xs => bndAll xs + 4
  | .dict _ => 100000000
noncomputable def bndAll : List PyData → Nat
  | [] => 0
  | x :: xs => bnd x + 2 + bndAll xs
end
mutual
noncomputable def smallD : PyData → Bool
  | .none => true
  | .bool _ => true
  | .int i => decide (i.natAbs < 10 ^ 20)
  | .str _ => false
  | .list xs => smallAll xs
  | .tuple xs => smallAll xs
  | .dict _ => false
noncomputable def smallAll : List PyData → Bool
  | [] => true
  | x :: xs => smallD x && smallAll xs
end
end G
end
section
set_option maxHeartbeats 2000000
namespace K25
open PySem L2
noncomputable def top (i : Nat) : Stmt := PySem.Challenge.pw_leadrules_k25_whole_ways_of_sayings.main.body.getD i (.Pass ⟨0, 0, 0, 0⟩)
noncomputable abbrev s__wall : Stmt := (top 0)
noncomputable abbrev s_is_day : Stmt := (top 2)
theorem sc_is_day : FnScope ["value"] ["value"] (defScope s_is_day) := ⟨rfl, rfl, rfl, by decide +kernel, rfl, by decide +kernel, by decide +kernel⟩
noncomputable abbrev s_is_rule : Stmt := (top 3)
theorem sc_is_rule : FnScope ["value"] ["value"] (defScope s_is_rule) := ⟨rfl, rfl, rfl, by decide +kernel, rfl, by decide +kernel, by decide +kernel⟩
noncomputable abbrev s_is_name : Stmt := (top 4)
theorem sc_is_name : FnScope ["value"] ["value"] (defScope s_is_name) := ⟨rfl, rfl, rfl, by decide +kernel, rfl, by decide +kernel, by decide +kernel⟩
noncomputable abbrev s_is_days : Stmt := (top 5)
theorem sc_is_days : FnScope ["value", "name", "day"] ["value"] (defScope s_is_days) := ⟨rfl, rfl, rfl, by decide +kernel, rfl, by decide +kernel, by decide +kernel⟩
noncomputable abbrev s_InvalidDay___init__ : Stmt := (inClass (top 8) 0)
noncomputable abbrev s_InvalidSaying___init__ : Stmt := (inClass (top 9) 0)
noncomputable abbrev s_InvalidDays___init__ : Stmt := (inClass (top 10) 0)
noncomputable abbrev s_InvalidWorld___init__ : Stmt := (inClass (top 11) 0)
noncomputable abbrev s_InvalidTable___init__ : Stmt := (inClass (top 12) 0)
noncomputable abbrev s_MissingRule___init__ : Stmt := (inClass (top 14) 0)
noncomputable abbrev s_MissingName___init__ : Stmt := (inClass (top 15) 0)
noncomputable abbrev s_TooMany___init__ : Stmt := (inClass (top 17) 0)
noncomputable abbrev s_need_day : Stmt := (top 20)
theorem sc_need_day : FnScope ["value"] ["value"] (defScope s_need_day) := ⟨rfl, rfl, rfl, by decide +kernel, rfl, by decide +kernel, by decide +kernel⟩
noncomputable abbrev s_need_days : Stmt := (top 21)
theorem sc_need_days : FnScope ["value"] ["value"] (defScope s_need_days) := ⟨rfl, rfl, rfl, by decide +kernel, rfl, by decide +kernel, by decide +kernel⟩
noncomputable abbrev s_is_list : Stmt := (top 22)
theorem sc_is_list : FnScope ["value"] ["value"] (defScope s_is_list) := ⟨rfl, rfl, rfl, by decide +kernel, rfl, by decide +kernel, by decide +kernel⟩
noncomputable abbrev s_parts_of : Stmt := (top 23)
theorem sc_parts_of : FnScope ["told"] ["told"] (defScope s_parts_of) := ⟨rfl, rfl, rfl, by decide +kernel, rfl, by decide +kernel, by decide +kernel⟩
noncomputable abbrev s_all_pieces : Stmt := (top 24)
theorem sc_all_pieces : FnScope ["told", "found", "waiting", "piece"] ["told"] (defScope s_all_pieces) := ⟨rfl, rfl, rfl, by decide +kernel, rfl, by decide +kernel, by decide +kernel⟩
noncomputable abbrev s_names_in : Stmt := (top 25)
theorem sc_names_in : FnScope ["told", "piece"] ["told"] (defScope s_names_in) := ⟨rfl, rfl, rfl, by decide +kernel, rfl, by decide +kernel, by decide +kernel⟩
noncomputable abbrev s_rules_in : Stmt := (top 26)
theorem sc_rules_in : FnScope ["told", "piece"] ["told"] (defScope s_rules_in) := ⟨rfl, rfl, rfl, by decide +kernel, rfl, by decide +kernel, by decide +kernel⟩
noncomputable abbrev s_need_few_pieces : Stmt := (top 27)
theorem sc_need_few_pieces : FnScope ["tolds", "told"] ["tolds"] (defScope s_need_few_pieces) := ⟨rfl, rfl, rfl, by decide +kernel, rfl, by decide +kernel, by decide +kernel⟩
noncomputable abbrev s_Table___init__ : Stmt := (inClass (top 29) 2)
theorem sc_Table___init__ : FnScope ["self", "days"] ["self", "days"] (defScope s_Table___init__) := ⟨rfl, rfl, rfl, by decide +kernel, rfl, by decide +kernel, by decide +kernel⟩
noncomputable abbrev s_Table_length : Stmt := (inClass (top 29) 3)
theorem sc_Table_length : FnScope ["self"] ["self"] (defScope s_Table_length) := ⟨rfl, rfl, rfl, by decide +kernel, rfl, by decide +kernel, by decide +kernel⟩
noncomputable abbrev s_Table_days : Stmt := (inClass (top 29) 4)
noncomputable abbrev s_Table_asked_rows : Stmt := (inClass (top 29) 5)
noncomputable abbrev s_Table_on : Stmt := (inClass (top 29) 6)
theorem sc_Table_on : FnScope ["self", "day", "turns", "place"] ["self", "day"] (defScope s_Table_on) := ⟨rfl, rfl, rfl, by decide +kernel, rfl, by decide +kernel, by decide +kernel⟩
noncomputable abbrev s_Table___call__ : Stmt := (inClass (top 29) 7)
noncomputable abbrev s_Table_by : Stmt := (inClass (top 29) 8)
theorem sc_Table_by : FnScope ["self", "day", "turns"] ["self", "day"] (defScope s_Table_by) := ⟨rfl, rfl, rfl, by decide +kernel, rfl, by decide +kernel, by decide +kernel⟩
noncomputable abbrev s_Table_til : Stmt := (inClass (top 29) 9)
theorem sc_Table_til : FnScope ["self", "day"] ["self", "day"] (defScope s_Table_til) := ⟨rfl, rfl, rfl, by decide +kernel, rfl, by decide +kernel, by decide +kernel⟩
noncomputable abbrev s_Table_answers : Stmt := (inClass (top 29) 10)
noncomputable abbrev s_Table_is_served : Stmt := (inClass (top 29) 11)
noncomputable abbrev s_Table_leads : Stmt := (inClass (top 29) 12)
noncomputable abbrev s_Table_mean_lead : Stmt := (inClass (top 29) 13)
noncomputable abbrev s_Table_fixed_days : Stmt := (inClass (top 29) 14)
noncomputable abbrev s_Table_moved : Stmt := (inClass (top 29) 15)
noncomputable abbrev s_Table_asked_later : Stmt := (inClass (top 29) 16)
noncomputable abbrev s_Table_by_table : Stmt := (inClass (top 29) 17)
noncomputable abbrev s_Table_til_table : Stmt := (inClass (top 29) 18)
noncomputable abbrev s_Table_stretched : Stmt := (inClass (top 29) 19)
noncomputable abbrev s_Table_shortest : Stmt := (inClass (top 29) 20)
noncomputable abbrev s_Table_plain : Stmt := (inClass (top 29) 21)
noncomputable abbrev s_Table_is_same : Stmt := (inClass (top 29) 22)
noncomputable abbrev s_Table___eq__ : Stmt := (inClass (top 29) 23)
noncomputable abbrev s_Table___repr__ : Stmt := (inClass (top 29) 24)
noncomputable abbrev s_is_table : Stmt := (top 30)
theorem sc_is_table : FnScope ["value", "rises", "day", "place"] ["value"] (defScope s_is_table) := ⟨rfl, rfl, rfl, by decide +kernel, rfl, by decide +kernel, by decide +kernel⟩
noncomputable abbrev s_is_world : Stmt := (top 31)
theorem sc_is_world : FnScope ["value", "rule", "table"] ["value"] (defScope s_is_world) := ⟨rfl, rfl, rfl, by decide +kernel, rfl, by decide +kernel, by decide +kernel⟩
noncomputable abbrev s_need_world : Stmt := (top 32)
theorem sc_need_world : FnScope ["value"] ["value"] (defScope s_need_world) := ⟨rfl, rfl, rfl, by decide +kernel, rfl, by decide +kernel, by decide +kernel⟩
noncomputable abbrev s__many_ahead : Stmt := (top 33)
theorem sc__many_ahead : FnScope ["days", "day", "low", "high", "middle"] ["days", "day"] (defScope s__many_ahead) := ⟨rfl, rfl, rfl, by decide +kernel, rfl, by decide +kernel, by decide +kernel⟩
noncomputable abbrev s_is_formula : Stmt := (top 37)
theorem sc_is_formula : FnScope ["value", "waiting", "piece"] ["value"] (defScope s_is_formula) := ⟨rfl, rfl, rfl, by decide +kernel, rfl, by decide +kernel, by decide +kernel⟩
noncomputable abbrev s_need_rules : Stmt := (top 38)
theorem sc_need_rules : FnScope ["told", "world", "rule"] ["told", "world"] (defScope s_need_rules) := ⟨rfl, rfl, rfl, by decide +kernel, rfl, by decide +kernel, by decide +kernel⟩
noncomputable abbrev s_need_names : Stmt := (top 39)
theorem sc_need_names : FnScope ["told", "days", "name"] ["told", "days"] (defScope s_need_names) := ⟨rfl, rfl, rfl, by decide +kernel, rfl, by decide +kernel, by decide +kernel⟩
noncomputable abbrev s_need_known : Stmt := (top 40)
theorem sc_need_known : FnScope ["told", "days", "world"] ["told", "days", "world"] (defScope s_need_known) := ⟨rfl, rfl, rfl, by decide +kernel, rfl, by decide +kernel, by decide +kernel⟩
noncomputable abbrev s_reckoned : Stmt := (top 41)
theorem sc_reckoned : FnScope ["formula", "days", "rules", "word", "within", "part"] ["formula", "days", "rules"] (defScope s_reckoned) := ⟨rfl, rfl, rfl, by decide +kernel, rfl, by decide +kernel, by decide +kernel⟩
noncomputable abbrev s_without_doubles : Stmt := (top 42)
theorem sc_without_doubles : FnScope ["things", "found", "thing"] ["things"] (defScope s_without_doubles) := ⟨rfl, rfl, rfl, by decide +kernel, rfl, by decide +kernel, by decide +kernel⟩
noncomputable abbrev s__is_piece : Stmt := (top 43)
theorem sc__is_piece : FnScope ["value", "word"] ["value"] (defScope s__is_piece) := ⟨rfl, rfl, rfl, by decide +kernel, rfl, by decide +kernel, by decide +kernel⟩
noncomputable abbrev s_is_saying : Stmt := (top 47)
theorem sc_is_saying : FnScope ["value", "waiting", "saying"] ["value"] (defScope s_is_saying) := ⟨rfl, rfl, rfl, by decide +kernel, rfl, by decide +kernel, by decide +kernel⟩
noncomputable abbrev s_need_saying : Stmt := (top 48)
theorem sc_need_saying : FnScope ["value"] ["value"] (defScope s_need_saying) := ⟨rfl, rfl, rfl, by decide +kernel, rfl, by decide +kernel, by decide +kernel⟩
noncomputable abbrev s_holds : Stmt := (top 49)
theorem sc_holds : FnScope ["saying", "days", "world"] ["saying", "days", "world"] (defScope s_holds) := ⟨rfl, rfl, rfl, by decide +kernel, rfl, by decide +kernel, by decide +kernel⟩
noncomputable abbrev s_is_so : Stmt := (top 50)
theorem sc_is_so : FnScope ["saying", "days", "rules", "word"] ["saying", "days", "rules"] (defScope s_is_so) := ⟨rfl, rfl, rfl, by decide +kernel, rfl, by decide +kernel, by decide +kernel⟩
noncomputable abbrev s_ways : Stmt := (top 51)
theorem sc_ways : FnScope ["saying", "told", "way"] ["saying"] (defScope s_ways) := ⟨rfl, rfl, rfl, by decide +kernel, rfl, by decide +kernel, by decide +kernel⟩
noncomputable abbrev s__is_tuple_of_saying : Stmt := (top 52)
theorem sc__is_tuple_of_saying : FnScope ["value"] ["value"] (defScope s__is_tuple_of_saying) := ⟨rfl, rfl, rfl, by decide +kernel, rfl, by decide +kernel, by decide +kernel⟩
noncomputable abbrev s__pushed_in : Stmt := (top 53)
theorem sc__pushed_in : FnScope ["saying"] ["saying"] (defScope s__pushed_in) := ⟨rfl, rfl, rfl, by decide +kernel, rfl, by decide +kernel, by decide +kernel⟩
noncomputable abbrev s_contrary_of : Stmt := (top 54)
theorem sc_contrary_of : FnScope ["saying"] ["saying"] (defScope s_contrary_of) := ⟨rfl, rfl, rfl, by decide +kernel, rfl, by decide +kernel, by decide +kernel⟩
noncomputable abbrev s__many_ways : Stmt := (top 55)
theorem sc__many_ways : FnScope ["saying", "first", "second"] ["saying"] (defScope s__many_ways) := ⟨rfl, rfl, rfl, by decide +kernel, rfl, by decide +kernel, by decide +kernel⟩
noncomputable abbrev s__all_ways : Stmt := (top 56)
theorem sc__all_ways : FnScope ["saying", "first", "second", "way", "other"] ["saying"] (defScope s__all_ways) := ⟨rfl, rfl, rfl, by decide +kernel, rfl, by decide +kernel, by decide +kernel⟩
noncomputable abbrev s__law_pot : Stmt := (top 58)
theorem sc__law_pot : FnScope ["_law_script", "_law_k", "_law_cell"] ["_law_script", "_law_k"] (defScope s__law_pot) := ⟨rfl, rfl, rfl, by decide +kernel, rfl, by decide +kernel, by decide +kernel⟩
noncomputable abbrev s__law_draw : Stmt := (top 59)
theorem sc__law_draw : FnScope ["_law_pot_here", "_law_many_here", "_law_digit"] ["_law_pot_here", "_law_many_here"] (defScope s__law_draw) := ⟨rfl, rfl, rfl, by decide +kernel, rfl, by decide +kernel, by decide +kernel⟩
noncomputable abbrev s__law_pick : Stmt := (top 60)
theorem sc__law_pick : FnScope ["_law_pot_here", "_law_some_here"] ["_law_pot_here", "_law_some_here"] (defScope s__law_pick) := ⟨rfl, rfl, rfl, by decide +kernel, rfl, by decide +kernel, by decide +kernel⟩
noncomputable abbrev s__law_some : Stmt := (top 61)
theorem sc__law_some : FnScope ["_law_pot_here", "_law_letters_here", "_law_many_here", "_law_left", "_law_found", "_law_turn"] ["_law_pot_here", "_law_letters_here", "_law_many_here"] (defScope s__law_some) := ⟨rfl, rfl, rfl, by decide +kernel, rfl, by decide +kernel, by decide +kernel⟩
noncomputable abbrev s__law_number : Stmt := (top 62)
theorem sc__law_number : FnScope ["_law_pot_here"] ["_law_pot_here"] (defScope s__law_number) := ⟨rfl, rfl, rfl, by decide +kernel, rfl, by decide +kernel, by decide +kernel⟩
noncomputable abbrev s__law_formula : Stmt := (top 63)
theorem sc__law_formula : FnScope ["_law_pot_here", "_law_deep", "_law_names", "_law_rules", "_law_way", "_law_one"] ["_law_pot_here", "_law_deep", "_law_names", "_law_rules"] (defScope s__law_formula) := ⟨rfl, rfl, rfl, by decide +kernel, rfl, by decide +kernel, by decide +kernel⟩
noncomputable abbrev s__law_saying : Stmt := (top 64)
theorem sc__law_saying : FnScope ["_law_pot_here", "_law_deep", "_law_some_here", "_law_way", "_law_one"] ["_law_pot_here", "_law_deep", "_law_some_here"] (defScope s__law_saying) := ⟨rfl, rfl, rfl, by decide +kernel, rfl, by decide +kernel, by decide +kernel⟩
noncomputable abbrev s__law_table : Stmt := (top 65)
theorem sc__law_table : FnScope ["_law_pot_here", "_law_many_here", "_law_days_here", "_law_turn"] ["_law_pot_here"] (defScope s__law_table) := ⟨rfl, rfl, rfl, by decide +kernel, rfl, by decide +kernel, by decide +kernel⟩
noncomputable abbrev s__law_on : Stmt := (top 66)
theorem sc__law_on : FnScope ["_law_days_here", "_law_day_here", "_law_turn"] ["_law_days_here", "_law_day_here"] (defScope s__law_on) := ⟨rfl, rfl, rfl, by decide +kernel, rfl, by decide +kernel, by decide +kernel⟩
noncomputable abbrev s__law_leads : Stmt := (top 67)
theorem sc__law_leads : FnScope ["_law_days_here", "_law_some_here", "_law_place", "_law_served"] ["_law_days_here"] (defScope s__law_leads) := ⟨rfl, rfl, rfl, by decide +kernel, rfl, by decide +kernel, by decide +kernel⟩
noncomputable abbrev s__law_by : Stmt := (top 68)
theorem sc__law_by : FnScope ["_law_days_here", "_law_day_here", "_law_least", "_law_most", "_law_here"] ["_law_days_here", "_law_day_here"] (defScope s__law_by) := ⟨rfl, rfl, rfl, by decide +kernel, rfl, by decide +kernel, by decide +kernel⟩
noncomputable abbrev s__law_til : Stmt := (top 69)
theorem sc__law_til : FnScope ["_law_days_here", "_law_day_here", "_law_least", "_law_most", "_law_here"] ["_law_days_here", "_law_day_here"] (defScope s__law_til) := ⟨rfl, rfl, rfl, by decide +kernel, rfl, by decide +kernel, by decide +kernel⟩
noncomputable abbrev s__law_day : Stmt := (top 70)
theorem sc__law_day : FnScope ["_law_formula_here", "_law_days_here", "_law_world_here", "_law_word", "_law_inner", "_law_table_here"] ["_law_formula_here", "_law_days_here", "_law_world_here"] (defScope s__law_day) := ⟨rfl, rfl, rfl, by decide +kernel, rfl, by decide +kernel, by decide +kernel⟩
noncomputable abbrev s__law_is_so : Stmt := (top 71)
theorem sc__law_is_so : FnScope ["_law_saying_here", "_law_days_here", "_law_world_here", "_law_word", "_law_one", "_law_other"] ["_law_saying_here", "_law_days_here", "_law_world_here"] (defScope s__law_is_so) := ⟨rfl, rfl, rfl, by decide +kernel, rfl, by decide +kernel, by decide +kernel⟩
noncomputable abbrev s__law_parts : Stmt := (top 72)
theorem sc__law_parts : FnScope ["_law_told", "_law_part"] ["_law_told"] (defScope s__law_parts) := ⟨rfl, rfl, rfl, by decide +kernel, rfl, by decide +kernel, by decide +kernel⟩
noncomputable abbrev s__law_size : Stmt := (top 73)
theorem sc__law_size : FnScope ["_law_told", "_law_part"] ["_law_told"] (defScope s__law_size) := ⟨rfl, rfl, rfl, by decide +kernel, rfl, by decide +kernel, by decide +kernel⟩
noncomputable abbrev s__law_letters : Stmt := (top 74)
noncomputable abbrev s__law_days : Stmt := (top 75)
theorem sc__law_days : FnScope ["_law_pot_here", "_law_names", "_law_name"] ["_law_pot_here", "_law_names"] (defScope s__law_days) := ⟨rfl, rfl, rfl, by decide +kernel, rfl, by decide +kernel, by decide +kernel⟩
noncomputable abbrev s__law_world : Stmt := (top 76)
theorem sc__law_world : FnScope ["_law_pot_here", "_law_rules", "_law_rule"] ["_law_pot_here", "_law_rules"] (defScope s__law_world) := ⟨rfl, rfl, rfl, by decide +kernel, rfl, by decide +kernel, by decide +kernel⟩
noncomputable abbrev s__law_tables : Stmt := (top 77)
theorem sc__law_tables : FnScope ["_law_world_here", "_law_rule"] ["_law_world_here"] (defScope s__law_tables) := ⟨rfl, rfl, rfl, by decide +kernel, rfl, by decide +kernel, by decide +kernel⟩
noncomputable abbrev s__law_pushed : Stmt := (top 78)
theorem sc__law_pushed : FnScope ["_law_saying_here", "_law_is_so_here", "_law_word"] ["_law_saying_here", "_law_is_so_here"] (defScope s__law_pushed) := ⟨rfl, rfl, rfl, by decide +kernel, rfl, by decide +kernel, by decide +kernel⟩
noncomputable abbrev s__law_many : Stmt := (top 79)
theorem sc__law_many : FnScope ["_law_saying_here", "_law_one", "_law_other"] ["_law_saying_here"] (defScope s__law_many) := ⟨rfl, rfl, rfl, by decide +kernel, rfl, by decide +kernel, by decide +kernel⟩
noncomputable abbrev s__law_ways : Stmt := (top 80)
theorem sc__law_ways : FnScope ["_law_saying_here", "_law_one", "_law_other", "_law_found", "_law_way", "_law_more", "_law_both", "_law_literal"] ["_law_saying_here"] (defScope s__law_ways) := ⟨rfl, rfl, rfl, by decide +kernel, rfl, by decide +kernel, by decide +kernel⟩
noncomputable abbrev s__law_heard : Stmt := (top 81)
noncomputable abbrev s__law_forms_right : Stmt := (top 82)
theorem sc__law_forms_right : FnScope ["_law_saying_here", "_law_kept", "_law_turn", "_law_told", "_law_way"] ["_law_saying_here"] (defScope s__law_forms_right) := ⟨rfl, rfl, rfl, by decide +kernel, rfl, by decide +kernel, by decide +kernel⟩
noncomputable abbrev s__law_is_just : Stmt := (top 83)
theorem sc__law_is_just : FnScope ["_law_told", "_law_due"] ["_law_told", "_law_due"] (defScope s__law_is_just) := ⟨rfl, rfl, rfl, by decide +kernel, rfl, by decide +kernel, by decide +kernel⟩
noncomputable abbrev s__law_worths_right : Stmt := (top 84)
theorem sc__law_worths_right : FnScope ["_law_pot_here", "_law_saying_here", "_law_names", "_law_rules", "_law_told", "_law_turn", "_law_days_here", "_law_world_here", "_law_tables_here", "_law_found", "_law_due", "_law_way", "_law_literal"] ["_law_pot_here", "_law_saying_here", "_law_names", "_law_rules"] (defScope s__law_worths_right) := ⟨rfl, rfl, rfl, by decide +kernel, rfl, by decide +kernel, by decide +kernel⟩
noncomputable abbrev s__law_right : Stmt := (top 85)
theorem sc__law_right : FnScope ["_law_pot_here", "_law_names", "_law_rules", "_law_some_here", "_law_turn", "_law_deep", "_law_saying_here"] ["_law_pot_here"] (defScope s__law_right) := ⟨rfl, rfl, rfl, by decide +kernel, rfl, by decide +kernel, by decide +kernel⟩
noncomputable abbrev s_law : Stmt := (top 86)
theorem sc_law : FnScope ["_law_script", "_law_k"] ["_law_script"] (defScope s_law) := ⟨rfl, rfl, rfl, by decide +kernel, rfl, by decide +kernel, by decide +kernel⟩
end K25
end
section
set_option maxHeartbeats 4000000
namespace K25
open PySem L2 Evl G TM TD
/-- a written dict of texts and numbers: what stands in it, what does not -/
structure KD (K : PySem.W.Frag) (w : World) (a : Addr) (rows : List (Str × Int)) (off : List Str) : Prop where
  kd : ∃ es n, KDict K w a es n
  there : ∀ p ∈ rows, KDct K w a p.1 (.int p.2) ∧ ∃ u, PySem.W.nsIn K a p.1 = some (some u)
  miss : ∀ x ∈ off, PySem.W.nsIn K a x = some none
noncomputable def sizeF : List (Str × Int) := [("day", 2), ("num", 2), ("on", 3), ("by", 3), ("til", 3), ("add", 3), ("late", 3), ("soon", 3)]
noncomputable def sizeS : List (Str × Int) := [("le", 3), ("and", 3), ("or", 3), ("not", 2)]
noncomputable def wordS : List Str := ["le", "and", "or", "not"]
structure Txt (P : Program) (w : World) (K : PySem.W.Frag) (mg : Str → Option Value) (C SZ SY : Addr) : Prop where
  cl : Cls K C
  nD : NoAttr K C "_days"
  kc : PySem.W.keepIn K (.ref C) = true
  mki : PySem.W.makesIn K C = true
  mg_Table : mg "Table" = some (.ref C)
  tyC : ∀ (H : Hp) (a dx : Addr) (fs : List (Str × V)), H a = some (.ins C dx fs) → TyOf K H (.ref a) (.ref C)
  cM : ∃ (mc : Value) (tk : Tok), ClX.CRead K C mc ∧ ClX.CVal K C mc "MOST_LENGTH" (.int 600) (.int 600 tk)
  cL : ∃ tk : Tok, Con K C "MOST_LENGTH" (.int 600) (.int 600 tk)
  z : KD K w SZ sizeF wordS
  mg_SIZES : mg "SIZES" = some (.ref SZ)
  y : KD K w SY sizeS []
  mg_SIZES_OF_SAYINGS : mg "SIZES_OF_SAYINGS" = some (.ref SY)
  mg_MOST_PIECES : ∃ tk, mg "MOST_PIECES" = some (.int 60 tk)
  b_isinstance : mg "isinstance" = none
  b_int : mg "int" = none
  b_bool : mg "bool" = none
  b_list : mg "list" = none
  b_tuple : mg "tuple" = none
  b_str : mg "str" = none
  b_dict : mg "dict" = none
  b_len : mg "len" = none
  b_enumerate : mg "enumerate" = none
  b_range : mg "range" = none
  b_divmod : mg "divmod" = none
  b_min : mg "min" = none
  b_max : mg "max" = none
  b_all : mg "all" = none
  b_any : mg "any" = none
  b_abs : mg "abs" = none
  b_repr : mg "repr" = none
  b_sum : mg "sum" = none
  b_set : mg "set" = none
  b_sorted : mg "sorted" = none
structure Cal (P : Program) (w : World) (K : PySem.W.Frag) (mg : Str → Option Value) (base : Heap) (x : Str) (f : Addr) (fd : FuncData) (ps : List Str) (k : Nat) (sp : Sp) : Prop where
  ok : FnOk P w K mg base CX0 k f fd ps sp
  mgx : mg x = some (.ref f)
  kp : PySem.W.keepIn K (.ref f) = true
  bd : Binds K fd ps []
/-! ### parts -/
noncomputable def sp_parts_of : Sp := fun vs H Q _ => ∃ x t, vs = [x] ∧ At H x t ∧ Ok t ∧ RetKs (kids t) H Q
theorem spk_parts_of {x : V} {t : Td} {H : Hp} (h : At H x t) (o : Ok t) : SpKs sp_parts_of ([x] ++ []) H (kids t) := fun H1 e Q q E => ⟨x, t, rfl, h.mono (Tu.ex e), o, q⟩
theorem inV_str (x : Str) (xs : List Str) : inV (.str x) (xs.map V.str) = decide (x ∈ xs) := by
  unfold inV
  rw [List.any_map]
  induction xs with
  | nil => rfl
  | cons y xs ih =>
    rw [List.any_cons, ih]
    show ((y == x) || decide (x ∈ xs)) = decide (x ∈ y :: xs)
    by_cases h : x = y
    · subst h; simp
    · have h1 : (y == x) = false := beq_eq_false_iff_ne.mpr fun z => h z.symm
      rw [h1, Bool.false_or]
      simp [h]
section
variable {P : Program} {w : World} {K : PySem.W.Frag} {mg : Str → Option Value} {base : Heap} {C SZ SY : Addr}
theorem len2 {ys : List V} (h : ys.length = 2) : ∃ y z, ys = [y, z] := by
  match ys, h with
  | [y, z], _ => exact ⟨y, z, rfl⟩
noncomputable def inDN (w : Str) : Bool := decide (w ∈ (["day", "num"] : List Str))
noncomputable def inOB (w : Str) : Bool := decide (w ∈ (["on", "by", "til", "add"] : List Str))
/-- w in ("..", "..") -/
theorem ev_inW {σ : L2.St} {H : Hp} {ta : TE} {tA : TA} {x : Str} (ws : List Str) (h : Ev ta σ H (.str x)) (ha : EvA tA σ H (ws.map V.str)) (hz : ws.length ≤ 100) : Ev (tOp (rIn K false) ta (tTup tA)) σ H (.bl (decide (x ∈ ws))) := by
  rw [← inV_str]
  exact ev_inU h (eu_tup ha (by rw [List.length_map]; omega)) rfl (by rw [List.all_map]; exact List.all_eq_true.mpr fun _ _ => rfl)
theorem ev_at0 {σ : L2.St} {H : Hp} {te : TE} {a : Addr} {xs : List V} {y v : V} (h : Ev te σ H (.ref a)) (ha : H a = some (.tup (y :: xs))) : Ev (tOp (rIxT K) te (tC (.int 0))) σ H y := ev_op h ev_c (rv_ixT (st_of ha) (atI_nat (j := 0) rfl))
theorem ev_at1 {σ : L2.St} {H : Hp} {te : TE} {a : Addr} {xs : List V} {y z : V} (h : Ev te σ H (.ref a)) (ha : H a = some (.tup (y :: z :: xs))) : Ev (tOp (rIxT K) te (tC (.int 1))) σ H z := ev_op h ev_c (rv_ixT (st_of ha) (atI_nat (j := 1) rfl))
theorem ev_at2 {σ : L2.St} {H : Hp} {te : TE} {a : Addr} {xs : List V} {y z v : V} (h : Ev te σ H (.ref a)) (ha : H a = some (.tup (y :: z :: v :: xs))) : Ev (tOp (rIxT K) te (tC (.int 2))) σ H v := ev_op h ev_c (rv_ixT (st_of ha) (atI_nat (j := 2) rfl))
theorem ok_parts_of {f : Addr} {fd : FuncData} (F : Fun K "parts_of" "parts_of" s_parts_of f fd) (T : Txt P w K mg C SZ SY) : FnOk P w K mg base CX0 1 f fd ["told"] sp_parts_of := by
  refine F.ok sc_parts_of (fun vs H Q E h => ?_) (fun cdv A outer s H vs Q E hr h => ?_)
  · obtain ⟨x, t, rfl, _⟩ := h
    rfl
  · obtain ⟨x, t, rfl, ht, ok, k⟩ := h
    refine ⟨_, (pss_cons (ps_if (pt_cmpR (inS (K := K) rfl) (pe_ix (ixT (K := K) rfl) (pv 0) pe_int (fun _ _ => rfl)) (pe_tup (pa_cons pe_str (pa_cons pe_str pa_nil))) (by rfl)) (pss_one (ps_ret (pe_tup pa_nil))) pss_nil) (pss_cons (ps_if (pt_cmpR (inS (K := K) rfl) (pe_ix (ixT (K := K) rfl) (pv 0) pe_int (fun _ _ => rfl)) (pe_tup (pa_cons pe_str (pa_cons pe_str (pa_cons pe_str (pa_cons pe_str pa_nil))))) (by rfl)) (pss_one (ps_ret (pe_slice (slA (K := K) rfl) (pv 0) (po_some pe_int) po_none))) pss_nil) (pss_one (ps_ret (pe_slice (slA (K := K) rfl) (pv 0) (po_some pe_int) po_none))))), ?_⟩
    obtain ⟨a, ys, rfl, ha, hk⟩ := ht.open
    have w1 : ∀ H1, Ex H H1 → EvT (tTest (tOp (rIn K false) (tOp (rIxT K) (tVar 0) (tC (.int 0))) (tTup (tCons (tC (.str "day")) (tCons (tC (.str "num")) tNil))))) [some (V.ref a)] H1 (inDN (word t)) := fun H1 e =>
      et_test (ev_inW ["day", "num"] (ev_at0 (v := .non) (ev_var rfl) (e a _ ha)) (ea_cons ev_c (ea_cons ev_c ea_nil)) (by decide))
    have w2 : ∀ H1, Ex H H1 → EvT (tTest (tOp (rIn K false) (tOp (rIxT K) (tVar 0) (tC (.int 0))) (tTup (tCons (tC (.str "on")) (tCons (tC (.str "by")) (tCons (tC (.str "til")) (tCons (tC (.str "add")) tNil))))))) [some (V.ref a)] H1 (inOB (word t)) := fun H1 e =>
      et_test (ev_inW ["on", "by", "til", "add"] (ev_at0 (v := .non) (ev_var rfl) (e a _ ha)) (ea_cons ev_c (ea_cons ev_c (ea_cons ev_c (ea_cons ev_c ea_nil)))) (by decide))
    cases t with
    | lf w v =>
      cases hk
      refine q_when (w1 H (Ex.refl H)) (fun _ H1 e1 => s_retU (eu_tup ea_nil (by show 0 ≤ 100000; decide)) fun p H2 hp e2 h2 => k p [] H2 (fresh_back e1 hp) (e1.trans e2) h2 .nil) (fun h => ?_)
      change inDN w = false at h
      exfalso
      rcases ok with e | e <;> (subst e; revert h; decide)
    | ov w v t =>
      refine q_when (w1 H (Ex.refl H)) (fun h => ?_) (fun _ H1 e1 => q_when (w2 H1 e1) (fun _ H2 e2 => ?_) (fun h => ?_))
      · change inDN w = true at h
        exfalso
        rcases ok with e | e | e | e <;> (subst e; revert h; decide)
      · have : ys.length = 1 := hk.len
        obtain ⟨y, rfl⟩ : ∃ y, ys = [y] := List.length_eq_one_iff.mp this
        refine s_retU (eu_slA (ev_var rfl) (eo_some ev_c) eo_none (st_of ((e1.trans e2) a _ ha)) ?_) fun p H3 hp e3 h3 => ?_
        · rintro ⟨z, _⟩
          exact absurd z (by show ¬ ((min 2 3 : Nat) = 0); decide)
        · exact k p [y] H3 (fresh_back (e1.trans e2) hp) ((e1.trans e2).trans e3) h3 (hk.mono (Tu.ex ((e1.trans e2).trans e3)))
      · change inOB w = false at h
        exfalso
        rcases ok with e | e | e | e <;> (subst e; revert h; decide)
    | nt t =>
      have n1 : inDN "not" = false := by decide
      have n2 : inOB "not" = false := by decide
      refine q_when (b := inDN "not") (w1 H (Ex.refl H)) (fun h => by rw [n1] at h; cases h) (fun _ H1 e1 => q_when (b := inOB "not") (w2 H1 e1) (fun h => by rw [n2] at h; cases h) (fun _ H2 e2 => ?_))
      have : ys.length = 1 := hk.len
      obtain ⟨y, rfl⟩ : ∃ y, ys = [y] := List.length_eq_one_iff.mp this
      refine s_retU (eu_slA (ev_var rfl) (eo_some ev_c) eo_none (st_of ((e1.trans e2) a _ ha)) ?_) fun p H3 hp e3 h3 => ?_
      · rintro ⟨z, _⟩
        exact absurd z (by show ¬ ((min 1 2 : Nat) = 0); decide)
      · exact k p [y] H3 (fresh_back (e1.trans e2) hp) ((e1.trans e2).trans e3) h3 (hk.mono (Tu.ex ((e1.trans e2).trans e3)))
    | bi w t u =>
      refine q_when (w1 H (Ex.refl H)) (fun h => ?_) (fun _ H1 e1 => q_when (w2 H1 e1) (fun h => ?_) (fun _ H2 e2 => ?_))
      · change inDN w = true at h
        exfalso
        rcases ok with e | e | e | e | e <;> (subst e; revert h; decide)
      · change inOB w = true at h
        exfalso
        rcases ok with e | e | e | e | e <;> (subst e; revert h; decide)
      · have : ys.length = 2 := hk.len
        obtain ⟨y, z, rfl⟩ : ∃ y z, ys = [y, z] := len2 this
        refine s_retU (eu_slA (ev_var rfl) (eo_some ev_c) eo_none (st_of ((e1.trans e2) a _ ha)) ?_) fun p H3 hp e3 h3 => ?_
        · rintro ⟨z, _⟩
          exact absurd z (by show ¬ ((min 1 3 : Nat) = 0); decide)
        · exact k p [y, z] H3 (fresh_back (e1.trans e2) hp) ((e1.trans e2).trans e3) h3 (hk.mono (Tu.ex ((e1.trans e2).trans e3)))
end
/-! ### all pieces -/
noncomputable def sp_all_pieces : Sp := fun vs H Q _ => ∃ x t, vs = [x] ∧ At H x t ∧ OkD t ∧ (pcs t).length ≤ 1000 ∧ RetLs (pcs t) H Q
theorem spl_all_pieces {x : V} {t : Td} {H : Hp} (h : At H x t) (o : OkD t) (z : (pcs t).length ≤ 1000) : SpLs sp_all_pieces ([x] ++ []) H (pcs t) := fun H1 e Q q E => ⟨x, t, rfl, h.mono (Tu.ex e), o, z, q⟩
theorem sizes_rev (ts : List Td) : sizes ts.reverse = sizes ts := by
  induction ts with
  | nil => rfl
  | cons t ts ih => rw [List.reverse_cons, sizes_app, sizes_cons, sizes_cons, ih]; show sizes ts + ((pcs t).length + 0) = _; omega
theorem sizes_len (ts : List Td) : ts.length ≤ sizes ts := by
  induction ts with
  | nil => exact Nat.le_refl _
  | cons t ts ih => rw [sizes_cons, List.length_cons]; have := pcs_pos t; omega
/-- the walk: what is found, what waits (its last is next) -/
structure Wk (t : Td) (fs ws : List Td) : Prop where
  all : fs ++ ws.reverse.flatMap pcs = pcs t
  ok : ∀ u ∈ ws, OkD u
theorem Wk.next {t u : Td} {fs ws : List Td} (k : Wk t fs (ws ++ [u])) : Wk t (fs ++ [u]) (ws ++ (kids u).reverse) := by
  refine ⟨?_, fun v hv => ?_⟩
  · rw [← k.all]
    simp only [List.reverse_append, List.reverse_reverse, List.flatMap_append, List.reverse_cons, List.reverse_nil, List.nil_append, List.flatMap_cons, List.flatMap_nil, List.append_nil]
    rw [pcs_kids u]
    simp
  · rcases List.mem_append.mp hv with z | z
    · exact k.ok v (List.mem_append.mpr (.inl z))
    · exact (k.ok u (by simp)).kid (List.mem_reverse.mp z)
section
variable {P : Program} {w : World} {K : PySem.W.Frag} {mg : Str → Option Value} {base : Heap} {C SZ SY : Addr}
/-- the test of a list's name -/
theorem et_full {X : Cx} (hK : X.K = K) {σ : L2.St} {H : Hp} {te : TE} {l : Addr} {xs : List V} (h : Ev te σ H (.ref l)) (hl : H l = some (.lst xs)) : EvT (fun σ H Q => te σ H fun x H' => ∃ k, TruV X.K x H' k ∧ Q k H') σ H (!xs.isEmpty) := fun H1 e Q q =>
  h H1 e _ fun H2 e2 => ⟨!xs.isEmpty, Or.inl ⟨xs, sq_of ((e.trans e2) l _ hl), rfl⟩, q H2 e2⟩
theorem ok_all_pieces {f f1 : Addr} {fd fd1 : FuncData} (F : Fun K "all_pieces" "all_pieces" s_all_pieces f fd) (T : Txt P w K mg C SZ SY) (c_parts_of : Cal P w K mg base "parts_of" f1 fd1 ["told"] 1 sp_parts_of) : FnOk P w K mg base CX0 2 f fd ["told"] sp_all_pieces := by
  refine F.ok sc_all_pieces (fun vs H Q E h => ?_) (fun cdv A outer s H vs Q E hr h => ?_)
  · obtain ⟨x, t, rfl, _⟩ := h
    rfl
  · obtain ⟨x, t, rfl, ht, ok, hz, k⟩ := h
    refine ⟨_, (pss_cons (ps_set (i := 1) sc_all_pieces.nd rfl (Or.inl rfl) (pe_lst pa_nil)) (pss_cons (ps_set (i := 2) sc_all_pieces.nd rfl (Or.inl rfl) (pe_lst (pa_cons (pv 0) pa_nil))) (pss_cons (ps_while PassesOwn.never (pt_truth (pv 2) (fun _ => rfl)) (pss_cons (ps_set (i := 3) sc_all_pieces.nd rfl (Or.inl rfl) (pe_bm0 PySem.F.plainAttrs_list PySem.F.slot_list_pop PySem.F.type_list_pop mt_pop (pv 2))) (pss_cons (ps_expr (pe_bm PySem.F.plainAttrs_list PySem.F.slot_list_append PySem.F.type_list_append mt_append (pv 1) (pa_cons (pv 3) pa_nil))) (pss_one (ps_expr (pe_bm PySem.F.plainAttrs_list PySem.F.slot_list_extend PySem.F.type_list_extend (SX.mt_extT (K := K) rfl) (pv 2) (pa_cons (SX.pe_revT (K := K) rfl (pe_call c_parts_of.ok (hr.mono (by decide)) (by rfl) c_parts_of.mgx c_parts_of.kp c_parts_of.bd .nil pass0 (pa_cons (pv 3) pa_nil))) pa_nil))))))) (pss_one (ps_ret (pv 1)))))), ?_⟩
    refine q_asgL (el_lst ea_nil (by show 0 ≤ 100000; decide)) fun fo H1 hf e1 h1 => ?_
    refine q_asgL (el_lst (ea_cons (ev_var rfl) ea_nil) (by show 1 ≤ 100000; decide)) fun wa H2 hw e2 h2 => ?_
    have hne : fo ≠ wa := fun z => by subst z; rw [h1] at hw; cases hw
    have hfH : H fo = none := hf
    have hwH : H wa = none := fresh_back e1 hw
    refine q_while (fun m σ' H' => ∃ (fs ws : List Td) (xs ys : List V) (y0 : Option V), σ' = [some x, some (.ref fo), some (.ref wa), y0] ∧ Ex H H' ∧ H' fo = some (.lst xs) ∧ H' wa = some (.lst ys) ∧ Ats H' xs fs ∧ Ats H' ys ws ∧ Wk t fs ws ∧ m = sizes ws) (sizes [t])
      ⟨[], [t], [], [x], none, rfl, e1.trans e2, e2 fo _ h1, h2, .nil, .one (ht.mono (Tu.ex (e1.trans e2))), ⟨by simp, fun u hu => by cases List.mem_singleton.mp hu; exact ok⟩, rfl⟩ ?_
    rintro m σ' H' ⟨fs, ws, xs, ys, y0, rfl, e0, hfo, hwa, hxs, hys, wk, rfl⟩
    refine ⟨_, et_full rfl (ev_var rfl) hwa, fun hb H3 e3 => ?_, fun hb H3 e3 => ?_⟩
    · have hys0 : ys ≠ [] := fun z => by rw [z] at hb; cases hb
      have hws0 : ws ≠ [] := fun z => by subst z; cases hys; exact hys0 rfl
      obtain ⟨ws', u, rfl⟩ : ∃ ws' u, ws = ws' ++ [u] := ⟨ws.dropLast, ws.getLast hws0, (List.dropLast_concat_getLast hws0).symm⟩
      obtain ⟨ys', y, rfl, k1, k2⟩ := hys.last
      have hsz : sizes (ws' ++ [u]) = sizes ws' + (pcs u).length := by rw [sizes_app, sizes_cons]; rfl
      have hku : sizes (kids u).reverse + 1 = (pcs u).length := by rw [sizes_rev, size_kids]; omega
      have hall : xs.length + ((ws' ++ [u]).reverse.flatMap pcs).length ≤ 1000 := by
        have := congrArg List.length wk.all
        rw [List.length_append] at this
        rw [hxs.len]; omega
      have hle : sizes (ws' ++ [u]) ≤ 1000 := by
        have z : ((ws' ++ [u]).reverse.flatMap pcs).length = sizes (ws' ++ [u]) := sizes_rev _
        omega
      refine ⟨fun σ2 H4 => ∃ m', m' < sizes (ws' ++ [u]) ∧ ∃ (fs ws : List Td) (xs ys : List V) (y0 : Option V), σ2 = [some x, some (.ref fo), some (.ref wa), y0] ∧ Ex H H4 ∧ H4 fo = some (.lst xs) ∧ H4 wa = some (.lst ys) ∧ Ats H4 xs fs ∧ Ats H4 ys ws ∧ Wk t fs ws ∧ m' = sizes ws, fun _ _ z => z, ?_⟩
      refine q_pop (e3 wa _ hwa) (ev_var rfl) fun H4 e4 => ?_
      have t4 : Tu H' (upd H4 wa (.lst ys')) := (Tu.ex (e3.trans e4)).trans (Tu.lst (e4 wa _ (e3 wa _ hwa)))
      have f4 : (upd H4 wa (.lst ys')) fo = some (.lst xs) := by rw [upd_ne hne]; exact e4 fo _ (e3 fo _ hfo)
      refine q_app f4 (ev_var rfl) (ev_var rfl) (by omega) fun H5 e5 => ?_
      have w5 : H5 wa = some (.lst ys') := e5 wa _ upd_same
      have t5 : Tu H' (upd H5 fo (.lst (xs ++ [y]))) := (t4.trans (Tu.ex e5)).trans (Tu.lst (e5 fo _ f4))
      have w6 : (upd H5 fo (.lst (xs ++ [y]))) wa = some (.lst ys') := by rw [upd_ne (Ne.symm hne)]; exact w5
      have hl1 := sizes_len (kids u).reverse
      have hl2 := sizes_len ws'
      refine s_extK w6 (ev_var rfl) (eks_rev (eks_call (ea_cons (ev_var rfl) ea_nil) (spk_parts_of (k2.mono t5) (wk.ok u (by simp)).ok))) (by rw [k1.len]; omega) fun H6 zs e6 kz => ?_
      have t6 : Tu H' (upd H6 wa (.lst (ys' ++ zs))) := (t5.trans (Tu.ex e6)).trans (Tu.lst (e6 wa _ w6))
      refine ⟨sizes (ws' ++ (kids u).reverse), by rw [sizes_app]; omega, fs ++ [u], ws' ++ (kids u).reverse, xs ++ [y], ys' ++ zs, some y, rfl, ?_, ?_, upd_same, (hxs.mono t6).app (.one (k2.mono t6)), (k1.mono t6).app (kz.mono (Tu.lst (e6 wa _ w6))), wk.next, rfl⟩
      · exact (((((e0.trans e3).trans e4).mut hwH).trans e5).mut hfH |>.trans e6).mut hwH
      · rw [upd_ne hne]
        exact e6 fo _ upd_same
    · have hys0 : ys = [] := by cases ys with | nil => rfl | cons _ _ => cases hb
      subst hys0
      cases hys
      have hal := wk.all
      simp at hal
      subst hal
      refine s_ret (ev_var rfl) fun H4 e4 => ?_
      exact k fo xs H4 hfH ((e0.trans e3).trans e4) (e4 fo _ (e3 fo _ hfo)) (hxs.mono (Tu.ex (e3.trans e4)))
end
end K25
end
section
set_option maxHeartbeats 2000000
namespace G
open PySem L2 Evl TD SX PyProof.Rows
/-! ### the sorted list of what stands in a list of texts -/
theorem cps_inj {a b : Str} (h : a.cps.toList = b.cps.toList) : a = b := by
  cases a; cases b
  congr 1
  exact Array.toList_inj.mp h
theorem rising_pw : ∀ (p : Str) (l : List Str), risingS p l = true → (p :: l).Pairwise (fun a b => ¬ (b.cps.toList < a.cps.toList))
  | p, [], _ => List.pairwise_singleton _ _
  | p, x :: r, h => by
    have h' : (!PySem.Spec.ltCps x.cps.toList p.cps.toList && risingS x r) = true := h
    rw [Bool.and_eq_true, ltCps_eq] at h'
    have h1 : ¬ (x.cps.toList < p.cps.toList) := by
      intro q
      have := h'.1
      rw [decide_eq_true q] at this
      cases this
    have h2 := rising_pw x r h'.2
    refine List.pairwise_cons.mpr ⟨fun y hy => ?_, h2⟩
    rcases List.mem_cons.mp hy with e | hy
    · subst e; exact h1
    · have h3 := (List.pairwise_cons.mp h2).1 y hy
      intro q
      exact h1 (List.lt_of_le_of_lt (List.not_lt.mp h3) q)
theorem sorted_pw : ∀ (l : List Str), sortedS l = true → l.Pairwise (fun a b => ¬ (b.cps.toList < a.cps.toList))
  | [], _ => List.Pairwise.nil
  | x :: r, h => rising_pw x r h
theorem sorted_same : ∀ (l m : List Str), l.Pairwise (fun a b => ¬ (b.cps.toList < a.cps.toList)) → m.Pairwise (fun a b => ¬ (b.cps.toList < a.cps.toList)) → l.Perm m → l = m
  | [], m, _, _, p => (List.nil_perm.mp p).symm
  | x :: l, [], _, _, p => absurd p.symm (by simp)
  | x :: l, y :: m, hl, hm, p => by
    obtain ⟨l1, l2⟩ := List.pairwise_cons.mp hl
    obtain ⟨m1, m2⟩ := List.pairwise_cons.mp hm
    have e : x = y := by
      refine Classical.byContradiction fun ne => ?_
      have a : y ∈ l := (List.mem_cons.mp (p.mem_iff.mpr List.mem_cons_self)).resolve_left fun z => ne z.symm
      have b : x ∈ m := (List.mem_cons.mp (p.mem_iff.mp List.mem_cons_self)).resolve_left ne
      exact ne (cps_inj (List.le_antisymm (List.not_lt.mp (l1 y a)) (List.not_lt.mp (m1 x b))))
    subst e
    rw [sorted_same l m l2 m2 ((List.perm_cons x).mp p)]
/-- ys is what sorted(set(xs)) tells -/
noncomputable def IsNrm (xs ys : List Str) : Prop := sortedS ys = true ∧ ys.Nodup ∧ ∀ k, k ∈ ys ↔ k ∈ xs
theorem isNrm_uniq {xs ys zs : List Str} (h : IsNrm xs ys) (k : IsNrm xs zs) : ys = zs :=
  sorted_same _ _ (sorted_pw _ h.1) (sorted_pw _ k.1) ((List.perm_ext_iff_of_nodup h.2.1 k.2.1).mpr fun a => (h.2.2 a).trans (k.2.2 a).symm)
open Classical in
noncomputable def nrm (xs : List Str) : List Str := if h : ∃ ys, IsNrm xs ys then Classical.choose h else []
theorem nrm_eq {xs ys : List Str} (h : IsNrm xs ys) : nrm xs = ys := by
  unfold nrm
  rw [dif_pos ⟨ys, h⟩]
  exact isNrm_uniq (Classical.choose_spec (⟨ys, h⟩ : ∃ ys, IsNrm xs ys)) h
variable {K : PySem.W.Frag} {w : World} {σ : L2.St} {H H' : Hp} {ta tb te tx tl : TE} {tt : TT} {x y z v : V} {p a l C dx : Addr} {tA tr tk : TA} {xs ys : List V} {t u : Td} {ts us : List Td} {D : Ends} {tz : TS} {i j : Nat} {Q : VK} {sp : Sp} {dvs : List V} {vs : List Nat} {E : XK}
theorem nodup_len {α : Type} [DecidableEq α] : ∀ {l m : List α}, l.Nodup → (∀ k ∈ l, k ∈ m) → l.length ≤ m.length
  | [], _, _, _ => Nat.zero_le _
  | x :: l, m, hn, hs => by
    obtain ⟨h1, h2⟩ := List.nodup_cons.mp hn
    have hx : x ∈ m := hs x List.mem_cons_self
    have := nodup_len (l := l) (m := m.erase x) h2 fun y hy => (List.mem_erase_of_ne fun e => h1 (by rw [← e]; exact hy)).mpr (hs y (List.mem_cons_of_mem _ hy))
    rw [List.length_erase_of_mem hx] at this
    have := List.length_pos_of_mem hx
    rw [List.length_cons]
    omega
/-- sorted(set(xs)) -/
theorem el_sortedSet {ks : List Str} (h : EvL te σ H (ks.map V.str)) (hz : ks.length < 64) : EvL (tCB (SX.rSorted w) (tCons (tCB (SX.rSet K w) (tCons te tNil)) tNil)) σ H ((nrm ks).map V.str) := fun H1 e Q q =>
  h H1 e _ fun l H2 hl e2 h2 => ⟨l, ks, rfl, .inl (sq_of h2), by omega, fun s hs => ⟨s, ks, rfl, upd_same, by omega, fun ys p hsd hn hm hp => by
    have hp2 : H2 p = none := fresh_back (Ex.new hs) hp
    rw [nrm_eq ⟨hsd, hn, hm⟩] at q
    exact q p _ (fresh_back e2 hp2) ((e2.trans (Ex.new hs)).trans (Ex.new hp)) upd_same⟩⟩
/-! ### comprehensions over told things -/
theorem given_filter {α : Type} (ts : List α) (d : α) (f : α → Bool) (g : α → V) : given ts.length (fun i => f (ts.getD i d)) (fun i => g (ts.getD i d)) = (ts.filter f).map g := by
  have e : ts = (List.range ts.length).map fun i => ts.getD i d := by
    apply List.ext_getElem
    · simp
    · intro k h1 h2
      simp [List.getD_eq_getElem?_getD, List.getElem?_eq_getElem h1]
  unfold given
  conv => rhs; rw [e]
  rw [List.filter_map, List.map_map]
  rfl
theorem getD_td {ts : List Td} {k : Nat} {r d : Td} (h : ts[k]? = some r) : ts.getD k d = r := by rw [List.getD_eq_getElem?_getD, h] <;> rfl
/-- [e for x in a new list of told things if ..] -/
theorem el_lcLs (f : Td → Bool) (g : Td → V) (h : EvLs tl σ H ts) (hz : ts.length ≤ 40000) (hw : ∀ x, wipe ((wipe σ vs).set j (some x)) vs = wipe σ vs)
    (ht : ∀ (x : V) (t : Td) H1, Ex H H1 → At H1 x t → t ∈ ts → EvT tt ((wipe σ vs).set j (some x)) H1 (f t)) (he : ∀ (x : V) (t : Td) H1, Ex H H1 → At H1 x t → t ∈ ts → f t = true → Ev te ((wipe σ vs).set j (some x)) H1 (g t)) :
    EvL (tLc (iList K tl) (gName j) tt te vs) σ H ((ts.filter f).map g) := fun H0 e Q q => h H0 e _ fun a xs H1 ha e1 hx k => ⟨a, rfl, ⟨xs, sq_of hx⟩, fun Dl hD => by
  have hl : xs.length = ts.length := k.len
  refine lc_list (xs := xs) (Cw H1 (fun i => f (ts.getD i (.lf "" .non))) (fun i => g (ts.getD i (.lf "" .non))) Dl) ⟨hD, Ex.new hD, upd_same⟩ (fun i H' _ p => sq_of (p.2.1 a _ hx)) (fun i x H' hi p => ?_) (fun H' p => ?_)
  · obtain ⟨t, hti, hxt⟩ := k.get hi
    have hm := List.mem_of_getElem? hti
    refine ⟨hw x, cw_turn p (by have := (List.getElem?_eq_some_iff.mp hi).1; omega) ?_ (fun hf => ?_)⟩
    · rw [getD_td hti]; exact ht x t H1 (e.trans e1) hxt hm
    · rw [getD_td hti] at hf ⊢; exact he x t H1 (e.trans e1) hxt hm hf
  · rw [hl] at p
    refine q Dl H' (fresh_back e1 p.1) (e1.trans p.2.1) ?_
    rw [p.2.2, given_filter]⟩
/-- over a list of told things that has a name -/
theorem el_lcLv (f : Td → Bool) (g : Td → V) (h : Ev tl σ H (.ref a)) (hx : H a = some (.lst xs)) (k : Ats H xs ts) (hz : ts.length ≤ 40000) (hw : ∀ x, wipe ((wipe σ vs).set j (some x)) vs = wipe σ vs)
    (ht : ∀ (x : V) (t : Td) H1, Ex H H1 → At H1 x t → t ∈ ts → EvT tt ((wipe σ vs).set j (some x)) H1 (f t)) (he : ∀ (x : V) (t : Td) H1, Ex H H1 → At H1 x t → t ∈ ts → f t = true → Ev te ((wipe σ vs).set j (some x)) H1 (g t)) :
    EvL (tLc (iList K tl) (gName j) tt te vs) σ H ((ts.filter f).map g) := by
  have hl : xs.length = ts.length := k.len
  rw [← given_filter ts (.lf "" .non), ← hl]
  refine el_lcL _ _ h (sq_of hx) (by omega) hw (fun i x H1 e1 hi => ?_) (fun i x H1 e1 hi hf => ?_)
  · obtain ⟨t, hti, hxt⟩ := k.get hi
    rw [getD_td hti]; exact ht x t H1 e1 (hxt.mono (Tu.ex e1)) (List.mem_of_getElem? hti)
  · obtain ⟨t, hti, hxt⟩ := k.get hi
    rw [getD_td hti] at hf ⊢; exact he x t H1 e1 (hxt.mono (Tu.ex e1)) (List.mem_of_getElem? hti) hf
/-- [e for x in a new tuple of told things] -/
theorem el_lcKs (f : Td → Bool) (g : Td → V) (h : EvKs tl σ H ts) (hz : ts.length ≤ 40000) (hw : ∀ x, wipe ((wipe σ vs).set j (some x)) vs = wipe σ vs)
    (ht : ∀ (x : V) (t : Td) H1, Ex H H1 → At H1 x t → t ∈ ts → EvT tt ((wipe σ vs).set j (some x)) H1 (f t)) (he : ∀ (x : V) (t : Td) H1, Ex H H1 → At H1 x t → t ∈ ts → f t = true → Ev te ((wipe σ vs).set j (some x)) H1 (g t)) :
    EvL (tLc (iTup K tl) (gName j) tt te vs) σ H ((ts.filter f).map g) := fun H0 e Q q => h H0 e _ fun a xs H1 ha e1 hx k => ⟨a, rfl, ⟨xs, st_of hx⟩, fun Dl hD => by
  have hl : xs.length = ts.length := k.len
  refine lc_tup (xs := xs) (Cw H1 (fun i => f (ts.getD i (.lf "" .non))) (fun i => g (ts.getD i (.lf "" .non))) Dl) ⟨hD, Ex.new hD, upd_same⟩ (fun i H' _ p => st_of (p.2.1 a _ hx)) (fun i x H' hi p => ?_) (fun H' p => ?_)
  · obtain ⟨t, hti, hxt⟩ := k.get hi
    have hm := List.mem_of_getElem? hti
    refine ⟨hw x, cw_turn p (by have := (List.getElem?_eq_some_iff.mp hi).1; omega) ?_ (fun hf => ?_)⟩
    · rw [getD_td hti]; exact ht x t H1 (e.trans e1) hxt hm
    · rw [getD_td hti] at hf ⊢; exact he x t H1 (e.trans e1) hxt hm hf
  · rw [hl] at p
    refine q Dl H' (fresh_back e1 p.1) (e1.trans p.2.1) ?_
    rw [p.2.2, given_filter]⟩
theorem filter_yes {α : Type} (l : List α) : l.filter (fun _ => true) = l := List.filter_eq_self.mpr fun _ _ => rfl
/-- [t], a list of told things -/
theorem els_one (h : EvTd te σ H t) : EvLs (tLst (tCons te tNil)) σ H [t] := fun H1 e Q q => h H1 e _ fun v H2 e2 k => ⟨sz_of (by show 1 ≤ 100000; decide), fun p hp =>
  q p [v] _ (fresh_back e2 hp) (e2.trans (Ex.new hp)) upd_same (.one (k.mono (Tu.ex (Ex.new hp))))⟩
/-- len of a new list of told things -/
theorem ev_lenLs (h : EvLs te σ H ts) : Ev (tCB (fun xs H Q => ∃ p ys, xs = [.ref p] ∧ (SqL K H p ys ∨ SqT K H p ys) ∧ Q (.int (ys.length : Int)) H) (tCons te tNil)) σ H (.int (ts.length : Int)) := fun H1 e Q q =>
  h H1 e _ fun p ys H2 hp e2 h2 k => ⟨p, ys, rfl, .inl (sq_of h2), by rw [k.len]; exact q H2 e2⟩
/-- [e for k, v in d.items()], d locked meanwhile -/
theorem el_lcItems {d : Addr} {td : TE} {kvs : List (Key × V)} (g : Key × V → V) (hv : ∀ H1, Ev td σ H1 (.ref d)) (hd : H d = some (.dK kvs)) (hz : kvs.length ≤ 40000) (hw : ∀ x y, wipe (((wipe σ vs).set i (some x)).set j (some y)) vs = wipe σ vs)
    (he : ∀ (k : Key) (v : V) H1, (∀ b o, b ≠ d → H b = some o → H1 b = some o) → (k, v) ∈ kvs → Ev te (((wipe σ vs).set i (some (kV k))).set j (some v)) H1 (g (k, v))) :
    EvL (tLockE (tLc (iItems td) (gTup K 2 (gCons (gName i) (gCons (gName j) gNil))) tYes te vs)) σ H (kvs.map g) := fun H0 e Q q => by
  refine ⟨d, .dK kvs, e d _ hd, True.intro, fun od => hv _ _ (Ex.refl _) _ fun H1 e1 => ⟨d, od, kvs, rfl, e1 d _ upd_same, fun Dl hD => ?_⟩⟩
  have h1d : H1 d = some (.frz od (.dK kvs)) := e1 d _ upd_same
  have hne : Dl ≠ d := fun z => by subst z; rw [h1d] at hD; cases hD
  have off : ∀ b o, b ≠ d → H b = some o → H1 b = some o := fun b o hb ho => e1 b o (by rw [upd_ne hb]; exact e b o ho)
  have h0D : H0 Dl = none := by
    have := fresh_back e1 hD
    rw [upd_ne hne] at this
    exact this
  have ge : kvs.map g = given kvs.length (fun _ => true) (fun i => g (kvs.getD i (.inl 0, .non))) := by
    rw [given_filter kvs (.inl 0, .non) (fun _ => true) g, filter_yes]
  refine lc_it (walk_items (d := d) (o := od) (kvs := kvs)) (Cw H1 (fun _ => true) (fun i => g (kvs.getD i (.inl 0, .non))) Dl) ⟨hD, Ex.new hD, upd_same⟩ (fun i0 H' _ p => p.2.1 d _ h1d) (fun i0 x0 H' H'' hi p y => ?_) (fun H' p => ?_)
  · obtain ⟨T, a, b, rfl, hT, rfl, ea, eb⟩ := y
    have hgk : kvs[i0]? = some kvs[i0] := List.getElem?_eq_getElem hi
    dsimp only at ea eb
    rw [hgk] at ea eb
    cases ea
    cases eb
    refine ⟨T, [kV kvs[i0].1, kvs[i0].2], rfl, st_of upd_same, rfl, _, _, rfl, _, _, rfl, rfl, ?_⟩
    have pc2 : Cw H1 (fun _ => true) (fun i => g (kvs.getD i (.inl 0, .non))) Dl i0 (upd H' T (.tup [kV kvs[i0].1, kvs[i0].2])) := ⟨p.1, p.2.1.trans (Ex.new hT), by rw [upd_ne (ne_of_none p.2.2 hT)]; exact p.2.2⟩
    refine ⟨hw _ _, cw_turn pc2 (by omega) lc_yes (fun _ => ?_)⟩
    rw [List.getD_eq_getElem?_getD, hgk]
    exact he _ _ H1 off (List.getElem_mem hi)
  · refine ⟨p.2.1 d _ h1d, q Dl _ h0D (fun b o hb => ?_) ?_⟩
    · by_cases z : b = d
      · subst z
        rw [e b _ hd] at hb
        cases hb
        exact upd_same
      · rw [upd_ne z]
        exact p.2.1 b o (e1 b o (by rw [upd_ne z]; exact hb))
    · rw [upd_ne hne, p.2.2, ge]
end G
end
section
set_option maxHeartbeats 4000000
namespace K25
open PySem L2 Evl G TM TD
/-! ### letters -/
noncomputable def sp_letter (L : List Str) : Sp := fun vs H Q _ => ∃ r, r ∈ L ∧ vs = [.str r] ∧ RetV (.bl true) H Q
theorem spv_letter {L : List Str} {r : Str} {H : Hp} (h : r ∈ L) : SpV (sp_letter L) ([.str r] ++ []) H (.bl true) := fun H1 _ Q q E => ⟨r, h, rfl, q⟩
noncomputable def sp_is_day : Sp := fun vs H Q _ => ∃ i, vs = [.int i] ∧ RetV (.bl true) H Q
theorem spv_is_day {i : Int} {H : Hp} : SpV sp_is_day ([.int i] ++ []) H (.bl true) := fun H1 _ Q q E => ⟨i, rfl, q⟩
/-- a name's leaf, a rule's piece -/
noncomputable def isNm (u : Td) : Bool := decide (word u = "day")
noncomputable def isRl (u : Td) : Bool := decide (word u ∈ (["on", "by", "til"] : List Str))
noncomputable def ownV (u : Td) : V := (own u).getD 0 .non
/-- what is told well: the things of names and rules are texts -/
noncomputable def ownS (u : Td) : Str := match own u with | [.str n] => n | _ => ""
noncomputable def nmsOf (t : Td) : List Str := ((pcs t).filter isNm).map ownS
noncomputable def rlsOf (t : Td) : List Str := ((pcs t).filter isRl).map ownS
noncomputable def Nice (u : Td) : Prop := (isNm u = true → ∃ n, own u = [.str n]) ∧ (isRl u = true → ∃ r, own u = [.str r])
noncomputable def NiceD (t : Td) : Prop := ∀ u ∈ pcs t, Nice u
noncomputable def sp_names_in : Sp := fun vs H Q _ => ∃ x t, vs = [x] ∧ At H x t ∧ OkD t ∧ NiceD t ∧ (pcs t).length ≤ 63 ∧ RetL ((nrm (nmsOf t)).map V.str) H Q
noncomputable def sp_rules_in : Sp := fun vs H Q _ => ∃ x t, vs = [x] ∧ At H x t ∧ OkD t ∧ NiceD t ∧ (pcs t).length ≤ 63 ∧ RetL ((nrm (rlsOf t)).map V.str) H Q
theorem spl_names_in {x : V} {t : Td} {H : Hp} (h : At H x t) (o : OkD t) (nc : NiceD t) (z : (pcs t).length ≤ 63) : SpL sp_names_in ([x] ++ []) H ((nrm (nmsOf t)).map V.str) := fun H1 e Q q E => ⟨x, t, rfl, h.mono (Tu.ex e), o, nc, z, q⟩
theorem spl_rules_in {x : V} {t : Td} {H : Hp} (h : At H x t) (o : OkD t) (nc : NiceD t) (z : (pcs t).length ≤ 63) : SpL sp_rules_in ([x] ++ []) H ((nrm (rlsOf t)).map V.str) := fun H1 e Q q E => ⟨x, t, rfl, h.mono (Tu.ex e), o, nc, z, q⟩
section
variable {P : Program} {w : World} {K : PySem.W.Frag} {mg : Str → Option Value} {base : Heap} {C SZ SY : Addr}
theorem ev_isiB {σ : L2.St} {H : Hp} {ta : TE} {x : V} {t : String} {n : String} {b : Bool} (h : Ev ta σ H x) (ty : ∀ H1, Ex H H1 → TyX K H1 x (.type t)) (hb : kitB t n = some b) :
    Ev (tCB (rIsi K) (tCons ta (tCons (tC (.ty n)) tNil))) σ H (.bl b) := ev_cb (ea_cons h (ea_cons ev_c ea_nil)) (rc_isi (.ty n) ty (kit_ty hb))
theorem ev_lenStr {σ : L2.St} {H : Hp} {ta : TE} {z : Str} (h : Ev ta σ H (.str z)) (hz : z.length ≤ 100000) : Ev (tCB (fun xs H Q => ∃ z, xs = [.str z] ∧ z.length ≤ sizeLine ∧ Q (.int z.length) H) (tCons ta tNil)) σ H (.int (z.length : Int)) := fun H1 e Q q =>
  h H1 e _ fun H2 e2 => ⟨z, rfl, sz_of hz, q H2 e2⟩
theorem ev_inStr {σ : L2.St} {H : Hp} {ta tb : TE} {i j : Str} (h : Ev ta σ H (.str i)) (k : Ev tb σ H (.str j)) : Ev (tOp (fun x y H Q => ∃ i j, x = .str i ∧ y = .str j ∧ Q (.bl (!(Builtin.Str.occurrences j i 0 j.length 1).isEmpty)) H) ta tb) σ H (.bl (!(Builtin.Str.occurrences j i 0 j.length 1).isEmpty)) :=
  ev_op h k fun H1 _ Q q => ⟨i, j, rfl, rfl, q H1 (Ex.refl H1)⟩
theorem rule_one : ∀ r ∈ ruleL, r.length = 1 ∧ (!(Builtin.Str.occurrences "abcdefgh" r 0 (Str.length "abcdefgh") 1).isEmpty) = true := by decide +kernel
theorem name_one : ∀ r ∈ nameL, r.length = 1 ∧ (!(Builtin.Str.occurrences "pqrstuvwxyz" r 0 (Str.length "pqrstuvwxyz") 1).isEmpty) = true := by decide +kernel
theorem ok_is_rule {f : Addr} {fd : FuncData} (F : Fun K "is_rule" "is_rule" s_is_rule f fd) (T : Txt P w K mg C SZ SY) : FnOk P w K mg base CX0 1 f fd ["value"] (sp_letter ruleL) := by
  refine F.ok sc_is_rule (fun vs H Q E h => ?_) (fun cdv A outer s H vs Q E hr h => ?_)
  · obtain ⟨i, _, rfl, _⟩ := h
    rfl
  · obtain ⟨r, hm, rfl, k⟩ := h
    refine ⟨_, (pss_one (ps_ret (pe_and (pe_callB (isiS (K := K) rfl) (by rfl) T.b_isinstance (by decide +kernel) (pa_cons (pv 0) (pa_cons (pe_bltn (v := .ty "str") (u := .type "str") (by rfl) T.b_str (by decide +kernel) rfl) pa_nil))) (pe_and (pe_cmpR op_eq (pe_callB call_len_str (by rfl) T.b_len (by decide +kernel) (pa_cons (pv 0) pa_nil)) pe_int (nomark _)) (pe_one (pe_cmpR op_in_str (pv 0) pe_str (by rfl))))))), ?_⟩
    obtain ⟨h1, h2⟩ := rule_one r hm
    refine s_ret (ev_andV (b := true) (a := true) (ev_isiB (b := true) (ev_var rfl) (fun _ _ => .base (.str r)) (by decide +kernel)) fun _ => ev_andV (a := true) (b := true) (ev_is (ev_op (ev_lenStr (ev_var rfl) (by rw [h1]; decide)) ev_c (rv_eq rfl)) (by rw [h1]; rfl)) fun _ => ev_is (ev_inStr (ev_var rfl) ev_c) (by rw [h2])) fun H1 e => k H1 e
theorem ok_is_name {f : Addr} {fd : FuncData} (F : Fun K "is_name" "is_name" s_is_name f fd) (T : Txt P w K mg C SZ SY) : FnOk P w K mg base CX0 1 f fd ["value"] (sp_letter nameL) := by
  refine F.ok sc_is_name (fun vs H Q E h => ?_) (fun cdv A outer s H vs Q E hr h => ?_)
  · obtain ⟨i, _, rfl, _⟩ := h
    rfl
  · obtain ⟨r, hm, rfl, k⟩ := h
    refine ⟨_, (pss_one (ps_ret (pe_and (pe_callB (isiS (K := K) rfl) (by rfl) T.b_isinstance (by decide +kernel) (pa_cons (pv 0) (pa_cons (pe_bltn (v := .ty "str") (u := .type "str") (by rfl) T.b_str (by decide +kernel) rfl) pa_nil))) (pe_and (pe_cmpR op_eq (pe_callB call_len_str (by rfl) T.b_len (by decide +kernel) (pa_cons (pv 0) pa_nil)) pe_int (nomark _)) (pe_one (pe_cmpR op_in_str (pv 0) pe_str (by rfl))))))), ?_⟩
    obtain ⟨h1, h2⟩ := name_one r hm
    refine s_ret (ev_andV (b := true) (a := true) (ev_isiB (b := true) (ev_var rfl) (fun _ _ => .base (.str r)) (by decide +kernel)) fun _ => ev_andV (a := true) (b := true) (ev_is (ev_op (ev_lenStr (ev_var rfl) (by rw [h1]; decide)) ev_c (rv_eq rfl)) (by rw [h1]; rfl)) fun _ => ev_is (ev_inStr (ev_var rfl) ev_c) (by rw [h2])) fun H1 e => k H1 e
theorem ok_is_day {f : Addr} {fd : FuncData} (F : Fun K "is_day" "is_day" s_is_day f fd) (T : Txt P w K mg C SZ SY) : FnOk P w K mg base CX0 1 f fd ["value"] sp_is_day := by
  refine F.ok sc_is_day (fun vs H Q E h => ?_) (fun cdv A outer s H vs Q E hr h => ?_)
  · obtain ⟨i, rfl, _⟩ := h
    rfl
  · obtain ⟨i, rfl, k⟩ := h
    refine ⟨_, (pss_one (ps_ret (pe_and (pe_callB (isiS (K := K) rfl) (by rfl) T.b_isinstance (by decide +kernel) (pa_cons (pv 0) (pa_cons (pe_bltn (v := .ty "int") (u := .type "int") (by rfl) T.b_int (by decide +kernel) rfl) pa_nil))) (pe_one (pe_not (pe_callB (isiS (K := K) rfl) (by rfl) T.b_isinstance (by decide +kernel) (pa_cons (pv 0) (pa_cons (pe_bltn (v := .ty "bool") (u := .type "bool") (by rfl) T.b_bool (by decide +kernel) rfl) pa_nil)))))))), ?_⟩
    refine s_ret (ev_andV (b := true) (ev_isiB (b := true) (ev_var rfl) (fun _ _ => .base (.int i)) (by decide +kernel)) fun _ => ev_notV (a := false) (ev_isiB (b := false) (ev_var rfl) (fun _ _ => .base (.int i)) (by decide +kernel))) fun H1 e => k H1 e
/-! ### names and rules in -/
theorem IsF.nice : ∀ {t : Td}, IsF t → NiceD t
  | .lf w v, h => fun u hu => by
    cases List.mem_singleton.mp hu
    refine ⟨fun _ => ?_, fun z => ?_⟩
    · rcases h with ⟨_, n, _, rfl⟩ | ⟨e, _⟩
      · exact ⟨n, rfl⟩
      · subst e; rename_i z; exact absurd (show decide (("num" : Str) = "day") = true from z) (by decide)
    · change decide (w ∈ (["on", "by", "til"] : List Str)) = true at z
      rcases h with ⟨e, _⟩ | ⟨e, _⟩ <;> (subst e; exact absurd z (by decide))
  | .ov w v t, ⟨h, k⟩ => fun u hu => by
    rcases List.mem_cons.mp hu with e | hu
    · subst e
      refine ⟨fun z => ?_, fun z => ?_⟩
      · change decide (w = "day") = true at z
        rcases h with ⟨h, _⟩ | ⟨h, _⟩
        · rcases turn_cases h with e | e | e <;> (subst e; exact absurd z (by decide))
        · subst h; exact absurd z (by decide)
      · change decide (w ∈ (["on", "by", "til"] : List Str)) = true at z
        rcases h with ⟨_, r, _, rfl⟩ | ⟨h, _⟩
        · exact ⟨r, rfl⟩
        · subst h; exact absurd z (by decide)
    · exact IsF.nice k u hu
  | .nt _, h => h.elim
  | .bi w t u', ⟨h, k, l⟩ => fun u hu => by
    rcases List.mem_cons.mp hu with e | hu
    · subst e
      refine ⟨fun z => ?_, fun z => ?_⟩
      · change decide (w = "day") = true at z
        rcases h with e | e <;> (subst e; exact absurd z (by decide))
      · change decide (w ∈ (["on", "by", "til"] : List Str)) = true at z
        rcases h with e | e <;> (subst e; exact absurd z (by decide))
    · rcases List.mem_append.mp hu with e | e
      · exact IsF.nice k u e
      · exact IsF.nice l u e
theorem IsS.nice : ∀ {t : Td}, IsS t → NiceD t
  | .lf _ _, h => h.elim
  | .ov _ _ _, h => h.elim
  | .nt t, h => fun u hu => by
    rcases List.mem_cons.mp hu with e | hu
    · subst e
      exact ⟨fun z => absurd (show decide (("not" : Str) = "day") = true from z) (by decide), fun z => absurd (show decide (("not" : Str) ∈ (["on", "by", "til"] : List Str)) = true from z) (by decide)⟩
    · exact IsS.nice (t := t) h u hu
  | .bi w t u', h => fun u hu => by
    have hw : w = "le" ∨ w = "and" ∨ w = "or" := by
      rcases h with ⟨h, _⟩ | ⟨h, _⟩
      · exact .inl h
      · exact .inr h
    rcases List.mem_cons.mp hu with e | hu
    · subst e
      refine ⟨fun z => ?_, fun z => ?_⟩
      · change decide (w = "day") = true at z
        rcases hw with e | e | e <;> (subst e; exact absurd z (by decide))
      · change decide (w ∈ (["on", "by", "til"] : List Str)) = true at z
        rcases hw with e | e | e <;> (subst e; exact absurd z (by decide))
    · rcases h with ⟨_, k, l⟩ | ⟨_, k, l⟩
      · rcases List.mem_append.mp hu with e | e
        · exact IsF.nice k u e
        · exact IsF.nice l u e
      · rcases List.mem_append.mp hu with e | e
        · exact IsS.nice k u e
        · exact IsS.nice l u e
theorem el_eq {te : TE} {σ : L2.St} {H : Hp} {xs ys : List V} (h : EvL te σ H xs) (e : xs = ys) : EvL te σ H ys := e ▸ h
theorem dec_str (a b : Str) : decide (V.str a = V.str b) = decide (a = b) := by
  rw [Bool.eq_iff_iff, decide_eq_true_iff, decide_eq_true_iff]
  exact ⟨fun h => V.str.inj h, fun h => h ▸ rfl⟩
theorem nms_eq {t : Td} (h : NiceD t) : ((pcs t).filter isNm).map ownV = (nmsOf t).map V.str := by
  unfold nmsOf
  rw [List.map_map]
  refine List.map_congr_left fun u hu => ?_
  obtain ⟨h1, h2⟩ := List.mem_filter.mp hu
  obtain ⟨n, hn⟩ := (h u h1).1 h2
  unfold ownV
  show (own u).getD 0 .non = V.str (ownS u)
  unfold ownS
  rw [hn] <;> rfl
theorem rls_eq {t : Td} (h : NiceD t) : ((pcs t).filter isRl).map ownV = (rlsOf t).map V.str := by
  unfold rlsOf
  rw [List.map_map]
  refine List.map_congr_left fun u hu => ?_
  obtain ⟨h1, h2⟩ := List.mem_filter.mp hu
  obtain ⟨n, hn⟩ := (h u h1).2 h2
  unfold ownV
  show (own u).getD 0 .non = V.str (ownS u)
  unfold ownS
  rw [hn] <;> rfl
theorem nms_len (t : Td) : (nmsOf t).length ≤ (pcs t).length := by unfold nmsOf; rw [List.length_map]; exact List.length_filter_le _ _
theorem rls_len (t : Td) : (rlsOf t).length ≤ (pcs t).length := by unfold rlsOf; rw [List.length_map]; exact List.length_filter_le _ _
/-- u[0], u[1] of what is told -/
theorem ev_wordA {σ : L2.St} {H : Hp} {te : TE} {x : V} {u : Td} (h : Ev te σ H x) (k : At H x u) : Ev (tOp (rIxT K) te (tC (.int 0))) σ H (.str (word u)) := by
  obtain ⟨a, ys, rfl, ha, _⟩ := k.open
  exact ev_at0 (v := .non) h ha
theorem ev_ownA {σ : L2.St} {H : Hp} {te : TE} {x v : V} {u : Td} (h : Ev te σ H x) (k : At H x u) (ho : own u = [v]) : Ev (tOp (rIxT K) te (tC (.int 1))) σ H v := by
  obtain ⟨a, ys, rfl, ha, _⟩ := k.open
  rw [ho] at ha
  exact ev_at1 h ha
theorem ok_names_in {f f1 : Addr} {fd fd1 : FuncData} (F : Fun K "names_in" "names_in" s_names_in f fd) (T : Txt P w K mg C SZ SY) (c_all_pieces : Cal P w K mg base "all_pieces" f1 fd1 ["told"] 2 sp_all_pieces) : FnOk P w K mg base CX0 3 f fd ["told"] sp_names_in := by
  refine F.ok sc_names_in (fun vs H Q E h => ?_) (fun cdv A outer s H vs Q E hr h => ?_)
  · obtain ⟨x, t, rfl, _⟩ := h
    rfl
  · obtain ⟨x, t, rfl, ht, ok, nc, hz, k⟩ := h
    refine ⟨_, (pss_one (ps_ret (pe_callB (SX.cr_sorted rfl hr.units) (by rfl) T.b_sorted (by decide +kernel) (pa_cons (pe_callTy (SX.cr_set rfl) (by rfl) T.b_set (by decide +kernel) (pa_cons (pe_lc (own := [("piece", 1)]) (g := (gName 1)) (by rfl) sc_names_in.nd (piL (K := K) rfl (pe_call c_all_pieces.ok (hr.mono (by decide)) (by rfl) c_all_pieces.mgx c_all_pieces.kp c_all_pieces.bd .nil pass0 (pa_cons (pv 0) pa_nil))) (blkOk_by (own := [("piece", 1)]) (N := ["told", "piece"]) (sc := defScope s_names_in) (by decide +kernel)) (fun _ _ _ _ _ => (pg_name (i := 1) sc_names_in.nd rfl (Or.inl rfl))) (fun _ _ _ _ _ => (pts_one (pt_cmpR op_eq (pe_ix (ixT (K := K) rfl) (pv 1) pe_int (fun _ _ => rfl)) pe_str (nomark _)))) (fun _ _ _ _ _ => (pe_ix (ixT (K := K) rfl) (pv 1) pe_int (fun _ _ => rfl)))) pa_nil)) pa_nil)))), ?_⟩
    refine s_retL (el_sortedSet (el_eq (el_lcLs (K := K) (j := 1) (vs := [1]) isNm ownV (els_call (ea_cons (ev_var (i := 0) (σ := [some x, none]) rfl) ea_nil) (spl_all_pieces ht ok (by omega))) (by omega) (fun _ => rfl) (fun y u H1 e1 hy hu => et_test (ev_is (ev_op (ev_wordA (K := K) (ev_var (i := 1) rfl) hy) ev_c (rv_eq rfl)) (by rw [dec_str]; rfl))) (fun y u H1 e1 hy hu hf => by
      obtain ⟨n, hn⟩ := (nc u hu).1 hf
      have e : ownV u = .str n := by unfold ownV; rw [hn] <;> rfl
      rw [e]
      exact ev_ownA (K := K) (ev_var (i := 1) rfl) hy hn)) (nms_eq nc)) (by have := nms_len t; omega)) fun p H1 hp e h1 => k p H1 hp e h1
theorem ok_rules_in {f f1 : Addr} {fd fd1 : FuncData} (F : Fun K "rules_in" "rules_in" s_rules_in f fd) (T : Txt P w K mg C SZ SY) (c_all_pieces : Cal P w K mg base "all_pieces" f1 fd1 ["told"] 2 sp_all_pieces) : FnOk P w K mg base CX0 3 f fd ["told"] sp_rules_in := by
  refine F.ok sc_rules_in (fun vs H Q E h => ?_) (fun cdv A outer s H vs Q E hr h => ?_)
  · obtain ⟨x, t, rfl, _⟩ := h
    rfl
  · obtain ⟨x, t, rfl, ht, ok, nc, hz, k⟩ := h
    refine ⟨_, (pss_one (ps_ret (pe_callB (SX.cr_sorted rfl hr.units) (by rfl) T.b_sorted (by decide +kernel) (pa_cons (pe_callTy (SX.cr_set rfl) (by rfl) T.b_set (by decide +kernel) (pa_cons (pe_lc (own := [("piece", 1)]) (g := (gName 1)) (by rfl) sc_rules_in.nd (piL (K := K) rfl (pe_call c_all_pieces.ok (hr.mono (by decide)) (by rfl) c_all_pieces.mgx c_all_pieces.kp c_all_pieces.bd .nil pass0 (pa_cons (pv 0) pa_nil))) (blkOk_by (own := [("piece", 1)]) (N := ["told", "piece"]) (sc := defScope s_rules_in) (by decide +kernel)) (fun _ _ _ _ _ => (pg_name (i := 1) sc_rules_in.nd rfl (Or.inl rfl))) (fun _ _ _ _ _ => (pts_one (pt_cmpR (inS (K := K) rfl) (pe_ix (ixT (K := K) rfl) (pv 1) pe_int (fun _ _ => rfl)) (pe_tup (pa_cons pe_str (pa_cons pe_str (pa_cons pe_str pa_nil)))) (by rfl)))) (fun _ _ _ _ _ => (pe_ix (ixT (K := K) rfl) (pv 1) pe_int (fun _ _ => rfl)))) pa_nil)) pa_nil)))), ?_⟩
    refine s_retL (el_sortedSet (el_eq (el_lcLs (K := K) (j := 1) (vs := [1]) isRl ownV (els_call (ea_cons (ev_var (i := 0) (σ := [some x, none]) rfl) ea_nil) (spl_all_pieces ht ok (by omega))) (by omega) (fun _ => rfl) (fun y u H1 e1 hy hu => et_test (ev_inW (K := K) ["on", "by", "til"] (ev_wordA (K := K) (ev_var (i := 1) rfl) hy) (ea_cons ev_c (ea_cons ev_c (ea_cons ev_c ea_nil))) (by decide))) (fun y u H1 e1 hy hu hf => by
      obtain ⟨n, hn⟩ := (nc u hu).2 hf
      have e : ownV u = .str n := by unfold ownV; rw [hn] <;> rfl
      rw [e]
      exact ev_ownA (K := K) (ev_var (i := 1) rfl) hy hn)) (rls_eq nc)) (by have := rls_len t; omega)) fun p H1 hp e h1 => k p H1 hp e h1
end
end K25
end
section
set_option maxHeartbeats 4000000
namespace K25
open PySem L2 Evl G TM TD
/-! ### which are formulas, which sayings -/
/-- a formula's piece, its parts not looked at -/
noncomputable def TopF : Td → Prop
  | .lf w v => (w = "day" ∧ ∃ n, n ∈ nameL ∧ v = .str n) ∨ (w = "num" ∧ ∃ i, v = .int i)
  | .ov w v _ => (w ∈ turnL ∧ ∃ r, r ∈ ruleL ∧ v = .str r) ∨ (w = "add" ∧ ∃ i, v = .int i)
  | .nt _ => False
  | .bi w _ _ => w = "late" ∨ w = "soon"
/-- a saying's tuple, its parts not looked at -/
noncomputable def TopS : Td → Prop
  | .nt _ => True
  | .bi w _ _ => w = "le" ∨ w = "and" ∨ w = "or"
  | _ => False
theorem isF_top {t : Td} (h : IsF t) : TopF t ∧ ∀ u ∈ kids t, IsF u := by
  cases t with
  | lf w v => exact ⟨h, fun u hu => by cases hu⟩
  | ov w v t => exact ⟨h.1, fun u hu => by cases List.mem_singleton.mp hu; exact h.2⟩
  | nt t => exact h.elim
  | bi w t u' => exact ⟨h.1, fun u hu => by
      rcases List.mem_cons.mp hu with e | e
      · subst e; exact h.2.1
      · cases List.mem_singleton.mp e; exact h.2.2⟩
theorem isS_top {t : Td} (h : IsS t) : TopS t ∧ ((word t = "le" ∧ ∀ u ∈ kids t, IsF u) ∨ (word t ≠ "le" ∧ ∀ u ∈ kids t, IsS u)) := by
  cases t with
  | lf w v => exact h.elim
  | ov w v t => exact h.elim
  | nt t => exact ⟨True.intro, .inr ⟨by show ("not" : Str) ≠ "le"; decide, fun u hu => by cases List.mem_singleton.mp hu; exact h⟩⟩
  | bi w t u' =>
    rcases h with ⟨e, a, b⟩ | ⟨e, a, b⟩
    · exact ⟨.inl e, .inl ⟨e, fun u hu => by
        rcases List.mem_cons.mp hu with e | e
        · subst e; exact a
        · cases List.mem_singleton.mp e; exact b⟩⟩
    · refine ⟨.inr e, .inr ⟨?_, fun u hu => ?_⟩⟩
      · show w ≠ "le"
        rcases e with e | e <;> (subst e; decide)
      · rcases List.mem_cons.mp hu with e | e
        · subst e; exact a
        · cases List.mem_singleton.mp e; exact b
theorem topF_ok {t : Td} (h : TopF t) : Ok t := by
  cases t with
  | lf w v => exact h.imp (·.1) (·.1)
  | ov w v t =>
    rcases h with ⟨h, _⟩ | ⟨h, _⟩
    · rcases turn_cases h with e | e | e
      · exact .inl e
      · exact .inr (.inl e)
      · exact .inr (.inr (.inl e))
    · exact .inr (.inr (.inr h))
  | nt t => exact h.elim
  | bi w t u => exact h.imp id .inl
theorem topS_ok {t : Td} (h : TopS t) : Ok t := by
  cases t with
  | lf w v => exact h.elim
  | ov w v t => exact h.elim
  | nt t => exact True.intro
  | bi w t u => exact .inr (.inr h)
theorem topS_word {t : Td} (h : TopS t) : word t ∈ wordS := by
  cases t with
  | lf w v => exact h.elim
  | ov w v t => exact h.elim
  | nt t => show ("not" : Str) ∈ wordS; decide
  | bi w t u => show w ∈ wordS; rcases h with e | e | e <;> (subst e; decide)
noncomputable def lenT (t : Td) : Nat := 1 + ((own t).length + (kids t).length)
theorem topF_size {t : Td} (h : TopF t) : (word t, (lenT t : Int)) ∈ sizeF := by
  cases t with
  | lf w v => show (w, (2 : Int)) ∈ sizeF; rcases h with ⟨e, _⟩ | ⟨e, _⟩ <;> (subst e; decide)
  | ov w v t =>
    show (w, (3 : Int)) ∈ sizeF
    rcases h with ⟨h, _⟩ | ⟨h, _⟩
    · rcases turn_cases h with e | e | e <;> (subst e; decide)
    · subst h; decide
  | nt t => exact h.elim
  | bi w t u => show (w, (3 : Int)) ∈ sizeF; rcases h with e | e <;> (subst e; decide)
theorem topS_size {t : Td} (h : TopS t) : (word t, (lenT t : Int)) ∈ sizeS := by
  cases t with
  | lf w v => exact h.elim
  | ov w v t => exact h.elim
  | nt t => show (("not" : Str), (2 : Int)) ∈ sizeS; decide
  | bi w t u => show (w, (3 : Int)) ∈ sizeS; rcases h with e | e | e <;> (subst e; decide)
noncomputable def sp__is_piece : Sp := fun vs H Q _ => ∃ x t, vs = [x] ∧ At H x t ∧ ((TopF t ∧ RetV (.bl true) H Q) ∨ (TopS t ∧ RetV (.bl false) H Q))
theorem spv_is_piece {x : V} {t : Td} {H : Hp} (h : At H x t) (k : TopF t) : SpV sp__is_piece ([x] ++ []) H (.bl true) := fun H1 e Q q E => ⟨x, t, rfl, h.mono (Tu.ex e), .inl ⟨k, q⟩⟩
theorem spv_no_piece {x : V} {t : Td} {H : Hp} (h : At H x t) (k : TopS t) : SpV sp__is_piece ([x] ++ []) H (.bl false) := fun H1 e Q q E => ⟨x, t, rfl, h.mono (Tu.ex e), .inr ⟨k, q⟩⟩
noncomputable def sp_is_formula : Sp := fun vs H Q _ => ∃ x t, vs = [x] ∧ At H x t ∧ (pcs t).length ≤ 1000 ∧ ((IsF t ∧ RetV (.bl true) H Q) ∨ (TopS t ∧ RetV (.bl false) H Q))
theorem spv_is_formula {x : V} {t : Td} {H : Hp} (h : At H x t) (z : (pcs t).length ≤ 1000) (k : IsF t) : SpV sp_is_formula ([x] ++ []) H (.bl true) := fun H1 e Q q E => ⟨x, t, rfl, h.mono (Tu.ex e), z, .inl ⟨k, q⟩⟩
noncomputable def sp__is_tuple_of_saying : Sp := fun vs H Q _ => ∃ x t, vs = [x] ∧ At H x t ∧ TopS t ∧ RetV (.bl true) H Q
theorem spv_is_tos {x : V} {t : Td} {H : Hp} (h : At H x t) (k : TopS t) : SpV sp__is_tuple_of_saying ([x] ++ []) H (.bl true) := fun H1 e Q q E => ⟨x, t, rfl, h.mono (Tu.ex e), k, q⟩
noncomputable def sp_is_saying : Sp := fun vs H Q _ => ∃ x t, vs = [x] ∧ At H x t ∧ (pcs t).length ≤ 1000 ∧ IsS t ∧ RetV (.bl true) H Q
theorem spv_is_saying {x : V} {t : Td} {H : Hp} (h : At H x t) (z : (pcs t).length ≤ 1000) (k : IsS t) : SpV sp_is_saying ([x] ++ []) H (.bl true) := fun H1 e Q q E => ⟨x, t, rfl, h.mono (Tu.ex e), z, k, q⟩
section
variable {P : Program} {w : World} {K : PySem.W.Frag} {mg : Str → Option Value} {base : Heap} {C SZ SY : Addr}
theorem ev_niKD {σ : L2.St} {H : Hp} {ta tb : TE} {d : Addr} {z : Str} {r : Option Value} (h : Ev ta σ H (.str z)) (k : Ev tb σ H (.ref d)) (e : PySem.W.nsIn K d z = some r) :
    Ev (tOp (fun x y H Q => ∃ (z : Str) (r : Option Value), x = .str z ∧ y = .ref d ∧ PySem.W.nsIn K d z = some r ∧ Q (.bl (!r.isSome)) H) ta tb) σ H (.bl (!r.isSome)) := ev_op h k fun H1 _ Q q => ⟨z, r, rfl, rfl, e, q H1 (Ex.refl H1)⟩
theorem ev_inKD {σ : L2.St} {H : Hp} {ta tb : TE} {d : Addr} {z : Str} {r : Option Value} (h : Ev ta σ H (.str z)) (k : Ev tb σ H (.ref d)) (e : PySem.W.nsIn K d z = some r) :
    Ev (tOp (fun x y H Q => ∃ (z : Str) (r : Option Value), x = .str z ∧ y = .ref d ∧ PySem.W.nsIn K d z = some r ∧ Q (.bl r.isSome) H) ta tb) σ H (.bl r.isSome) := ev_op h k fun H1 _ Q q => ⟨z, r, rfl, rfl, e, q H1 (Ex.refl H1)⟩
theorem ev_ixKD {σ : L2.St} {H : Hp} {ta tb : TE} {d : Addr} {z : Str} {v : V} (h : Ev ta σ H (.ref d)) (k : Ev tb σ H (.str z)) (e : KDct K w d z v) : Ev (tOp (rIxD K w) ta tb) σ H v := ev_op h k fun H1 _ Q q => ⟨d, z, v, rfl, rfl, e, q H1 (Ex.refl H1)⟩
theorem ev_lenT {σ : L2.St} {H : Hp} {te : TE} {x : V} {t : Td} (h : Ev te σ H x) (k : At H x t) : Ev (tCB (fun xs H Q => ∃ p ys, xs = [.ref p] ∧ (SqL K H p ys ∨ SqT K H p ys) ∧ Q (.int (ys.length : Int)) H) (tCons te tNil)) σ H (.int (lenT t : Int)) := by
  obtain ⟨a, ys, rfl, ha, hk⟩ := k.open
  refine ev_cb (ea_cons h ea_nil) (rc_len (.inr (st_of ha)) ?_)
  rw [List.length_cons, List.length_append, hk.len]
  unfold lenT
  omega
/-- the test that a told thing's form begins with -/
theorem et_head {σ : L2.St} {H : Hp} {te : TE} {x : V} {t : Td} (h : Ev te σ H x) (k : At H x t) :
    EvT (tOr (tNot (tB (tCB (rIsi K) (tCons te (tCons (tC (.ty "tuple")) tNil))))) (tOr (tTest (tOp rEq (tCB (fun xs H Q => ∃ p ys, xs = [.ref p] ∧ (SqL K H p ys ∨ SqT K H p ys) ∧ Q (.int (ys.length : Int)) H) (tCons te tNil)) (tC (.int 0))))
      (tNot (tB (tCB (rIsi K) (tCons (tOp (rIxT K) te (tC (.int 0))) (tCons (tC (.ty "str")) tNil))))))) σ H false := by
  obtain ⟨a, ys, rfl, ha, hk⟩ := id k.open
  have e0 : decide ((V.int (lenT t : Int)) = V.int 0) = false := decide_eq_false fun z => by
    have := V.int.inj z
    unfold lenT at this
    omega
  exact et_or (a := false) (b := false) (et_not (a := true) (et_B (ev_isiB (b := true) h (fun H1 e => .base (.tup (e a _ ha))) (by decide +kernel)))) fun _ =>
    et_or (a := false) (b := false) (et_is (et_test (ev_op (ev_lenT (K := K) h k) ev_c (rv_eq rfl))) e0) fun _ => et_not (a := true) (et_B (ev_isiB (b := true) (ev_wordA (K := K) h k) (fun H1 e => .base (.str _)) (by decide +kernel)))
theorem ok__is_piece {f f1 f2 f3 : Addr} {fd fd1 fd2 fd3 : FuncData} (F : Fun K "_is_piece" "_is_piece" s__is_piece f fd) (T : Txt P w K mg C SZ SY) (c_is_name : Cal P w K mg base "is_name" f1 fd1 ["value"] 1 (sp_letter nameL)) (c_is_day : Cal P w K mg base "is_day" f2 fd2 ["value"] 1 sp_is_day) (c_is_rule : Cal P w K mg base "is_rule" f3 fd3 ["value"] 1 (sp_letter ruleL)) :
    FnOk P w K mg base CX0 2 f fd ["value"] sp__is_piece := by
  refine F.ok sc__is_piece (fun vs H Q E h => ?_) (fun cdv A outer s H vs Q E hr h => ?_)
  · obtain ⟨x, t, rfl, _⟩ := h
    rfl
  · obtain ⟨x, t, rfl, ht, h⟩ := h
    refine ⟨_, (pss_cons (ps_if (PW.pt (pw_or (pt_not (pt_val (pe_callB (isiS (K := K) rfl) (by rfl) T.b_isinstance (by decide +kernel) (pa_cons (pv 0) (pa_cons (pe_bltn (v := .ty "tuple") (u := .type "tuple") (by rfl) T.b_tuple (by decide +kernel) rfl) pa_nil))))) (pw_or (pt_cmpR op_eq (pe_callB (lenS (K := K) rfl) (by rfl) T.b_len (by decide +kernel) (pa_cons (pv 0) pa_nil)) pe_int (nomark _)) (pw_or1 (pt_not (pt_val (pe_callB (isiS (K := K) rfl) (by rfl) T.b_isinstance (by decide +kernel) (pa_cons (pe_ix (ixT (K := K) rfl) (pv 0) pe_int (fun _ _ => rfl)) (pa_cons (pe_bltn (v := .ty "str") (u := .type "str") (by rfl) T.b_str (by decide +kernel) rfl) pa_nil))))))))) (pss_one (ps_ret pe_bl)) pss_nil) (pss_cons (ps_set (i := 1) sc__is_piece.nd rfl (Or.inl rfl) (pe_ix (ixT (K := K) rfl) (pv 0) pe_int (fun _ _ => rfl))) (pss_cons (ps_if (PW.pt (pw_or (pt_cmpR (op_notIn_kd T.z.kd.choose_spec.choose_spec) (pv 1) (pe_glob (v := .ref SZ) rfl T.mg_SIZES rfl) (by rfl)) (pw_or1 (pt_cmpR op_ne (pe_callB (lenS (K := K) rfl) (by rfl) T.b_len (by decide +kernel) (pa_cons (pv 0) pa_nil)) (pe_ix ix_kdict (pe_glob (v := .ref SZ) rfl T.mg_SIZES rfl) (pv 1) (fun _ _ => rfl)) (nomark _))))) (pss_one (ps_ret pe_bl)) pss_nil) (pss_cons (ps_if (pt_cmpR op_eq (pv 1) pe_str (nomark _)) (pss_one (ps_ret (pe_call c_is_name.ok (hr.mono (by decide)) (by rfl) c_is_name.mgx c_is_name.kp c_is_name.bd .nil pass0 (pa_cons (pe_ix (ixT (K := K) rfl) (pv 0) pe_int (fun _ _ => rfl)) pa_nil)))) pss_nil) (pss_cons (ps_if (pt_cmpR (inS (K := K) rfl) (pv 1) (pe_tup (pa_cons pe_str (pa_cons pe_str pa_nil))) (by rfl)) (pss_one (ps_ret (pe_call c_is_day.ok (hr.mono (by decide)) (by rfl) c_is_day.mgx c_is_day.kp c_is_day.bd .nil pass0 (pa_cons (pe_ix (ixT (K := K) rfl) (pv 0) pe_int (fun _ _ => rfl)) pa_nil)))) pss_nil) (pss_one (ps_ret (pe_or (pe_cmpR (inS (K := K) rfl) (pv 1) (pe_tup (pa_cons pe_str (pa_cons pe_str pa_nil))) (by rfl)) (pe_one (pe_call c_is_rule.ok (hr.mono (by decide)) (by rfl) c_is_rule.mgx c_is_rule.kp c_is_rule.bd .nil pass0 (pa_cons (pe_ix (ixT (K := K) rfl) (pv 0) pe_int (fun _ _ => rfl)) pa_nil))))))))))), ?_⟩
    refine q_when (et_head (K := K) (ev_var rfl) ht) (fun z => by cases z) fun _ H1 e1 => ?_
    refine q_asg (ev_wordA (K := K) (ev_var rfl) (ht.mono (Tu.ex e1))) fun H2 e2 => ?_
    have a2 : At H2 x t := ht.mono (Tu.ex (e1.trans e2))
    rcases h with ⟨top, k⟩ | ⟨top, k⟩
    · obtain ⟨kd, u, hu⟩ := T.z.there _ (topF_size top)
      refine q_when (b := false) (et_or (a := false) (b := false) (et_test (ev_niKD (r := some u) (ev_var rfl) ev_c hu)) fun _ => et_is (et_test (ev_op (ev_lenT (K := K) (ev_var rfl) a2) (ev_ixKD ev_c (ev_var rfl) kd) (rv_ne rfl))) (by simp)) (fun z => by cases z) fun _ H3 e3 => ?_
      have a3 : At H3 x t := a2.mono (Tu.ex e3)
      cases t with
      | lf w v =>
        rcases top with ⟨e, n, hn, rfl⟩ | ⟨e, i, rfl⟩
        · subst e
          refine q_when (b := true) (et_test (ev_op (ev_var rfl) ev_c (rv_eq rfl))) (fun _ H4 e4 => ?_) (fun z => by cases z)
          exact s_ret (ev_call (ea_cons (ev_ownA (K := K) (ev_var rfl) (a3.mono (Tu.ex e4)) rfl) ea_nil) (spv_letter hn)) fun H5 e5 => k H5 ((((e1.trans e2).trans e3).trans e4).trans e5)
        · subst e
          refine q_when (b := false) (et_test (ev_op (ev_var rfl) ev_c (rv_eq rfl))) (fun z => by cases z) (fun _ H4 e4 => ?_)
          refine q_when (b := true) (et_test (ev_inW (K := K) (x := "num") ["num", "add"] (ev_var rfl) (ea_cons ev_c (ea_cons ev_c ea_nil)) (by decide))) (fun _ H5 e5 => ?_) (fun z => by cases z)
          exact s_ret (ev_call (ea_cons (ev_ownA (K := K) (ev_var rfl) (a3.mono (Tu.ex (e4.trans e5))) rfl) ea_nil) spv_is_day) fun H6 e6 => k H6 (((((e1.trans e2).trans e3).trans e4).trans e5).trans e6)
      | ov w v t =>
        rcases top with ⟨e, r, hr', rfl⟩ | ⟨e, i, rfl⟩
        · have hd : decide ((V.str w) = V.str "day") = false := by rw [dec_str]; rcases turn_cases e with e | e | e <;> (subst e; decide)
          have hn : decide (w ∈ (["num", "add"] : List Str)) = false := by rcases turn_cases e with e | e | e <;> (subst e; decide)
          have hl : decide (w ∈ (["late", "soon"] : List Str)) = false := by rcases turn_cases e with e | e | e <;> (subst e; decide)
          refine q_when (b := false) (et_is (et_test (ev_op (ev_var rfl) ev_c (rv_eq rfl))) hd) (fun z => by cases z) (fun _ H4 e4 => ?_)
          refine q_when (b := false) (et_is (et_test (ev_inW (K := K) (x := w) ["num", "add"] (ev_var rfl) (ea_cons ev_c (ea_cons ev_c ea_nil)) (by decide))) hn) (fun z => by cases z) (fun _ H5 e5 => ?_)
          refine s_ret (ev_orV (a := false) (b := true) (ev_is (ev_inW (K := K) (x := w) ["late", "soon"] (ev_var rfl) (ea_cons ev_c (ea_cons ev_c ea_nil)) (by decide)) (by rw [hl])) fun _ => ev_call (ea_cons (ev_ownA (K := K) (ev_var rfl) (a3.mono (Tu.ex (e4.trans e5))) rfl) ea_nil) (spv_letter hr')) fun H6 e6 => k H6 (((((e1.trans e2).trans e3).trans e4).trans e5).trans e6)
        · subst e
          refine q_when (b := false) (et_test (ev_op (ev_var rfl) ev_c (rv_eq rfl))) (fun z => by cases z) (fun _ H4 e4 => ?_)
          refine q_when (b := true) (et_test (ev_inW (K := K) (x := "add") ["num", "add"] (ev_var rfl) (ea_cons ev_c (ea_cons ev_c ea_nil)) (by decide))) (fun _ H5 e5 => ?_) (fun z => by cases z)
          exact s_ret (ev_call (ea_cons (ev_ownA (K := K) (ev_var rfl) (a3.mono (Tu.ex (e4.trans e5))) rfl) ea_nil) spv_is_day) fun H6 e6 => k H6 (((((e1.trans e2).trans e3).trans e4).trans e5).trans e6)
      | nt t => exact top.elim
      | bi w t u' =>
        have hd : decide ((V.str w) = V.str "day") = false := by rw [dec_str]; rcases top with e | e <;> (subst e; decide)
        have hn : decide (w ∈ (["num", "add"] : List Str)) = false := by rcases top with e | e <;> (subst e; decide)
        have hl : decide (w ∈ (["late", "soon"] : List Str)) = true := by rcases top with e | e <;> (subst e; decide)
        refine q_when (b := false) (et_is (et_test (ev_op (ev_var rfl) ev_c (rv_eq rfl))) hd) (fun z => by cases z) (fun _ H4 e4 => ?_)
        refine q_when (b := false) (et_is (et_test (ev_inW (K := K) (x := w) ["num", "add"] (ev_var rfl) (ea_cons ev_c (ea_cons ev_c ea_nil)) (by decide))) hn) (fun z => by cases z) (fun _ H5 e5 => ?_)
        refine s_ret (ev_orV (a := true) (b := true) (ev_is (ev_inW (K := K) (x := w) ["late", "soon"] (ev_var rfl) (ea_cons ev_c (ea_cons ev_c ea_nil)) (by decide)) (by rw [hl])) fun z => by cases z) fun H6 e6 => k H6 (((((e1.trans e2).trans e3).trans e4).trans e5).trans e6)
    · refine q_when (b := true) (et_or (a := true) (b := true) (et_test (ev_niKD (r := none) (ev_var rfl) ev_c (T.z.miss _ (topS_word top)))) fun z => by cases z) (fun _ H3 e3 => ?_) fun z => by cases z
      exact s_ret ev_c fun H4 e4 => k H4 (((e1.trans e2).trans e3).trans e4)
end
end K25
end
section
set_option maxHeartbeats 4000000
namespace K25
open PySem L2 Evl G TM TD
theorem sizes_kids_lt (t : Td) : sizes (kids t) < (pcs t).length := by rw [size_kids]; omega
theorem sizes_snoc (ws : List Td) (u : Td) : sizes (ws ++ [u]) = sizes ws + (pcs u).length := by rw [sizes_app, sizes_cons]; rfl
noncomputable def sp_need_formula : Sp := fun vs H Q _ => ∃ x t, vs = [x] ∧ At H x t ∧ (pcs t).length ≤ 1000 ∧ IsF t ∧ RetV .non H Q
noncomputable def sp_need_saying : Sp := fun vs H Q _ => ∃ x t, vs = [x] ∧ At H x t ∧ (pcs t).length ≤ 1000 ∧ IsS t ∧ RetV .non H Q
theorem spv_need_saying {x : V} {t : Td} {H : Hp} (h : At H x t) (z : (pcs t).length ≤ 1000) (k : IsS t) : SpV sp_need_saying ([x] ++ []) H .non := fun H1 e Q q E => ⟨x, t, rfl, h.mono (Tu.ex e), z, k, q⟩
noncomputable def sp_need_told : Sp := fun vs H Q _ => ∃ x t, vs = [x] ∧ At H x t ∧ (pcs t).length ≤ 1000 ∧ (IsF t ∨ IsS t) ∧ RetV .non H Q
noncomputable def sp_pieces : Sp := fun vs H Q _ => ∃ x t, vs = [x] ∧ At H x t ∧ (pcs t).length ≤ 1000 ∧ (IsF t ∨ IsS t) ∧ RetV (.int ((pcs t).length : Int)) H Q
noncomputable def sp_names_of : Sp := fun vs H Q _ => ∃ x t, vs = [x] ∧ At H x t ∧ (pcs t).length ≤ 63 ∧ (IsF t ∨ IsS t) ∧ RetL ((nrm (nmsOf t)).map V.str) H Q
noncomputable def sp_rules_of : Sp := fun vs H Q _ => ∃ x t, vs = [x] ∧ At H x t ∧ (pcs t).length ≤ 63 ∧ (IsF t ∨ IsS t) ∧ RetL ((nrm (rlsOf t)).map V.str) H Q
section
variable {P : Program} {w : World} {K : PySem.W.Frag} {mg : Str → Option Value} {base : Heap} {C SZ SY : Addr}
theorem ok_is_formula {f f1 f2 : Addr} {fd fd1 fd2 : FuncData} (F : Fun K "is_formula" "is_formula" s_is_formula f fd) (T : Txt P w K mg C SZ SY) (c__is_piece : Cal P w K mg base "_is_piece" f1 fd1 ["value"] 2 sp__is_piece) (c_parts_of : Cal P w K mg base "parts_of" f2 fd2 ["told"] 1 sp_parts_of) :
    FnOk P w K mg base CX0 3 f fd ["value"] sp_is_formula := by
  refine F.ok sc_is_formula (fun vs H Q E h => ?_) (fun cdv A outer s H vs Q E hr h => ?_)
  · obtain ⟨x, t, rfl, _⟩ := h
    rfl
  · obtain ⟨x, t, rfl, ht, hz, h⟩ := h
    refine ⟨_, (pss_cons (ps_set (i := 1) sc_is_formula.nd rfl (Or.inl rfl) (pe_lst (pa_cons (pv 0) pa_nil))) (pss_cons (ps_while PassesOwn.never (pt_truth (pv 1) (fun _ => rfl)) (pss_cons (ps_set (i := 2) sc_is_formula.nd rfl (Or.inl rfl) (pe_bm0 PySem.F.plainAttrs_list PySem.F.slot_list_pop PySem.F.type_list_pop mt_pop (pv 1))) (pss_cons (ps_if (pt_not (pt_val (pe_call c__is_piece.ok (hr.mono (by decide)) (by rfl) c__is_piece.mgx c__is_piece.kp c__is_piece.bd .nil pass0 (pa_cons (pv 2) pa_nil)))) (pss_one (ps_ret pe_bl)) pss_nil) (pss_one (ps_expr (pe_bm PySem.F.plainAttrs_list PySem.F.slot_list_extend PySem.F.type_list_extend (SX.mt_extT (K := K) rfl) (pv 1) (pa_cons (pe_call c_parts_of.ok (hr.mono (by decide)) (by rfl) c_parts_of.mgx c_parts_of.kp c_parts_of.bd .nil pass0 (pa_cons (pv 2) pa_nil)) pa_nil))))))) (pss_one (ps_ret pe_bl)))), ?_⟩
    refine q_asgL (el_lst (ea_cons (ev_var rfl) ea_nil) (by show 1 ≤ 100000; decide)) fun wa H1 hw e1 h1 => ?_
    refine q_while (fun m σ' H' => ∃ (ws : List Td) (ys : List V) (y0 : Option V), σ' = [some x, some (.ref wa), y0] ∧ Ex H H' ∧ H' wa = some (.lst ys) ∧ Ats H' ys ws ∧ m = sizes ws ∧ sizes ws ≤ 1000 ∧ ((IsF t ∧ RetV (.bl true) H Q ∧ ∀ u ∈ ws, IsF u) ∨ (TopS t ∧ RetV (.bl false) H Q ∧ ws = [t]))) (sizes [t])
      ⟨[t], [x], none, rfl, e1, h1, .one (ht.mono (Tu.ex e1)), rfl, by rw [sizes_cons]; show (pcs t).length + 0 ≤ 1000; omega, ?_⟩ ?_
    · rcases h with ⟨a, b⟩ | ⟨a, b⟩
      · exact .inl ⟨a, b, fun u hu => by cases List.mem_singleton.mp hu; exact a⟩
      · exact .inr ⟨a, b, rfl⟩
    rintro m σ' H' ⟨ws, ys, y0, rfl, e0, hwa, hys, rfl, hsz, hg⟩
    refine ⟨_, et_full rfl (ev_var rfl) hwa, fun hb H3 e3 => ?_, fun hb H3 e3 => ?_⟩
    · have hys0 : ys ≠ [] := fun z => by rw [z] at hb; cases hb
      have hws0 : ws ≠ [] := fun z => by subst z; cases hys; exact hys0 rfl
      obtain ⟨ws', u, rfl⟩ : ∃ ws' u, ws = ws' ++ [u] := ⟨ws.dropLast, ws.getLast hws0, (List.dropLast_concat_getLast hws0).symm⟩
      obtain ⟨ys', y, rfl, k1, k2⟩ := hys.last
      have hs1 := sizes_snoc ws' u
      have hs2 := sizes_kids_lt u
      refine ⟨fun σ2 H4 => ∃ m', m' < sizes (ws' ++ [u]) ∧ ∃ (ws : List Td) (ys : List V) (y0 : Option V), σ2 = [some x, some (.ref wa), y0] ∧ Ex H H4 ∧ H4 wa = some (.lst ys) ∧ Ats H4 ys ws ∧ m' = sizes ws ∧ sizes ws ≤ 1000 ∧ ((IsF t ∧ RetV (.bl true) H Q ∧ ∀ u ∈ ws, IsF u) ∨ (TopS t ∧ RetV (.bl false) H Q ∧ ws = [t])), fun _ _ z => z, ?_⟩
      refine q_pop (e3 wa _ hwa) (ev_var rfl) fun H4 e4 => ?_
      have t4 : Tu H' (upd H4 wa (.lst ys')) := (Tu.ex (e3.trans e4)).trans (Tu.lst (e4 wa _ (e3 wa _ hwa)))
      have x4 : Ex H (upd H4 wa (.lst ys')) := ((e0.trans e3).trans e4).mut hw
      rcases hg with ⟨hF, kk, hall⟩ | ⟨hS, kk, heq⟩
      · obtain ⟨tu, hkids⟩ := isF_top (hall u (by simp))
        refine q_when (b := false) (et_not (a := true) (et_B (ev_call (ea_cons (ev_var rfl) ea_nil) (spv_is_piece (k2.mono t4) tu)))) (fun z => by cases z) fun _ H5 e5 => ?_
        have w5 : H5 wa = some (.lst ys') := e5 wa _ upd_same
        have t5 : Tu H' H5 := t4.trans (Tu.ex e5)
        have hl1 := sizes_len (kids u)
        have hl2 := sizes_len ws'
        refine s_extK w5 (ev_var rfl) (eks_call (ea_cons (ev_var rfl) ea_nil) (spk_parts_of (k2.mono t5) (topF_ok tu))) (by rw [k1.len]; omega) fun H6 zs e6 kz => ?_
        have t6 : Tu H' (upd H6 wa (.lst (ys' ++ zs))) := (t5.trans (Tu.ex e6)).trans (Tu.lst (e6 wa _ w5))
        refine ⟨sizes (ws' ++ kids u), by rw [sizes_app]; omega, ws' ++ kids u, ys' ++ zs, some y, rfl, ((x4.trans e5).trans e6).mut hw, upd_same, (k1.mono t6).app (kz.mono (Tu.lst (e6 wa _ w5))), rfl, by rw [sizes_app]; omega, .inl ⟨hF, kk, fun v hv => ?_⟩⟩
        rcases List.mem_append.mp hv with z | z
        · exact hall v (List.mem_append.mpr (.inl z))
        · exact hkids v z
      · have hu : u = t := by
          have := congrArg List.getLast? heq
          simpa using this
        subst hu
        refine q_when (b := true) (et_not (a := false) (et_B (ev_call (ea_cons (ev_var rfl) ea_nil) (spv_no_piece (k2.mono t4) hS)))) (fun _ H5 e5 => ?_) fun z => by cases z
        exact s_ret ev_c fun H6 e6 => kk H6 ((x4.trans e5).trans e6)
    · have hys0 : ys = [] := by cases ys with | nil => rfl | cons _ _ => cases hb
      subst hys0
      cases hys
      rcases hg with ⟨_, kk, _⟩ | ⟨_, _, heq⟩
      · exact s_ret ev_c fun H4 e4 => kk H4 ((e0.trans e3).trans e4)
      · cases heq
theorem ok__is_tuple_of_saying {f : Addr} {fd : FuncData} (F : Fun K "_is_tuple_of_saying" "_is_tuple_of_saying" s__is_tuple_of_saying f fd) (T : Txt P w K mg C SZ SY) : FnOk P w K mg base CX0 1 f fd ["value"] sp__is_tuple_of_saying := by
  refine F.ok sc__is_tuple_of_saying (fun vs H Q E h => ?_) (fun cdv A outer s H vs Q E hr h => ?_)
  · obtain ⟨x, t, rfl, _⟩ := h
    rfl
  · obtain ⟨x, t, rfl, ht, top, k⟩ := h
    refine ⟨_, (pss_cons (ps_if (PW.pt (pw_or (pt_not (pt_val (pe_callB (isiS (K := K) rfl) (by rfl) T.b_isinstance (by decide +kernel) (pa_cons (pv 0) (pa_cons (pe_bltn (v := .ty "tuple") (u := .type "tuple") (by rfl) T.b_tuple (by decide +kernel) rfl) pa_nil))))) (pw_or (pt_cmpR op_eq (pe_callB (lenS (K := K) rfl) (by rfl) T.b_len (by decide +kernel) (pa_cons (pv 0) pa_nil)) pe_int (nomark _)) (pw_or1 (pt_not (pt_val (pe_callB (isiS (K := K) rfl) (by rfl) T.b_isinstance (by decide +kernel) (pa_cons (pe_ix (ixT (K := K) rfl) (pv 0) pe_int (fun _ _ => rfl)) (pa_cons (pe_bltn (v := .ty "str") (u := .type "str") (by rfl) T.b_str (by decide +kernel) rfl) pa_nil))))))))) (pss_one (ps_ret pe_bl)) pss_nil) (pss_one (ps_ret (pe_and (pe_cmpR (op_in_kd T.y.kd.choose_spec.choose_spec) (pe_ix (ixT (K := K) rfl) (pv 0) pe_int (fun _ _ => rfl)) (pe_glob (v := .ref SY) rfl T.mg_SIZES_OF_SAYINGS rfl) (by rfl)) (pe_one (pe_cmpR op_eq (pe_callB (lenS (K := K) rfl) (by rfl) T.b_len (by decide +kernel) (pa_cons (pv 0) pa_nil)) (pe_ix ix_kdict (pe_glob (v := .ref SY) rfl T.mg_SIZES_OF_SAYINGS rfl) (pe_ix (ixT (K := K) rfl) (pv 0) pe_int (fun _ _ => rfl)) (fun _ _ => rfl)) (nomark _))))))), ?_⟩
    refine q_when (et_head (K := K) (ev_var rfl) ht) (fun z => by cases z) fun _ H1 e1 => ?_
    have a1 : At H1 x t := ht.mono (Tu.ex e1)
    obtain ⟨kd, u, hu⟩ := T.y.there _ (topS_size top)
    refine s_ret (ev_andV (a := true) (b := true) (ev_inKD (r := some u) (ev_wordA (K := K) (ev_var rfl) a1) ev_c hu) fun _ => ev_is (ev_op (ev_lenT (K := K) (ev_var rfl) a1) (ev_ixKD ev_c (ev_wordA (K := K) (ev_var rfl) a1) kd) (rv_eq rfl)) (by simp)) fun H2 e2 => k H2 (e1.trans e2)
end
end K25
end
section
set_option maxHeartbeats 4000000
namespace K25
open PySem L2 Evl G TM TD
section
variable {P : Program} {w : World} {K : PySem.W.Frag} {mg : Str → Option Value} {base : Heap} {C SZ SY : Addr}
theorem ok_is_saying {f f1 f2 f3 : Addr} {fd fd1 fd2 fd3 : FuncData} (F : Fun K "is_saying" "is_saying" s_is_saying f fd) (T : Txt P w K mg C SZ SY) (c__is_tuple_of_saying : Cal P w K mg base "_is_tuple_of_saying" f1 fd1 ["value"] 1 sp__is_tuple_of_saying) (c_parts_of : Cal P w K mg base "parts_of" f2 fd2 ["told"] 1 sp_parts_of) (c_is_formula : Cal P w K mg base "is_formula" f3 fd3 ["value"] 3 sp_is_formula) :
    FnOk P w K mg base CX0 4 f fd ["value"] sp_is_saying := by
  refine F.ok sc_is_saying (fun vs H Q E h => ?_) (fun cdv A outer s H vs Q E hr h => ?_)
  · obtain ⟨x, t, rfl, _⟩ := h
    rfl
  · obtain ⟨x, t, rfl, ht, hz, hS, k⟩ := h
    refine ⟨_, (pss_cons (ps_set (i := 1) sc_is_saying.nd rfl (Or.inl rfl) (pe_lst (pa_cons (pv 0) pa_nil))) (pss_cons (ps_while PassesOwn.never (pt_truth (pv 1) (fun _ => rfl)) (pss_cons (ps_set (i := 2) sc_is_saying.nd rfl (Or.inl rfl) (pe_bm0 PySem.F.plainAttrs_list PySem.F.slot_list_pop PySem.F.type_list_pop mt_pop (pv 1))) (pss_cons (ps_if (pt_not (pt_val (pe_call c__is_tuple_of_saying.ok (hr.mono (by decide)) (by rfl) c__is_tuple_of_saying.mgx c__is_tuple_of_saying.kp c__is_tuple_of_saying.bd .nil pass0 (pa_cons (pv 2) pa_nil)))) (pss_one (ps_ret pe_bl)) pss_nil) (pss_one (ps_if (pt_cmpR op_ne (pe_ix (ixT (K := K) rfl) (pv 2) pe_int (fun _ _ => rfl)) pe_str (nomark _)) (pss_one (ps_expr (pe_bm PySem.F.plainAttrs_list PySem.F.slot_list_extend PySem.F.type_list_extend (SX.mt_extT (K := K) rfl) (pv 1) (pa_cons (pe_call c_parts_of.ok (hr.mono (by decide)) (by rfl) c_parts_of.mgx c_parts_of.kp c_parts_of.bd .nil pass0 (pa_cons (pv 2) pa_nil)) pa_nil)))) (pss_one (ps_if (PW.pt (pw_or (pt_not (pt_val (pe_call c_is_formula.ok (hr.mono (by decide)) (by rfl) c_is_formula.mgx c_is_formula.kp c_is_formula.bd .nil pass0 (pa_cons (pe_ix (ixT (K := K) rfl) (pv 2) pe_int (fun _ _ => rfl)) pa_nil)))) (pw_or1 (pt_not (pt_val (pe_call c_is_formula.ok (hr.mono (by decide)) (by rfl) c_is_formula.mgx c_is_formula.kp c_is_formula.bd .nil pass0 (pa_cons (pe_ix (ixT (K := K) rfl) (pv 2) pe_int (fun _ _ => rfl)) pa_nil))))))) (pss_one (ps_ret pe_bl)) pss_nil))))))) (pss_one (ps_ret pe_bl)))), ?_⟩
    refine q_asgL (el_lst (ea_cons (ev_var rfl) ea_nil) (by show 1 ≤ 100000; decide)) fun wa H1 hw e1 h1 => ?_
    refine q_while (fun m σ' H' => ∃ (ws : List Td) (ys : List V) (y0 : Option V), σ' = [some x, some (.ref wa), y0] ∧ Ex H H' ∧ H' wa = some (.lst ys) ∧ Ats H' ys ws ∧ m = sizes ws ∧ sizes ws ≤ 1000 ∧ ∀ u ∈ ws, IsS u) (sizes [t])
      ⟨[t], [x], none, rfl, e1, h1, .one (ht.mono (Tu.ex e1)), rfl, by rw [sizes_cons]; show (pcs t).length + 0 ≤ 1000; omega, fun u hu => by cases List.mem_singleton.mp hu; exact hS⟩ ?_
    rintro m σ' H' ⟨ws, ys, y0, rfl, e0, hwa, hys, rfl, hsz, hall⟩
    refine ⟨_, et_full rfl (ev_var rfl) hwa, fun hb H3 e3 => ?_, fun hb H3 e3 => ?_⟩
    · have hys0 : ys ≠ [] := fun z => by rw [z] at hb; cases hb
      have hws0 : ws ≠ [] := fun z => by subst z; cases hys; exact hys0 rfl
      obtain ⟨ws', u, rfl⟩ : ∃ ws' u, ws = ws' ++ [u] := ⟨ws.dropLast, ws.getLast hws0, (List.dropLast_concat_getLast hws0).symm⟩
      obtain ⟨ys', y, rfl, k1, k2⟩ := hys.last
      have hs1 := sizes_snoc ws' u
      have hs2 := sizes_kids_lt u
      refine ⟨fun σ2 H4 => ∃ m', m' < sizes (ws' ++ [u]) ∧ ∃ (ws : List Td) (ys : List V) (y0 : Option V), σ2 = [some x, some (.ref wa), y0] ∧ Ex H H4 ∧ H4 wa = some (.lst ys) ∧ Ats H4 ys ws ∧ m' = sizes ws ∧ sizes ws ≤ 1000 ∧ ∀ u ∈ ws, IsS u, fun _ _ z => z, ?_⟩
      refine q_pop (e3 wa _ hwa) (ev_var rfl) fun H4 e4 => ?_
      have t4 : Tu H' (upd H4 wa (.lst ys')) := (Tu.ex (e3.trans e4)).trans (Tu.lst (e4 wa _ (e3 wa _ hwa)))
      have x4 : Ex H (upd H4 wa (.lst ys')) := ((e0.trans e3).trans e4).mut hw
      obtain ⟨tu, hkids⟩ := isS_top (hall u (by simp))
      refine q_when (b := false) (et_not (a := true) (et_B (ev_call (ea_cons (ev_var rfl) ea_nil) (spv_is_tos (k2.mono t4) tu)))) (fun z => by cases z) fun _ H5 e5 => ?_
      have w5 : H5 wa = some (.lst ys') := e5 wa _ upd_same
      have t5 : Tu H' H5 := t4.trans (Tu.ex e5)
      have hl1 := sizes_len (kids u)
      have hl2 := sizes_len ws'
      refine s_if (b := !decide (word u = "le")) (et_is (et_test (ev_op (ev_wordA (K := K) (ev_var rfl) (k2.mono t5)) ev_c (rv_ne rfl))) (by rw [dec_str])) (fun hne H6 e6 => ?_) fun heq H6 e6 => ?_
      · have hne' : word u ≠ "le" := fun z => by rw [z] at hne; cases hne
        have hk : ∀ v ∈ kids u, IsS v := (hkids.resolve_left fun z => hne' z.1).2
        have t6' : Tu H' H6 := t5.trans (Tu.ex e6)
        refine s_extK (e6 wa _ w5) (ev_var rfl) (eks_call (ea_cons (ev_var rfl) ea_nil) (spk_parts_of (k2.mono t6') (topS_ok tu))) (by rw [k1.len]; omega) fun H7 zs e7 kz => ?_
        have t7 : Tu H' (upd H7 wa (.lst (ys' ++ zs))) := (t6'.trans (Tu.ex e7)).trans (Tu.lst (e7 wa _ (e6 wa _ w5)))
        refine ⟨sizes (ws' ++ kids u), by rw [sizes_app]; omega, ws' ++ kids u, ys' ++ zs, some y, rfl, (((x4.trans e5).trans e6).trans e7).mut hw, upd_same, (k1.mono t7).app (kz.mono (Tu.lst (e7 wa _ (e6 wa _ w5)))), rfl, by rw [sizes_app]; omega, fun v hv => ?_⟩
        rcases List.mem_append.mp hv with z | z
        · exact hall v (List.mem_append.mpr (.inl z))
        · exact hk v z
      · have hle : word u = "le" := by
          refine Classical.byContradiction fun z => ?_
          rw [decide_eq_false z] at heq
          cases heq
        have hk : ∀ v ∈ kids u, IsF v := (hkids.resolve_right fun z => z.1 hle).2
        cases u with
        | lf _ _ => exact tu.elim
        | ov _ _ _ => exact tu.elim
        | nt _ => exact absurd hle (by show ("not" : Str) ≠ "le"; decide)
        | bi w1 t1 t2 =>
          obtain ⟨a, y1, y2, rfl, ha, g1, g2⟩ := k2.mono (t5.trans (Tu.ex e6))
          have p1 : (pcs t1).length ≤ 1000 := by
            have : (pcs (Td.bi w1 t1 t2)).length = 1 + ((pcs t1).length + (pcs t2).length) := by show (_ :: (pcs t1 ++ pcs t2)).length = _; rw [List.length_cons, List.length_append]; omega
            omega
          have p2 : (pcs t2).length ≤ 1000 := by
            have : (pcs (Td.bi w1 t1 t2)).length = 1 + ((pcs t1).length + (pcs t2).length) := by show (_ :: (pcs t1 ++ pcs t2)).length = _; rw [List.length_cons, List.length_append]; omega
            omega
          refine s_when (b := false) (et_or (a := false) (b := false) (et_not (a := true) (et_B (ev_call (ea_cons (ev_at1 (K := K) (ev_var rfl) ha) ea_nil) (spv_is_formula g1 p1 (hk t1 (by simp [kids])))))) fun _ => et_not (a := true) (et_B (ev_call (ea_cons (ev_at2 (K := K) (ev_var rfl) ha) ea_nil) (spv_is_formula g2 p2 (hk t2 (by simp [kids])))))) (fun z => by cases z) fun _ H7 e7 => ?_
          refine ⟨sizes ws', by omega, ws', ys', some (.ref a), rfl, ((x4.trans e5).trans e6).trans e7, e7 wa _ (e6 wa _ w5), k1.mono (t5.trans (Tu.ex (e6.trans e7))), rfl, by omega, fun v hv => hall v (List.mem_append.mpr (.inl hv))⟩
    · have hys0 : ys = [] := by cases ys with | nil => rfl | cons _ _ => cases hb
      subst hys0
      exact s_ret ev_c fun H4 e4 => k H4 ((e0.trans e3).trans e4)
theorem ok_need_saying {f f1 : Addr} {fd fd1 : FuncData} (F : Fun K "need_saying" "need_saying" s_need_saying f fd) (T : Txt P w K mg C SZ SY) (c_is_saying : Cal P w K mg base "is_saying" f1 fd1 ["value"] 4 sp_is_saying) : FnOk P w K mg base CX0 5 f fd ["value"] sp_need_saying := by
  refine F.ok sc_need_saying (fun vs H Q E h => ?_) (fun cdv A outer s H vs Q E hr h => ?_)
  · obtain ⟨x, t, rfl, _⟩ := h
    rfl
  · obtain ⟨x, t, rfl, ht, hz, hF, k⟩ := h
    refine ⟨_, (pss_one (ps_if (pt_not (pt_val (pe_call c_is_saying.ok (hr.mono (by decide)) (by rfl) c_is_saying.mgx c_is_saying.kp c_is_saying.bd .nil pass0 (pa_cons (pv 0) pa_nil)))) (pss_one ps_never) pss_nil)), ?_⟩
    exact s_when (b := false) (et_not (a := true) (et_B (ev_call (ea_cons (ev_var rfl) ea_nil) (spv_is_saying ht hz hF)))) (fun h => by cases h) fun _ H1 e => k H1 e
end
end K25
end
section
set_option maxHeartbeats 4000000
namespace K25
open PySem L2 Evl G TM TD
/-! ### dicts of days, worlds -/
noncomputable def kS (x : Str) : Key := Sum.inr x
/-- the thing of a key in a list of pairs -/
noncomputable def look {α : Type} (ds : List (Str × α)) (x : Str) : Option α := (ds.find? fun p => decide (p.1 = x)).map (·.2)
noncomputable def keyed {α : Type} (g : α → V) (ds : List (Str × α)) : List (Key × V) := ds.map fun p => (kS p.1, g p.2)
theorem valV_keyed {α : Type} (g : α → V) (x : Str) : ∀ ds : List (Str × α), valV (keyed g ds) (kS x) = (look ds x).map g
  | [] => rfl
  | p :: ds => by
    unfold keyed look
    rw [List.map_cons, List.find?_cons]
    by_cases h : p.1 = x
    · rw [valV_pos (by rw [h])]
      simp [h]
    · rw [valV_neg (fun z => h (Sum.inr.inj z)), decide_eq_false h]
      exact valV_keyed g x ds
theorem look_some {α : Type} {ds : List (Str × α)} {x : Str} (h : x ∈ ds.map (·.1)) : ∃ v, look ds x = some v ∧ (x, v) ∈ ds := by
  obtain ⟨p, hp, e⟩ := List.mem_map.mp h
  unfold look
  cases hf : ds.find? (fun p => decide (p.1 = x)) with
  | none => exact absurd (List.find?_eq_none.mp hf p hp) (by simp [e])
  | some q =>
    have h1 := List.find?_some hf
    have h2 := List.mem_of_find?_eq_some hf
    have h3 : q.1 = x := of_decide_eq_true h1
    exact ⟨q.2, rfl, by rw [← h3]; exact h2⟩
/-- a dict of days -/
noncomputable abbrev Ds := List (Str × Int)
noncomputable def DaysAt (H : Hp) (d : Addr) (ds : Ds) : Prop := H d = some (.dK (keyed V.int ds)) ∧ (∀ p ∈ ds, p.1 ∈ nameL) ∧ ds.length ≤ 1000
theorem DaysAt.mono {H H' : Hp} {d : Addr} {ds : Ds} (e : Ex H H') (h : DaysAt H d ds) : DaysAt H' d ds := ⟨e d _ h.1, h.2⟩
noncomputable def dnOf (ds : Ds) (x : Str) : Int := (look ds x).getD 0
noncomputable def Tab (K : PySem.W.Frag) (C : Addr) (H : Hp) (p : Addr) (ns : List Int) : Prop := ∃ dx l, H p = some (.ins C dx [("_days", .ref l)]) ∧ SqL K H l (ns.map V.int)
theorem Tab.mono {K : PySem.W.Frag} {C p : Addr} {H H' : Hp} {ns : List Int} (e : Ex H H') (h : Tab K C H p ns) : Tab K C H' p ns := let ⟨dx, l, h1, h2⟩ := h; ⟨dx, l, e p _ h1, ex_l e h2⟩
/-- a world: its rules, each one's Table and list -/
noncomputable abbrev Ws := List (Str × (Addr × List Int))
noncomputable def wV (q : Addr × List Int) : V := .ref q.1
noncomputable def WorldAt (K : PySem.W.Frag) (C : Addr) (H : Hp) (d : Addr) (ws : Ws) : Prop := H d = some (.dK (keyed wV ws)) ∧ (∀ p ∈ ws, p.1 ∈ ruleL ∧ Good p.2.2 ∧ Tab K C H p.2.1 p.2.2) ∧ ws.length ≤ 1000
theorem WorldAt.mono {K : PySem.W.Frag} {C : Addr} {H H' : Hp} {d : Addr} {ws : Ws} (e : Ex H H') (h : WorldAt K C H d ws) : WorldAt K C H' d ws := ⟨e d _ h.1, fun p hp => let ⟨a, b, c⟩ := h.2.1 p hp; ⟨a, b, c.mono e⟩, h.2.2⟩
noncomputable def wdOf (ws : Ws) (x : Str) : List Int := ((look ws x).map (·.2)).getD [0]
noncomputable def sp_need_few_pieces : Sp := fun vs H Q _ => ∃ a xs ts, vs = [.ref a] ∧ H a = some (.lst xs) ∧ Ats H xs ts ∧ (∀ t ∈ ts, OkD t ∧ (pcs t).length ≤ 1000) ∧ ts.length ≤ 1000 ∧ (ts.map fun t => ((pcs t).length : Int)).sum ≤ 60 ∧ RetV .non H Q
noncomputable def sp_need_rules : Sp := fun vs H Q _ => ∃ x t d kvs, vs = [x, .ref d] ∧ At H x t ∧ OkD t ∧ NiceD t ∧ (pcs t).length ≤ 63 ∧ H d = some (.dK kvs) ∧ (∀ r ∈ rlsOf t, (valV kvs (kS r)).isSome = true) ∧ RetV .non H Q
noncomputable def sp_need_names : Sp := fun vs H Q _ => ∃ x t d kvs, vs = [x, .ref d] ∧ At H x t ∧ OkD t ∧ NiceD t ∧ (pcs t).length ≤ 63 ∧ H d = some (.dK kvs) ∧ (∀ r ∈ nmsOf t, (valV kvs (kS r)).isSome = true) ∧ RetV .non H Q
noncomputable def sp_need_known : Sp := fun vs H Q _ => ∃ x t d kvs d' kvs', vs = [x, .ref d, .ref d'] ∧ At H x t ∧ OkD t ∧ NiceD t ∧ (pcs t).length ≤ 60 ∧ H d = some (.dK kvs) ∧ (∀ r ∈ nmsOf t, (valV kvs (kS r)).isSome = true) ∧ H d' = some (.dK kvs') ∧ (∀ r ∈ rlsOf t, (valV kvs' (kS r)).isSome = true) ∧ RetV .non H Q
noncomputable def sp_is_days : Sp := fun vs H Q _ => ∃ d ds, vs = [.ref d] ∧ DaysAt H d ds ∧ RetV (.bl true) H Q
noncomputable def sp_need_days : Sp := fun vs H Q _ => ∃ d ds, vs = [.ref d] ∧ DaysAt H d ds ∧ RetV .non H Q
noncomputable def sp_is_world (K : PySem.W.Frag) (C : Addr) : Sp := fun vs H Q _ => ∃ d ws, vs = [.ref d] ∧ WorldAt K C H d ws ∧ RetV (.bl true) H Q
noncomputable def sp_need_world (K : PySem.W.Frag) (C : Addr) : Sp := fun vs H Q _ => ∃ d ws, vs = [.ref d] ∧ WorldAt K C H d ws ∧ RetV .non H Q
theorem spv_is_days {d : Addr} {ds : Ds} {H : Hp} (h : DaysAt H d ds) : SpV sp_is_days ([.ref d] ++ []) H (.bl true) := fun H1 e Q q E => ⟨d, ds, rfl, h.mono e, q⟩
theorem spv_need_days {d : Addr} {ds : Ds} {H : Hp} (h : DaysAt H d ds) : SpV sp_need_days ([.ref d] ++ []) H .non := fun H1 e Q q E => ⟨d, ds, rfl, h.mono e, q⟩
theorem spv_is_world {K : PySem.W.Frag} {C : Addr} {d : Addr} {ws : Ws} {H : Hp} (h : WorldAt K C H d ws) : SpV (sp_is_world K C) ([.ref d] ++ []) H (.bl true) := fun H1 e Q q E => ⟨d, ws, rfl, h.mono e, q⟩
theorem spv_need_world {K : PySem.W.Frag} {C : Addr} {d : Addr} {ws : Ws} {H : Hp} (h : WorldAt K C H d ws) : SpV (sp_need_world K C) ([.ref d] ++ []) H .non := fun H1 e Q q E => ⟨d, ws, rfl, h.mono e, q⟩
theorem spv_need_rules {x : V} {t : Td} {d : Addr} {kvs : List (Key × V)} {H : Hp} (h : At H x t) (o : OkD t) (n : NiceD t) (z : (pcs t).length ≤ 63) (hd : H d = some (.dK kvs)) (hr : ∀ r ∈ rlsOf t, (valV kvs (kS r)).isSome = true) : SpV sp_need_rules ([x, .ref d] ++ []) H .non := fun H1 e Q q E => ⟨x, t, d, kvs, rfl, h.mono (Tu.ex e), o, n, z, e d _ hd, hr, q⟩
theorem spv_need_names {x : V} {t : Td} {d : Addr} {kvs : List (Key × V)} {H : Hp} (h : At H x t) (o : OkD t) (n : NiceD t) (z : (pcs t).length ≤ 63) (hd : H d = some (.dK kvs)) (hr : ∀ r ∈ nmsOf t, (valV kvs (kS r)).isSome = true) : SpV sp_need_names ([x, .ref d] ++ []) H .non := fun H1 e Q q E => ⟨x, t, d, kvs, rfl, h.mono (Tu.ex e), o, n, z, e d _ hd, hr, q⟩
theorem spv_need_known {x : V} {t : Td} {d d' : Addr} {kvs kvs' : List (Key × V)} {H : Hp} (h : At H x t) (o : OkD t) (n : NiceD t) (z : (pcs t).length ≤ 60) (hd : H d = some (.dK kvs)) (hr : ∀ r ∈ nmsOf t, (valV kvs (kS r)).isSome = true) (hd' : H d' = some (.dK kvs')) (hr' : ∀ r ∈ rlsOf t, (valV kvs' (kS r)).isSome = true) :
    SpV sp_need_known ([x, .ref d, .ref d'] ++ []) H .non := fun H1 e Q q E => ⟨x, t, d, kvs, d', kvs', rfl, h.mono (Tu.ex e), o, n, z, e d _ hd, hr, e d' _ hd', hr', q⟩
theorem all_replicate {α : Type} (l : List α) : (l.map fun _ => V.bl true) = (List.replicate l.length true).map V.bl := by
  rw [List.map_replicate]
  induction l with
  | nil => rfl
  | cons _ l ih => rw [List.map_cons, List.length_cons, List.replicate_succ, ih]
section
variable {P : Program} {w : World} {K : PySem.W.Frag} {mg : Str → Option Value} {base : Heap} {C SZ SY : Addr}
theorem ev_allYes {σ : L2.St} {H : Hp} {te : TE} {α : Type} {l : List α} (h : EvL te σ H (l.map fun _ => V.bl true)) : Ev (tCB (rAll K) (tCons te tNil)) σ H (.bl true) := ev_cbL h fun p H1 e h1 => by
  have := rc_all (K := K) (H := H1) (p := p) (bs := List.replicate l.length true) (sq_of (by rw [← all_replicate]; exact h1))
  have e2 : (List.replicate l.length true).all id = true := by simp
  rw [e2] at this
  exact this
theorem ok_is_days {f f1 f2 : Addr} {fd fd1 fd2 : FuncData} (F : Fun K "is_days" "is_days" s_is_days f fd) (T : Txt P w K mg C SZ SY) (c_is_name : Cal P w K mg base "is_name" f1 fd1 ["value"] 1 (sp_letter nameL)) (c_is_day : Cal P w K mg base "is_day" f2 fd2 ["value"] 1 sp_is_day) : FnOk P w K mg base CX0 2 f fd ["value"] sp_is_days := by
  refine F.ok sc_is_days (fun vs H Q E h => ?_) (fun cdv A outer s H vs Q E hr h => ?_)
  · obtain ⟨d, ds, rfl, _⟩ := h
    rfl
  · obtain ⟨d, ds, rfl, ⟨hd, hn, hz⟩, k⟩ := h
    refine ⟨_, (pss_one (ps_ret (pe_and (pe_callB (isiS (K := K) rfl) (by rfl) T.b_isinstance (by decide +kernel) (pa_cons (pv 0) (pa_cons (pe_bltn (v := .ty "dict") (u := .type "dict") (by rfl) T.b_dict (by decide +kernel) rfl) pa_nil))) (pe_one (pe_callB (allL (K := K) rfl rfl) (by rfl) T.b_all (by decide +kernel) (pa_cons (pe_lock (pe_lc (own := [("name", 1), ("day", 2)]) (g := (gTup K 2 (gCons (gName 1) (gCons (gName 2) gNil)))) (by rfl) sc_is_days.nd (pi_items (pv 0)) (blkOk_by (own := [("name", 1), ("day", 2)]) (N := ["value", "name", "day"]) (sc := defScope s_is_days) (by decide +kernel)) (fun _ _ _ _ _ => (pg_tup (by rfl) (pgs_cons (pg_name (i := 1) sc_is_days.nd rfl (Or.inl rfl)) (pgs_cons (pg_name (i := 2) sc_is_days.nd rfl (Or.inl rfl)) pgs_nil)))) (fun _ _ _ _ _ => pts_nil) (fun _ _ _ _ _ => (pe_and (pe_call c_is_name.ok (hr.mono (by decide)) (by rfl) c_is_name.mgx c_is_name.kp c_is_name.bd .nil pass0 (pa_cons (pv 1) pa_nil)) (pe_one (pe_call c_is_day.ok (hr.mono (by decide)) (by rfl) c_is_day.mgx c_is_day.kp c_is_day.bd .nil pass0 (pa_cons (pv 2) pa_nil))))))) pa_nil)))))), ?_⟩
    refine s_ret (ev_andV (a := true) (b := true) (ev_isiB (b := true) (ev_var rfl) (fun H1 e => .base (.dK (e d _ hd))) (by decide +kernel)) fun _ => ev_allYes (K := K) (el_lcItems (K := K) (i := 1) (j := 2) (vs := [1, 2]) (fun _ => V.bl true) (fun H1 => ev_var rfl) hd (by unfold keyed; rw [List.length_map]; omega) (fun _ _ => rfl) fun k v H1 off hkv => ?_)) fun H1 e => k H1 e
    obtain ⟨p, hp, e⟩ := List.mem_map.mp hkv
    cases e
    exact ev_andV (a := true) (b := true) (ev_call (ea_cons (ev_var (i := 1) rfl) ea_nil) (spv_letter (hn p hp))) fun _ => ev_call (ea_cons (ev_var (i := 2) rfl) ea_nil) spv_is_day
theorem ok_need_days {f f1 : Addr} {fd fd1 : FuncData} (F : Fun K "need_days" "need_days" s_need_days f fd) (T : Txt P w K mg C SZ SY) (c_is_days : Cal P w K mg base "is_days" f1 fd1 ["value"] 2 sp_is_days) : FnOk P w K mg base CX0 3 f fd ["value"] sp_need_days := by
  refine F.ok sc_need_days (fun vs H Q E h => ?_) (fun cdv A outer s H vs Q E hr h => ?_)
  · obtain ⟨d, ds, rfl, _⟩ := h
    rfl
  · obtain ⟨d, ds, rfl, hd, k⟩ := h
    refine ⟨_, (pss_one (ps_if (pt_not (pt_val (pe_call c_is_days.ok (hr.mono (by decide)) (by rfl) c_is_days.mgx c_is_days.kp c_is_days.bd .nil pass0 (pa_cons (pv 0) pa_nil)))) (pss_one ps_never) pss_nil)), ?_⟩
    exact s_when (b := false) (et_not (a := true) (et_B (ev_call (ea_cons (ev_var rfl) ea_nil) (spv_is_days hd)))) (fun h => by cases h) fun _ H1 e => k H1 e
theorem ok_is_world {f f1 : Addr} {fd fd1 : FuncData} (F : Fun K "is_world" "is_world" s_is_world f fd) (T : Txt P w K mg C SZ SY) (c_is_rule : Cal P w K mg base "is_rule" f1 fd1 ["value"] 1 (sp_letter ruleL)) : FnOk P w K mg base CX0 2 f fd ["value"] (sp_is_world K C) := by
  refine F.ok sc_is_world (fun vs H Q E h => ?_) (fun cdv A outer s H vs Q E hr h => ?_)
  · obtain ⟨d, ds, rfl, _⟩ := h
    rfl
  · obtain ⟨d, ws, rfl, ⟨hd, hn, hz⟩, k⟩ := h
    refine ⟨_, (pss_one (ps_ret (pe_and (pe_callB (isiS (K := K) rfl) (by rfl) T.b_isinstance (by decide +kernel) (pa_cons (pv 0) (pa_cons (pe_bltn (v := .ty "dict") (u := .type "dict") (by rfl) T.b_dict (by decide +kernel) rfl) pa_nil))) (pe_one (pe_callB (allL (K := K) rfl rfl) (by rfl) T.b_all (by decide +kernel) (pa_cons (pe_lock (pe_lc (own := [("rule", 1), ("table", 2)]) (g := (gTup K 2 (gCons (gName 1) (gCons (gName 2) gNil)))) (by rfl) sc_is_world.nd (pi_items (pv 0)) (blkOk_by (own := [("rule", 1), ("table", 2)]) (N := ["value", "rule", "table"]) (sc := defScope s_is_world) (by decide +kernel)) (fun _ _ _ _ _ => (pg_tup (by rfl) (pgs_cons (pg_name (i := 1) sc_is_world.nd rfl (Or.inl rfl)) (pgs_cons (pg_name (i := 2) sc_is_world.nd rfl (Or.inl rfl)) pgs_nil)))) (fun _ _ _ _ _ => pts_nil) (fun _ _ _ _ _ => (pe_and (pe_call c_is_rule.ok (hr.mono (by decide)) (by rfl) c_is_rule.mgx c_is_rule.kp c_is_rule.bd .nil pass0 (pa_cons (pv 1) pa_nil)) (pe_one (pe_callB (isiS (K := K) rfl) (by rfl) T.b_isinstance (by decide +kernel) (pa_cons (pv 2) (pa_cons (pe_glob (v := .ref C) rfl T.mg_Table rfl) pa_nil)))))))) pa_nil)))))), ?_⟩
    refine s_ret (ev_andV (a := true) (b := true) (ev_isiB (b := true) (ev_var rfl) (fun H1 e => .base (.dK (e d _ hd))) (by decide +kernel)) fun _ => ev_allYes (K := K) (el_lcItems (K := K) (i := 1) (j := 2) (vs := [1, 2]) (fun _ => V.bl true) (fun H1 => ev_var rfl) hd (by unfold keyed; rw [List.length_map]; omega) (fun _ _ => rfl) fun k v H1 off hkv => ?_)) fun H1 e => k H1 e
    obtain ⟨p, hp, e⟩ := List.mem_map.mp hkv
    cases e
    obtain ⟨hr1, hg, dx, l, hp1, _⟩ := hn p hp
    refine ev_andV (a := true) (b := true) (ev_call (ea_cons (ev_var (i := 1) rfl) ea_nil) (spv_letter hr1)) fun _ => ?_
    have hpd : p.2.1 ≠ d := fun z => by rw [z, hd] at hp1; cases hp1
    exact ev_cb (ea_cons (ev_var (i := 2) rfl) (ea_cons ev_c ea_nil)) (rc_isi (.own C) (fun H2 e2 => .base (T.tyC H2 p.2.1 dx _ (e2 _ _ (off _ _ hpd hp1)))) (by unfold PySem.W.kitOne; rw [if_pos (by simp)]))
theorem ok_need_world {f f1 : Addr} {fd fd1 : FuncData} (F : Fun K "need_world" "need_world" s_need_world f fd) (T : Txt P w K mg C SZ SY) (c_is_world : Cal P w K mg base "is_world" f1 fd1 ["value"] 2 (sp_is_world K C)) : FnOk P w K mg base CX0 3 f fd ["value"] (sp_need_world K C) := by
  refine F.ok sc_need_world (fun vs H Q E h => ?_) (fun cdv A outer s H vs Q E hr h => ?_)
  · obtain ⟨d, ds, rfl, _⟩ := h
    rfl
  · obtain ⟨d, ds, rfl, hd, k⟩ := h
    refine ⟨_, (pss_one (ps_if (pt_not (pt_val (pe_call c_is_world.ok (hr.mono (by decide)) (by rfl) c_is_world.mgx c_is_world.kp c_is_world.bd .nil pass0 (pa_cons (pv 0) pa_nil)))) (pss_one ps_never) pss_nil)), ?_⟩
    exact s_when (b := false) (et_not (a := true) (et_B (ev_call (ea_cons (ev_var rfl) ea_nil) (spv_is_world hd)))) (fun h => by cases h) fun _ H1 e => k H1 e
end
end K25
end
section
set_option maxHeartbeats 4000000
namespace K25
open PySem L2 Evl G TM TD
theorem spv_few {a : Addr} {xs : List V} {ts : List Td} {H : Hp} (ha : H a = some (.lst xs)) (k : Ats H xs ts) (o : ∀ t ∈ ts, OkD t ∧ (pcs t).length ≤ 1000) (z : ts.length ≤ 1000) (hs : (ts.map fun t => ((pcs t).length : Int)).sum ≤ 60) :
    SpV sp_need_few_pieces ([.ref a] ++ []) H .non := fun H1 e Q q E => ⟨a, xs, ts, rfl, e a _ ha, k.mono (Tu.ex e), o, z, hs, q⟩
theorem isSome_nrm {kvs : List (Key × V)} {ks : List Str} (h : ∀ r ∈ ks, (valV kvs (kS r)).isSome = true) {x : V} {i : Nat} (hx : ((nrm ks).map V.str)[i]? = some x) : ∃ r, x = .str r ∧ (valV kvs (kS r)).isSome = true := by
  rw [List.getElem?_map] at hx
  obtain ⟨r, hr, rfl⟩ := Option.map_eq_some_iff.mp hx
  refine ⟨r, rfl, h r ?_⟩
  have hm := List.mem_of_getElem? hr
  by_cases hN : ∃ ys, IsNrm ks ys
  · obtain ⟨ys, hy⟩ := hN
    rw [nrm_eq hy] at hm
    exact (hy.2.2 r).mp hm
  · unfold nrm at hm
    rw [dif_neg hN] at hm
    cases hm
theorem ev_callLs {sp : Sp} {dvs : List V} {E : XK} {te : TE} {σ : L2.St} {H : Hp} {ts : List Td} {z : V} (h : EvLs te σ H ts) (hs : ∀ p ys H1, Ex H H1 → H1 p = some (.lst ys) → Ats H1 ys ts → SpV sp ([.ref p] ++ dvs) H1 z) : Ev (tCall sp dvs E (tCons te tNil)) σ H z := fun H1 e Q q =>
  h H1 e _ fun p ys H2 hp e2 h2 k => hs p ys H2 (e.trans e2) h2 k H2 (Ex.refl _) Q (fun H3 e3 => q H3 (e2.trans e3)) _
section
variable {P : Program} {w : World} {K : PySem.W.Frag} {mg : Str → Option Value} {base : Heap} {C SZ SY : Addr}
theorem ok_need_few_pieces {f f1 : Addr} {fd fd1 : FuncData} (F : Fun K "need_few_pieces" "need_few_pieces" s_need_few_pieces f fd) (T : Txt P w K mg C SZ SY) (c_all_pieces : Cal P w K mg base "all_pieces" f1 fd1 ["told"] 2 sp_all_pieces) : FnOk P w K mg base CX0 3 f fd ["tolds"] sp_need_few_pieces := by
  refine F.ok sc_need_few_pieces (fun vs H Q E h => ?_) (fun cdv A outer s H vs Q E hr h => ?_)
  · obtain ⟨a, xs, ts, rfl, _⟩ := h
    rfl
  · obtain ⟨a, xs, ts, rfl, ha, hk, ho, hz, hs, k⟩ := h
    refine ⟨_, (pss_one (ps_if (pt_cmpR op_gt (pe_callB (sumL (K := K) rfl rfl) (by rfl) T.b_sum (by decide +kernel) (pa_cons (pe_lc (own := [("told", 1)]) (g := (gName 1)) (by rfl) sc_need_few_pieces.nd (piL (K := K) rfl (pv 0)) (blkOk_by (own := [("told", 1)]) (N := ["tolds", "told"]) (sc := defScope s_need_few_pieces) (by decide +kernel)) (fun _ _ _ _ _ => (pg_name (i := 1) sc_need_few_pieces.nd rfl (Or.inl rfl))) (fun _ _ _ _ _ => pts_nil) (fun _ _ _ _ _ => (pe_callB (lenS (K := K) rfl) (by rfl) T.b_len (by decide +kernel) (pa_cons (pe_call c_all_pieces.ok (hr.mono (by decide)) (by rfl) c_all_pieces.mgx c_all_pieces.kp c_all_pieces.bd .nil pass0 (pa_cons (pv 1) pa_nil)) pa_nil)))) pa_nil)) (pe_glob (v := .int 60) rfl T.mg_MOST_PIECES.choose_spec ⟨_, rfl⟩) (nomark _)) (pss_one ps_never) pss_nil)), ?_⟩
    have eqn : (ts.filter fun _ => true).map (fun t => V.int ((pcs t).length : Int)) = (ts.map fun t => ((pcs t).length : Int)).map V.int := by
      rw [filter_yes, List.map_map] <;> rfl
    refine s_when (b := decide (((ts.map fun t => ((pcs t).length : Int)).sum : Int) > 60)) (et_test (ev_op (ev_cbL (el_eq (el_lcLv (K := K) (j := 1) (vs := [1]) (fun _ => true) (fun t => V.int ((pcs t).length : Int)) (ev_var rfl) ha hk (by omega) (fun _ => rfl) (fun _ _ _ _ _ _ => lc_yes) (fun y u H1 e1 hy hu _ => ev_lenLs (els_call (ea_cons (ev_var (i := 1) rfl) ea_nil) (spl_all_pieces hy (ho u hu).1 (ho u hu).2)))) eqn) fun p H1 e h1 => rc_sum (sq_of h1)) ev_c rv_I0)) (fun z => ?_) fun _ H1 e => k H1 e
    exact absurd (of_decide_eq_true z) (by omega)
theorem ok_need_rules {f f1 : Addr} {fd fd1 : FuncData} (F : Fun K "need_rules" "need_rules" s_need_rules f fd) (T : Txt P w K mg C SZ SY) (c_rules_in : Cal P w K mg base "rules_in" f1 fd1 ["told"] 3 sp_rules_in) : FnOk P w K mg base CX0 4 f fd ["told", "world"] sp_need_rules := by
  refine F.ok sc_need_rules (fun vs H Q E h => ?_) (fun cdv A outer s H vs Q E hr h => ?_)
  · obtain ⟨x, t, d, kvs, rfl, _⟩ := h
    rfl
  · obtain ⟨x, t, d, kvs, rfl, ht, ok, nc, hz, hd, hin, k⟩ := h
    refine ⟨_, (pss_one (ps_for PassesOwn.never rfl (piL (K := K) rfl (pe_call c_rules_in.ok (hr.mono (by decide)) (by rfl) c_rules_in.mgx c_rules_in.kp c_rules_in.bd .nil pass0 (pa_cons (pv 0) pa_nil))) (pg_name (i := 2) sc_need_rules.nd rfl (Or.inl rfl)) (pss_one (ps_if (pt_cmp (pc_dniR hr.units (pv 2) (pv 1))) (pss_one ps_never) pss_nil)))), ?_⟩
    refine s_forNL (el_call (ea_cons (ev_var rfl) ea_nil) (spl_rules_in ht ok nc hz)) (fun p i σ' H' => ∃ y0, σ' = [some x, some (.ref d), y0] ∧ Ex H H' ∧ H' p = some (.lst ((nrm (rlsOf t)).map V.str))) (fun p H1 hp e h1 => ⟨none, rfl, e, h1⟩) (fun p i σ' H' _ h => by obtain ⟨_, _, _, h1⟩ := h; exact sq_of h1) (fun p i y σ' H' hi h => ?_) (fun p σ' H' h => ?_)
    · obtain ⟨y0, rfl, e, h1⟩ := h
      obtain ⟨r, rfl, hr1⟩ := isSome_nrm hin hi
      refine s_when (b := false) (et_is (et_B (ev_dni (k := kS r) (ev_var (i := 2) rfl) (ev_var rfl) (e d _ hd))) (by rw [hr1] <;> rfl)) (fun z => by cases z) fun _ H2 e2 => ⟨some (.str r), rfl, e.trans e2, e2 p _ h1⟩
    · obtain ⟨_, _, e, _⟩ := h
      exact k H' e
theorem ok_need_names {f f1 : Addr} {fd fd1 : FuncData} (F : Fun K "need_names" "need_names" s_need_names f fd) (T : Txt P w K mg C SZ SY) (c_names_in : Cal P w K mg base "names_in" f1 fd1 ["told"] 3 sp_names_in) : FnOk P w K mg base CX0 4 f fd ["told", "days"] sp_need_names := by
  refine F.ok sc_need_names (fun vs H Q E h => ?_) (fun cdv A outer s H vs Q E hr h => ?_)
  · obtain ⟨x, t, d, kvs, rfl, _⟩ := h
    rfl
  · obtain ⟨x, t, d, kvs, rfl, ht, ok, nc, hz, hd, hin, k⟩ := h
    refine ⟨_, (pss_one (ps_for PassesOwn.never rfl (piL (K := K) rfl (pe_call c_names_in.ok (hr.mono (by decide)) (by rfl) c_names_in.mgx c_names_in.kp c_names_in.bd .nil pass0 (pa_cons (pv 0) pa_nil))) (pg_name (i := 2) sc_need_names.nd rfl (Or.inl rfl)) (pss_one (ps_if (pt_cmp (pc_dniR hr.units (pv 2) (pv 1))) (pss_one ps_never) pss_nil)))), ?_⟩
    refine s_forNL (el_call (ea_cons (ev_var rfl) ea_nil) (spl_names_in ht ok nc hz)) (fun p i σ' H' => ∃ y0, σ' = [some x, some (.ref d), y0] ∧ Ex H H' ∧ H' p = some (.lst ((nrm (nmsOf t)).map V.str))) (fun p H1 hp e h1 => ⟨none, rfl, e, h1⟩) (fun p i σ' H' _ h => by obtain ⟨_, _, _, h1⟩ := h; exact sq_of h1) (fun p i y σ' H' hi h => ?_) (fun p σ' H' h => ?_)
    · obtain ⟨y0, rfl, e, h1⟩ := h
      obtain ⟨r, rfl, hr1⟩ := isSome_nrm hin hi
      refine s_when (b := false) (et_is (et_B (ev_dni (k := kS r) (ev_var (i := 2) rfl) (ev_var rfl) (e d _ hd))) (by rw [hr1] <;> rfl)) (fun z => by cases z) fun _ H2 e2 => ⟨some (.str r), rfl, e.trans e2, e2 p _ h1⟩
    · obtain ⟨_, _, e, _⟩ := h
      exact k H' e
theorem ok_need_known {f f1 f2 f3 : Addr} {fd fd1 fd2 fd3 : FuncData} (F : Fun K "need_known" "need_known" s_need_known f fd) (T : Txt P w K mg C SZ SY) (c_need_rules : Cal P w K mg base "need_rules" f1 fd1 ["told", "world"] 4 sp_need_rules) (c_need_names : Cal P w K mg base "need_names" f2 fd2 ["told", "days"] 4 sp_need_names) (c_need_few_pieces : Cal P w K mg base "need_few_pieces" f3 fd3 ["tolds"] 3 sp_need_few_pieces) : FnOk P w K mg base CX0 5 f fd ["told", "days", "world"] sp_need_known := by
  refine F.ok sc_need_known (fun vs H Q E h => ?_) (fun cdv A outer s H vs Q E hr h => ?_)
  · obtain ⟨x, t, d, kvs, d', kvs', rfl, _⟩ := h
    rfl
  · obtain ⟨x, t, d, kvs, d', kvs', rfl, ht, ok, nc, hz, hd, hn, hd', hr', k⟩ := h
    refine ⟨_, (pss_cons (ps_expr (pe_call c_need_rules.ok (hr.mono (by decide)) (by rfl) c_need_rules.mgx c_need_rules.kp c_need_rules.bd .nil pass0 (pa_cons (pv 0) (pa_cons (pv 2) pa_nil)))) (pss_cons (ps_expr (pe_call c_need_names.ok (hr.mono (by decide)) (by rfl) c_need_names.mgx c_need_names.kp c_need_names.bd .nil pass0 (pa_cons (pv 0) (pa_cons (pv 1) pa_nil)))) (pss_one (ps_expr (pe_call c_need_few_pieces.ok (hr.mono (by decide)) (by rfl) c_need_few_pieces.mgx c_need_few_pieces.kp c_need_few_pieces.bd .nil pass0 (pa_cons (pe_lst (pa_cons (pv 0) pa_nil)) pa_nil)))))), ?_⟩
    refine q_drop (ev_call (ea_cons (ev_var rfl) (ea_cons (ev_var rfl) ea_nil)) (spv_need_rules ht ok nc (by omega) hd' hr')) fun H1 e1 => ?_
    refine q_drop (ev_call (ea_cons (ev_var rfl) (ea_cons (ev_var rfl) ea_nil)) (spv_need_names (ht.mono (Tu.ex e1)) ok nc (by omega) (e1 d _ hd) hn)) fun H2 e2 => ?_
    have h2 : At H2 x t := ht.mono (Tu.ex (e1.trans e2))
    exact s_drop (ev_callLs (els_one (etd_ref (ev_var rfl) h2)) fun p ys H4 e4 h4 k4 => spv_few h4 k4 (fun u hu => by cases List.mem_singleton.mp hu; exact ⟨ok, by omega⟩) (by show 1 ≤ 1000; decide) (by show ((pcs t).length : Int) + 0 ≤ 60; omega)) fun H3 e3 => k H3 ((e1.trans e2).trans e3)
end
end K25
end
section
set_option maxHeartbeats 4000000
namespace K25
open PySem L2 Evl G TM TD
structure CalG (P : Program) (w : World) (K : PySem.W.Frag) (mg : Str → Option Value) (base : Heap) (x : Str) (f : Addr) (fd : FuncData) (ps : List Str) (k : Nat) (sp : Sp) : Prop where
  ok : FnG P w K mg base CX0 k f fd ps sp
  mgx : mg x = some (.ref f)
  kp : PySem.W.keepIn K (.ref f) = true
  bd : Binds K fd ps []
structure Met (P : Program) (w : World) (K : PySem.W.Frag) (mg : Str → Option Value) (base : Heap) (C : Addr) (m : Str) (f : Addr) (fd : FuncData) (ps : List Str) (k : Nat) (sp : Sp) : Prop where
  ok : FnOk P w K mg base CX0 k f fd ps sp
  me : Meth K C m f
  bd : Binds K fd ps []
structure Prp (P : Program) (w : World) (K : PySem.W.Frag) (mg : Str → Option Value) (base : Heap) (C : Addr) (m : Str) (p f : Addr) (fd : FuncData) (ps : List Str) (k : Nat) (sp : Sp) : Prop where
  ok : FnOk P w K mg base CX0 k f fd ps sp
  pr : PropOf K C m p f
  bd : Binds K fd ps []
structure MetG (P : Program) (w : World) (K : PySem.W.Frag) (mg : Str → Option Value) (base : Heap) (C : Addr) (m : Str) (f : Addr) (fd : FuncData) (ps : List Str) (k : Nat) (sp : Sp) : Prop where
  ok : FnG P w K mg base CX0 k f fd ps sp
  at_ : PySem.W.findIn K (.ref C) m = some (some (.ref f))
  fn : PySem.W.isFn K (.ref f) = true
  bd : Binds K fd ps []
noncomputable def sp_need_day : Sp := fun vs H Q _ => ∃ i, vs = [.int i] ∧ RetV .non H Q
theorem spv_need_day {i : Int} {H : Hp} : SpV sp_need_day ([.int i] ++ []) H .non := fun H1 _ Q q E => ⟨i, rfl, q⟩
section
variable {P : Program} {w : World} {K : PySem.W.Frag} {mg : Str → Option Value} {base : Heap} {C SZ SY : Addr}
theorem ok_need_day {f f1 : Addr} {fd fd1 : FuncData} (F : Fun K "need_day" "need_day" s_need_day f fd) (T : Txt P w K mg C SZ SY) (c_is_day : Cal P w K mg base "is_day" f1 fd1 ["value"] 1 sp_is_day) : FnOk P w K mg base CX0 2 f fd ["value"] sp_need_day := by
  refine F.ok sc_need_day (fun vs H Q E h => ?_) (fun cdv A outer s H vs Q E hr h => ?_)
  · obtain ⟨i, rfl, _⟩ := h
    rfl
  · obtain ⟨i, rfl, k⟩ := h
    refine ⟨_, (pss_one (ps_if (pt_not (pt_val (pe_call c_is_day.ok (hr.mono (by decide)) (by rfl) c_is_day.mgx c_is_day.kp c_is_day.bd .nil pass0 (pa_cons (pv 0) pa_nil)))) (pss_one ps_never) pss_nil)), ?_⟩
    exact s_when (et_not (et_B (ev_call (ea_cons (ev_var rfl) ea_nil) spv_is_day))) (fun h => by cases h) fun _ H1 e => k H1 e
end
noncomputable def Seq (K : PySem.W.Frag) (H : Hp) (p : Addr) (xs : List V) : Prop := SqL K H p xs ∨ SqT K H p xs
/-- a list or tuple that is tracked as itself (its type is known) -/
noncomputable def SeqT (K : PySem.W.Frag) (H : Hp) (p : Addr) (xs : List V) : Prop := H p = some (.lst xs) ∨ H p = some (.tup xs)
theorem SeqT.seq {K : PySem.W.Frag} {H : Hp} {p : Addr} {xs : List V} (h : SeqT K H p xs) : Seq K H p xs := h.imp sq_of st_of
theorem SeqT.mono {K : PySem.W.Frag} {H H' : Hp} {p : Addr} {xs : List V} (e : Ex H H') (h : SeqT K H p xs) : SeqT K H' p xs := h.imp (e p _) (e p _)
noncomputable def sp_is_list (K : PySem.W.Frag) : Sp := fun vs H Q _ => ∃ p xs, vs = [.ref p] ∧ SeqT K H p xs ∧ RetV (.bl true) H Q
theorem spv_is_list {K : PySem.W.Frag} {p : Addr} {xs : List V} {H : Hp} (h : SeqT K H p xs) : SpV (sp_is_list K) ([.ref p] ++ []) H (.bl true) := fun H1 e Q q E => ⟨p, xs, rfl, h.mono e, q⟩
noncomputable def sp_is_table (K : PySem.W.Frag) : Sp := fun vs H Q _ => ∃ p ns, vs = [.ref p] ∧ SeqT K H p (ns.map V.int) ∧ Good ns ∧ RetV (.bl true) H Q
theorem spv_is_table {K : PySem.W.Frag} {p : Addr} {ns : List Int} {H : Hp} (h : SeqT K H p (ns.map V.int)) (g : Good ns) : SpV (sp_is_table K) ([.ref p] ++ []) H (.bl true) := fun H1 e Q q E => ⟨p, ns, rfl, h.mono e, g, q⟩
noncomputable def sp_init (K : PySem.W.Frag) (C : Addr) : Sp := fun vs H Q _ => ∃ x dx p ns, vs = [.ref x, .ref p] ∧ H x = some (.ins C dx []) ∧ SeqT K H p (ns.map V.int) ∧ Good ns ∧
  ∀ l H', (∀ b o, H b = some o → b ≠ x → H' b = some o) → H' x = some (.ins C dx [("_days", .ref l)]) → H' l = some (.lst (ns.map V.int)) → H l = none → Q .non H'
structure Ini (P : Program) (w : World) (K : PySem.W.Frag) (mg : Str → Option Value) (base : Heap) (C : Addr) (f : Addr) (fd : FuncData) : Prop where
  ok : FnOk P w K mg base CX0 3 f fd ["self", "days"] (sp_init K C)
  bd : Binds K fd ["self", "days"] []
theorem getI {ns : List Int} {i : Nat} (h : i < ns.length) : (ns.map V.int)[i]? = some (.int (ns.getD i 0)) := by
  rw [List.getElem?_map, List.getElem?_eq_getElem h, List.getD_eq_getElem?_getD, List.getElem?_eq_getElem h] <;> rfl
theorem atI_int {ns : List Int} {i : Int} (h0 : 0 ≤ i) (h : i < (ns.length : Int)) : atI (ns.map V.int) i = some (.int (ns.getD i.toNat 0)) := by
  obtain ⟨k, rfl⟩ : ∃ k : Nat, i = (k : Int) := ⟨i.toNat, by omega⟩
  rw [Int.toNat_natCast]
  exact atI_nat (getI (by omega))
theorem atI_m1 {ns : List Int} (h : 1 ≤ ns.length) : atI (ns.map V.int) (-1) = some (.int (ns.getD (ns.length - 1) 0)) := by
  have e : ns.map V.int = (ns.dropLast).map V.int ++ [.int (ns.getD (ns.length - 1) 0)] := by
    have hne : ns ≠ [] := by intro q; subst q; simp at h
    conv => lhs; rw [← List.dropLast_concat_getLast hne]
    rw [List.map_append, List.getLast_eq_getElem, List.getD_eq_getElem?_getD, List.getElem?_eq_getElem (by omega)] <;> rfl
  rw [e]
  exact atI_last _ _
section
variable {P : Program} {w : World} {K : PySem.W.Frag} {mg : Str → Option Value} {base : Heap} {C SZ SY : Addr}
theorem ok_is_list {f : Addr} {fd : FuncData} (F : Fun K "is_list" "is_list" s_is_list f fd) (T : Txt P w K mg C SZ SY) : FnOk P w K mg base CX0 1 f fd ["value"] (sp_is_list K) := by
  refine F.ok sc_is_list (fun vs H Q E h => ?_) (fun cdv A outer s H vs Q E hr h => ?_)
  · obtain ⟨p, xs, rfl, _⟩ := h
    rfl
  · obtain ⟨p, xs, rfl, hs, k⟩ := h
    refine ⟨_, (pss_one (ps_ret (pe_callB call_isiT (by rfl) T.b_isinstance (by decide +kernel) (pa_cons (pv 0) (pa_cons (pe_tup (pa_cons (pe_bltn (v := .ty "list") (u := .type "list") (by rfl) T.b_list (by decide +kernel) rfl) (pa_cons (pe_bltn (v := .ty "tuple") (u := .type "tuple") (by rfl) T.b_tuple (by decide +kernel) rfl) pa_nil))) pa_nil))))), ?_⟩
    rcases hs with hs | hs
    · refine ⟨_, rfl, by decide, fun t ht => ?_⟩
      refine ⟨.ref p, t, [.ty "list", .ty "tuple"], .type "list", [.type "list", .type "tuple"], true, rfl, upd_same, .cons (.ty _) (.cons (.ty _) .nil), .base (.lst (by rw [upd_ne (ne_of_none hs ht)]; exact hs)), kitAny_cons (b := true) (kit_ty (by decide +kernel)) (fun h => nomatch h) (fun _ => rfl), k _ (Ex.new ht)⟩
    · refine ⟨_, rfl, by decide, fun t ht => ?_⟩
      refine ⟨.ref p, t, [.ty "list", .ty "tuple"], .type "tuple", [.type "list", .type "tuple"], true, rfl, upd_same, .cons (.ty _) (.cons (.ty _) .nil), .base (.tup (by rw [upd_ne (ne_of_none hs ht)]; exact hs)), kitAny_cons (b := false) (kit_ty (by decide +kernel)) (fun _ => kitAny_cons (b := true) (kit_ty (by decide +kernel)) (fun h => nomatch h) (fun _ => rfl)) (fun h => nomatch h), k _ (Ex.new ht)⟩
/-- range(n) of a comprehension that keeps all -/
theorem given_all {n : Nat} {v : Nat → V} : given n (fun _ => true) v = (List.range n).map v := by
  unfold given
  rw [List.filter_eq_self.mpr (fun _ _ => rfl)]
theorem rv_res {r : R2} {x y z z' : V} {H : Hp} (h : RV r x y H z) (e : z = z') : RV r x y H z' := e ▸ h
theorem ev_glob {σ : L2.St} {H : Hp} {v : V} : Ev (tC v) σ H v := ev_c
theorem ev_const {σ : L2.St} {H : Hp} {mc : Value} {f : Str} {v : V} {u : Value} {te : TE} (h : Ev te σ H (.ref C)) (r : ClX.CRead K C mc) (k : ClX.CVal K C mc f v u) : Ev (ClX.tCVal K te f) σ H v := fun H1 e Q q =>
  h H1 e _ fun H2 e2 => ⟨C, mc, v, u, rfl, r, k, q H2 e2⟩
theorem ok_is_table {f f1 f2 : Addr} {fd fd1 fd2 : FuncData} (F : Fun K "is_table" "is_table" s_is_table f fd) (T : Txt P w K mg C SZ SY) (c_is_list : Cal P w K mg base "is_list" f1 fd1 ["value"] 1 (sp_is_list K)) (c_is_day : Cal P w K mg base "is_day" f2 fd2 ["value"] 1 sp_is_day) :
    FnOk P w K mg base CX0 2 f fd ["value"] (sp_is_table K) := by
  refine F.ok sc_is_table (fun vs H Q E h => ?_) (fun cdv A outer s H vs Q E hr h => ?_)
  · obtain ⟨p, ns, rfl, _⟩ := h
    rfl
  · obtain ⟨p, ns, rfl, hs, g, k⟩ := h
    obtain ⟨mc, tkq, rd, cv⟩ := T.cM
    have hgp := g.pos
    have hgm := g.most
    rcases hs with hs | hs
    · have hq := sq_of (K := K) hs
      refine ⟨_, (pss_cons (ps_if (PW.pt (pw_or (pt_not (pt_val (pe_call c_is_list.ok (hr.mono (by decide)) (by rfl) c_is_list.mgx c_is_list.kp c_is_list.bd .nil pass0 (pa_cons (pv 0) pa_nil)))) (pw_or1 (pt_not (pt_chain op_le op_le pe_int (pe_callB (lenS (K := K) rfl) (by rfl) T.b_len (by decide +kernel) (pa_cons (pv 0) pa_nil)) (ClX.pe_cval (pe_glob (v := .ref C) rfl T.mg_Table rfl))))))) (pss_one (ps_ret pe_bl)) pss_nil) (pss_cons (ps_if (pt_not (pt_val (pe_callB (allL (K := K) rfl rfl) (by rfl) T.b_all (by decide +kernel) (pa_cons (pe_lc (own := [("day", 2)]) (g := (gName 2)) (by rfl) sc_is_table.nd (piL (K := K) rfl (pv 0)) (blkOk_by (own := [("day", 2)]) (N := ["value", "rises", "day", "place"]) (sc := defScope s_is_table) (by decide +kernel)) (fun _ _ _ _ _ => (pg_name (i := 2) sc_is_table.nd rfl (Or.inl rfl))) (fun _ _ _ _ _ => pts_nil) (fun _ _ _ _ _ => (pe_call c_is_day.ok (hr.mono (by decide)) (by rfl) c_is_day.mgx c_is_day.kp c_is_day.bd .nil pass0 (pa_cons (pv 2) pa_nil)))) pa_nil)))) (pss_one (ps_ret pe_bl)) pss_nil) (pss_cons (ps_set (i := 1) sc_is_table.nd rfl (Or.inl rfl) (pe_callB (allL (K := K) rfl rfl) (by rfl) T.b_all (by decide +kernel) (pa_cons (pe_lc (own := [("place", 3)]) (g := (gName 3)) (by rfl) sc_is_table.nd (pi_range1 (by rfl) T.b_range (pa_cons (pe_op op_sub (pe_callB (lenS (K := K) rfl) (by rfl) T.b_len (by decide +kernel) (pa_cons (pv 0) pa_nil)) pe_int) pa_nil)) (blkOk_by (own := [("place", 3)]) (N := ["value", "rises", "day", "place"]) (sc := defScope s_is_table) (by decide +kernel)) (fun _ _ _ _ _ => (pg_name (i := 3) sc_is_table.nd rfl (Or.inl rfl))) (fun _ _ _ _ _ => pts_nil) (fun _ _ _ _ _ => (pe_cmpR op_le (pe_ix (ixL (K := K) rfl) (pv 0) (pv 3) (fun _ _ => rfl)) (pe_ix (ixL (K := K) rfl) (pv 0) (pe_op op_add (pv 3) pe_int) (fun _ _ => rfl)) (nomark _)))) pa_nil))) (pss_one (ps_ret (pe_and (pv 1) (pe_one (pe_cmpR op_le (pe_op op_sub (pe_ix (ixL (K := K) rfl) (pv 0) (pe_un un_neg pe_int) (fun _ _ => rfl)) (pe_ix (ixL (K := K) rfl) (pv 0) pe_int (fun _ _ => rfl))) (pe_callB (lenS (K := K) rfl) (by rfl) T.b_len (by decide +kernel) (pa_cons (pv 0) pa_nil)) (nomark _))))))))), ?_⟩
      refine q_when (b := false) (et_or (a := false) (b := false) (et_not (a := true) (et_B (ev_call (ea_cons (ev_var rfl) ea_nil) (spv_is_list (.inl hs))))) fun _ => et_not (a := true) (et_test (ev_chain (y := .int (ns.length : Int)) (ev_c (v := .int 1)) (ev_cb (ea_cons (ev_var rfl) ea_nil) (rc_len (.inl hq) (by rw [List.length_map]))) (rv_res rv_I0 (by simp; omega)) (ev_const ev_glob rd cv) (rv_res rv_I0 (by simp; omega))))) (fun q => nomatch q) fun _ H1 e1 => ?_
      refine q_when (b := false) (et_not (a := true) (et_B (ev_allT (n := ns.length) (by
        have e0 : (ns.map V.int).length = ns.length := List.length_map ..
        rw [← e0]
        refine el_lcL (fun _ => true) (fun _ => V.bl true) (ev_var rfl) (ex_l e1 hq) (by rw [e0]; omega) (fun _ => rfl) (fun _ _ _ _ _ => lc_yes) (fun i x H2 e2 hi _ => ?_)
        rw [List.getElem?_map] at hi
        obtain ⟨n, _, rfl⟩ := Option.map_eq_some_iff.mp hi
        exact ev_call (ea_cons (ev_var rfl) ea_nil) spv_is_day)))) (fun q => nomatch q) fun _ H2 e2 => ?_
      refine q_asg (v := .bl true) (ev_allT (n := ((ns.length : Int) - 1).toNat) (el_lcR1 (fun _ => true) (fun _ => V.bl true) (ea_cons (ev_op (ev_cb (ea_cons (ev_var rfl) ea_nil) (rc_len (.inl (ex_l (e1.trans e2) hq)) (by rw [List.length_map]))) ev_c rv_I0) ea_nil) (by omega) (fun _ => rfl) (fun _ _ _ _ => lc_yes) (fun i H3 e3 hi _ => ?_))) fun H3 e3 => ?_
      · have hi' : i + 1 < ns.length := by omega
        have hu := g.up i (i + 1) (by omega) hi'
        refine ev_is (ev_op (ev_op (ev_var rfl) (ev_var rfl) (rv_ixL (ex_l ((e1.trans e2).trans e3) hq) (atI_nat (getI (by omega : i < ns.length))))) (ev_op (ev_var rfl) (ev_is (ev_op (ev_var rfl) ev_c rv_I0) (by congr 1 : V.int ((i : Int) + 1) = V.int ((i + 1 : Nat) : Int))) (rv_ixL (ex_l ((e1.trans e2).trans e3) hq) (atI_nat (getI hi')))) rv_I0) (congrArg V.bl (decide_eq_true hu))
      · have hsp := g.span
        refine s_ret (ev_is (ev_andV (a := true) (ev_var rfl) fun _ => ev_op (ev_op (ev_op (ev_var rfl) (ev_un ev_c ru_neg) (rv_ixL (ex_l ((e1.trans e2).trans e3) hq) (atI_m1 hgp))) (ev_op (ev_var rfl) ev_c (rv_ixL (ex_l ((e1.trans e2).trans e3) hq) (atI_int (by decide) (by omega)))) rv_I0) (ev_cb (ea_cons (ev_var rfl) ea_nil) (rc_len (.inl (ex_l ((e1.trans e2).trans e3) hq)) (by rw [List.length_map]))) rv_I0) (congrArg V.bl (decide_eq_true hsp))) fun H4 e4 => k H4 (((e1.trans e2).trans e3).trans e4)
    · have hq := st_of (K := K) hs
      refine ⟨_, (pss_cons (ps_if (PW.pt (pw_or (pt_not (pt_val (pe_call c_is_list.ok (hr.mono (by decide)) (by rfl) c_is_list.mgx c_is_list.kp c_is_list.bd .nil pass0 (pa_cons (pv 0) pa_nil)))) (pw_or1 (pt_not (pt_chain op_le op_le pe_int (pe_callB (lenS (K := K) rfl) (by rfl) T.b_len (by decide +kernel) (pa_cons (pv 0) pa_nil)) (ClX.pe_cval (pe_glob (v := .ref C) rfl T.mg_Table rfl))))))) (pss_one (ps_ret pe_bl)) pss_nil) (pss_cons (ps_if (pt_not (pt_val (pe_callB (allL (K := K) rfl rfl) (by rfl) T.b_all (by decide +kernel) (pa_cons (pe_lc (own := [("day", 2)]) (g := (gName 2)) (by rfl) sc_is_table.nd (piT (K := K) rfl (pv 0)) (blkOk_by (own := [("day", 2)]) (N := ["value", "rises", "day", "place"]) (sc := defScope s_is_table) (by decide +kernel)) (fun _ _ _ _ _ => (pg_name (i := 2) sc_is_table.nd rfl (Or.inl rfl))) (fun _ _ _ _ _ => pts_nil) (fun _ _ _ _ _ => (pe_call c_is_day.ok (hr.mono (by decide)) (by rfl) c_is_day.mgx c_is_day.kp c_is_day.bd .nil pass0 (pa_cons (pv 2) pa_nil)))) pa_nil)))) (pss_one (ps_ret pe_bl)) pss_nil) (pss_cons (ps_set (i := 1) sc_is_table.nd rfl (Or.inl rfl) (pe_callB (allL (K := K) rfl rfl) (by rfl) T.b_all (by decide +kernel) (pa_cons (pe_lc (own := [("place", 3)]) (g := (gName 3)) (by rfl) sc_is_table.nd (pi_range1 (by rfl) T.b_range (pa_cons (pe_op op_sub (pe_callB (lenS (K := K) rfl) (by rfl) T.b_len (by decide +kernel) (pa_cons (pv 0) pa_nil)) pe_int) pa_nil)) (blkOk_by (own := [("place", 3)]) (N := ["value", "rises", "day", "place"]) (sc := defScope s_is_table) (by decide +kernel)) (fun _ _ _ _ _ => (pg_name (i := 3) sc_is_table.nd rfl (Or.inl rfl))) (fun _ _ _ _ _ => pts_nil) (fun _ _ _ _ _ => (pe_cmpR op_le (pe_ix (ixT (K := K) rfl) (pv 0) (pv 3) (fun _ _ => rfl)) (pe_ix (ixT (K := K) rfl) (pv 0) (pe_op op_add (pv 3) pe_int) (fun _ _ => rfl)) (nomark _)))) pa_nil))) (pss_one (ps_ret (pe_and (pv 1) (pe_one (pe_cmpR op_le (pe_op op_sub (pe_ix (ixT (K := K) rfl) (pv 0) (pe_un un_neg pe_int) (fun _ _ => rfl)) (pe_ix (ixT (K := K) rfl) (pv 0) pe_int (fun _ _ => rfl))) (pe_callB (lenS (K := K) rfl) (by rfl) T.b_len (by decide +kernel) (pa_cons (pv 0) pa_nil)) (nomark _))))))))), ?_⟩
      refine q_when (b := false) (et_or (a := false) (b := false) (et_not (a := true) (et_B (ev_call (ea_cons (ev_var rfl) ea_nil) (spv_is_list (.inr hs))))) fun _ => et_not (a := true) (et_test (ev_chain (y := .int (ns.length : Int)) (ev_c (v := .int 1)) (ev_cb (ea_cons (ev_var rfl) ea_nil) (rc_len (.inr hq) (by rw [List.length_map]))) (rv_res rv_I0 (by simp; omega)) (ev_const ev_glob rd cv) (rv_res rv_I0 (by simp; omega))))) (fun q => nomatch q) fun _ H1 e1 => ?_
      refine q_when (b := false) (et_not (a := true) (et_B (ev_allT (n := ns.length) (by
        have e0 : (ns.map V.int).length = ns.length := List.length_map ..
        rw [← e0]
        refine el_lcT (fun _ => true) (fun _ => V.bl true) (ev_var rfl) (ex_t e1 hq) (by rw [e0]; omega) (fun _ => rfl) (fun _ _ _ _ _ => lc_yes) (fun i x H2 e2 hi _ => ?_)
        rw [List.getElem?_map] at hi
        obtain ⟨n, _, rfl⟩ := Option.map_eq_some_iff.mp hi
        exact ev_call (ea_cons (ev_var rfl) ea_nil) spv_is_day)))) (fun q => nomatch q) fun _ H2 e2 => ?_
      refine q_asg (v := .bl true) (ev_allT (n := ((ns.length : Int) - 1).toNat) (el_lcR1 (fun _ => true) (fun _ => V.bl true) (ea_cons (ev_op (ev_cb (ea_cons (ev_var rfl) ea_nil) (rc_len (.inr (ex_t (e1.trans e2) hq)) (by rw [List.length_map]))) ev_c rv_I0) ea_nil) (by omega) (fun _ => rfl) (fun _ _ _ _ => lc_yes) (fun i H3 e3 hi _ => ?_))) fun H3 e3 => ?_
      · have hi' : i + 1 < ns.length := by omega
        have hu := g.up i (i + 1) (by omega) hi'
        refine ev_is (ev_op (ev_op (ev_var rfl) (ev_var rfl) (rv_ixT (ex_t ((e1.trans e2).trans e3) hq) (atI_nat (getI (by omega : i < ns.length))))) (ev_op (ev_var rfl) (ev_is (ev_op (ev_var rfl) ev_c rv_I0) (by congr 1 : V.int ((i : Int) + 1) = V.int ((i + 1 : Nat) : Int))) (rv_ixT (ex_t ((e1.trans e2).trans e3) hq) (atI_nat (getI hi')))) rv_I0) (congrArg V.bl (decide_eq_true hu))
      · have hsp := g.span
        refine s_ret (ev_is (ev_andV (a := true) (ev_var rfl) fun _ => ev_op (ev_op (ev_op (ev_var rfl) (ev_un ev_c ru_neg) (rv_ixT (ex_t ((e1.trans e2).trans e3) hq) (atI_m1 hgp))) (ev_op (ev_var rfl) ev_c (rv_ixT (ex_t ((e1.trans e2).trans e3) hq) (atI_int (by decide) (by omega)))) rv_I0) (ev_cb (ea_cons (ev_var rfl) ea_nil) (rc_len (.inr (ex_t ((e1.trans e2).trans e3) hq)) (by rw [List.length_map]))) rv_I0) (congrArg V.bl (decide_eq_true hsp))) fun H4 e4 => k H4 (((e1.trans e2).trans e3).trans e4)
end
noncomputable def sp_many (K : PySem.W.Frag) : Sp := fun vs H Q _ => ∃ p ns d c, vs = [.ref p, .int d] ∧ SqL K H p (ns.map V.int) ∧ Good ns ∧ IsCnt ns d c ∧ RetV (.int (c : Int)) H Q
theorem spv_many {K : PySem.W.Frag} {p : Addr} {ns : List Int} {d : Int} {c : Nat} {H : Hp} (h : SqL K H p (ns.map V.int)) (g : Good ns) (hc : IsCnt ns d c) : SpV (sp_many K) ([.ref p, .int d] ++ []) H (.int (c : Int)) := fun H1 e Q q E => ⟨p, ns, d, c, rfl, ex_l e h, g, hc, q⟩
section
variable {P : Program} {w : World} {K : PySem.W.Frag} {mg : Str → Option Value} {base : Heap} {C SZ SY : Addr}
theorem ok_many {f : Addr} {fd : FuncData} (F : Fun K "_many_ahead" "_many_ahead" s__many_ahead f fd) (T : Txt P w K mg C SZ SY) : FnOk P w K mg base CX0 1 f fd ["days", "day"] (sp_many K) := by
  refine F.ok sc__many_ahead (fun vs H Q E h => ?_) (fun cdv A outer s H vs Q E hr h => ?_)
  · obtain ⟨p, ns, d, c, rfl, _⟩ := h
    rfl
  · obtain ⟨p, ns, d, c, rfl, hs, g, hc, k⟩ := h
    refine ⟨_, (pss_cons (ps_par (i := 2) (j := 3) (by rfl) sc__many_ahead.nd rfl rfl (by decide) rfl rfl (pa_cons pe_int (pa_cons (pe_callB (lenS (K := K) rfl) (by rfl) T.b_len (by decide +kernel) (pa_cons (pv 0) pa_nil)) pa_nil)) (by rfl)) (pss_cons (ps_while PassesOwn.never (pt_cmpR op_lt (pv 2) (pv 3) (nomark _)) (pss_cons (ps_set (i := 4) sc__many_ahead.nd rfl (Or.inl rfl) (pe_op op_fdivN (pe_op op_add (pv 2) (pv 3)) pe_int)) (pss_one (ps_if (pt_cmpR op_lt (pe_ix (ixL (K := K) rfl) (pv 0) (pv 4) (fun _ _ => rfl)) (pv 1) (nomark _)) (pss_one (ps_set (i := 2) sc__many_ahead.nd rfl (Or.inl rfl) (pe_op op_add (pv 4) pe_int))) (pss_one (ps_set (i := 3) sc__many_ahead.nd rfl (Or.inl rfl) (pv 4))))))) (pss_one (ps_ret (pv 2))))), ?_⟩
    refine q_par (v := .int 0) (w := .int (ns.length : Int)) (ea_cons ev_c (ea_cons (ev_cb (ea_cons (ev_var rfl) ea_nil) (rc_len (.inl hs) (by rw [List.length_map]))) ea_nil)) fun H1 e1 => ?_
    refine q_while (fun m σ' H' => ∃ lo hi : Nat, m = hi - lo ∧ lo ≤ hi ∧ hi ≤ ns.length ∧ Ex H H' ∧ lo ≤ c ∧ c ≤ hi ∧ ∃ mid : Option V, σ' = [some (.ref p), some (.int d), some (.int (lo : Int)), some (.int (hi : Int)), mid]) ns.length ⟨0, ns.length, by omega, by omega, Nat.le_refl _, e1, by omega, hc.1, none, rfl⟩ ?_
    rintro m σ' H' ⟨lo, hi, rfl, h1, h2, e, h3, h4, mid, rfl⟩
    refine ⟨decide ((lo : Int) < (hi : Int)), et_test (ev_op (ev_var rfl) (ev_var rfl) rv_I0), fun ht H2 e2 => ?_, fun ht H2 e2 => ?_⟩
    · have hlt : lo < hi := by have := of_decide_eq_true ht; omega
      have hmid : ((lo : Int) + (hi : Int)).fdiv 2 = (((lo + hi) / 2 : Nat) : Int) := by
        rw [Int.fdiv_eq_ediv_of_nonneg _ (by decide)]; omega
      refine ⟨fun σ2 H3 => ∃ lo' hi' : Nat, hi' - lo' < hi - lo ∧ lo' ≤ hi' ∧ hi' ≤ ns.length ∧ Ex H H3 ∧ lo' ≤ c ∧ c ≤ hi' ∧ ∃ mid : Option V, σ2 = [some (.ref p), some (.int d), some (.int (lo' : Int)), some (.int (hi' : Int)), mid],
        fun σ2 H3 ⟨lo', hi', q1, q2, q3, q4, q5, q6, q7⟩ => ⟨hi' - lo', q1, lo', hi', rfl, q2, q3, q4, q5, q6, q7⟩, ?_⟩
      refine q_asg (v := .int (((lo + hi) / 2 : Nat) : Int)) (ev_is (ev_op (ev_op (ev_var rfl) (ev_var rfl) rv_I0) ev_c (rv_I ⟨by decide, by decide⟩)) (by rw [hmid])) fun H3 e3 => ?_
      have hm1 : lo ≤ (lo + hi) / 2 := by omega
      have hm2 : (lo + hi) / 2 < hi := by omega
      have e4 : Ex H H3 := (e.trans e2).trans e3
      refine s_if (et_test (ev_op (ev_op (ev_var rfl) (ev_var rfl) (rv_ixL (ex_l e4 hs) (atI_nat (getI (by omega : (lo + hi) / 2 < ns.length))))) (ev_var rfl) rv_I0)) (fun hb H4 e5 => ?_) (fun hb H4 e5 => ?_)
      · have hlo : ns.getD ((lo + hi) / 2) 0 < d := of_decide_eq_true hb
        refine s_asg (v := .int (((lo + hi) / 2 + 1 : Nat) : Int)) (ev_is (ev_op (ev_var rfl) ev_c rv_I0) (by congr 1)) fun H5 e6 => ?_
        refine ⟨(lo + hi) / 2 + 1, hi, by omega, by omega, h2, (e4.trans e5).trans e6, ?_, h4, _, rfl⟩
        refine Classical.byContradiction fun q => ?_
        have := hc.2.2 ((lo + hi) / 2) (by omega) (by omega)
        omega
      · have hlo : ¬ ns.getD ((lo + hi) / 2) 0 < d := of_decide_eq_false hb
        refine s_asg (ev_var rfl) fun H5 e6 => ?_
        refine ⟨lo, (lo + hi) / 2, by omega, by omega, by omega, (e4.trans e5).trans e6, h3, ?_, _, rfl⟩
        refine Classical.byContradiction fun q => ?_
        have := hc.2.1 ((lo + hi) / 2) (by omega)
        omega
    · have hge : ¬ (lo : Int) < (hi : Int) := of_decide_eq_false ht
      have e0 : lo = c := by omega
      subst e0
      exact s_ret (ev_var rfl) fun H3 e3 => k H3 ((e.trans e2).trans e3)
end
noncomputable def RetR (xs : List V) (H : Hp) (Q : VK) : Prop := ∀ (l : Addr) (ts : List Addr) (H2 : Hp), H l = none → Ex H H2 → H2 l = some (.lst (ts.map V.ref)) → ts.length = xs.length → (∀ (j : Nat) (T : Addr) (x : V), ts[j]? = some T → xs[j]? = some x → H2 T = some (.tup [.int (j : Int), x])) → Q (.ref l) H2
/-! ### the promises of a Table's methods -/
noncomputable def sp_length (K : PySem.W.Frag) (C : Addr) : Sp := fun vs H Q _ => ∃ p ns, vs = [.ref p] ∧ Tab K C H p ns ∧ RetV (.int (ns.length : Int)) H Q
noncomputable def sp_days (K : PySem.W.Frag) (C : Addr) : Sp := fun vs H Q _ => ∃ p ns, vs = [.ref p] ∧ Tab K C H p ns ∧ RetL (ns.map V.int) H Q
noncomputable def sp_rows (K : PySem.W.Frag) (C : Addr) : Sp := fun vs H Q _ => ∃ p ns, vs = [.ref p] ∧ Tab K C H p ns ∧ RetR (ns.map V.int) H Q
noncomputable def sp_on (K : PySem.W.Frag) (C : Addr) : Sp := fun vs H Q _ => ∃ p ns x, vs = [.ref p, .int x] ∧ Tab K C H p ns ∧ Good ns ∧ RetV (.int (onL ns x)) H Q
noncomputable def sp_by (K : PySem.W.Frag) (C : Addr) : Sp := fun vs H Q _ => ∃ p ns x, vs = [.ref p, .int x] ∧ Tab K C H p ns ∧ Good ns ∧ RetV (.int (byL ns x)) H Q
noncomputable def sp_til (K : PySem.W.Frag) (C : Addr) : Sp := fun vs H Q _ => ∃ p ns x, vs = [.ref p, .int x] ∧ Tab K C H p ns ∧ Good ns ∧ RetV (.int (byL ns (x + 1) - 1)) H Q
section
variable {K : PySem.W.Frag} {C p : Addr} {H : Hp} {ns : List Int} {x : Int}
theorem spv_length (t : Tab K C H p ns) : SpV (sp_length K C) [.ref p] H (.int (ns.length : Int)) := fun H1 e Q q E => ⟨p, ns, rfl, t.mono e, q⟩
theorem spv_on (t : Tab K C H p ns) (g : Good ns) : SpV (sp_on K C) [.ref p, .int x] H (.int (onL ns x)) := fun H1 e Q q E => ⟨p, ns, x, rfl, t.mono e, g, q⟩
theorem spv_by (t : Tab K C H p ns) (g : Good ns) : SpV (sp_by K C) [.ref p, .int x] H (.int (byL ns x)) := fun H1 e Q q E => ⟨p, ns, x, rfl, t.mono e, g, q⟩
theorem spv_til (t : Tab K C H p ns) (g : Good ns) : SpV (sp_til K C) [.ref p, .int x] H (.int (byL ns (x + 1) - 1)) := fun H1 e Q q E => ⟨p, ns, x, rfl, t.mono e, g, q⟩
end
section
variable {P : Program} {w : World} {K : PySem.W.Frag} {mg : Str → Option Value} {base : Heap} {C SZ SY : Addr}
theorem lk_days {l : Addr} : List.lookup ("_days" : Str) [(("_days" : Str), V.ref l)] = some (V.ref l) := by
  rw [List.lookup_cons_self]
theorem ok_init {f f1 : Addr} {fd fd1 : FuncData} (F : Fun K "__init__" "Table.__init__" s_Table___init__ f fd) (T : Txt P w K mg C SZ SY) (c_is_table : Cal P w K mg base "is_table" f1 fd1 ["value"] 2 (sp_is_table K)) : FnOk P w K mg base CX0 3 f fd ["self", "days"] (sp_init K C) := by
  refine F.ok sc_Table___init__ (fun vs H Q E h => ?_) (fun cdv A outer s H vs Q E hr h => ?_)
  · obtain ⟨x, dx, p, ns, rfl, _⟩ := h
    rfl
  · obtain ⟨x, dx, p, ns, rfl, hx, hs, g, k⟩ := h
    refine ⟨_, (pss_cons (ps_if (pt_not (pt_val (pe_call c_is_table.ok (hr.mono (by decide)) (by rfl) c_is_table.mgx c_is_table.kp c_is_table.bd .nil pass0 (pa_cons (pv 1) pa_nil)))) (pss_one ps_never) pss_nil) (pss_one (ps_fld (pv 0) (pe_callTy call_list_of (by rfl) T.b_list (by decide +kernel) (pa_cons (pv 1) pa_nil)) rfl))), ?_⟩
    refine q_when (b := false) (et_not (a := true) (et_B (ev_call (ea_cons (ev_var rfl) ea_nil) (spv_is_table hs g)))) (fun q => nomatch q) fun _ H1 e1 => ?_
    refine (el_cb (ea_cons (ev_var rfl) ea_nil) (rc_list (hs.mono e1).seq)) H1 (Ex.refl H1) _ fun l H2 hl e2 h2 => ?_
    have hx2 := e2 x _ (e1 x _ hx)
    refine ⟨_, rfl, x, C, dx, [], rfl, hx2, T.cl, T.nD, by decide, ?_⟩
    have hne : l ≠ x := (ne_of hx2 h2 (fun q => by cases q)).symm
    exact k l _ (fun b o hb hbx => by rw [upd_ne hbx]; exact e2 b _ (e1 b _ hb)) upd_same (by rw [upd_ne hne]; exact h2) (fresh_back e1 hl)
theorem ok_length {f : Addr} {fd : FuncData} (F : Fun K "length" "Table.length" s_Table_length f fd) (T : Txt P w K mg C SZ SY) : FnOk P w K mg base CX0 1 f fd ["self"] (sp_length K C) := by
  refine F.ok sc_Table_length (fun vs H Q E h => ?_) (fun cdv A outer s H vs Q E hr h => ?_)
  · obtain ⟨p, ns, rfl, _⟩ := h
    rfl
  · obtain ⟨p, ns, rfl, ⟨dx, l, h1, h2⟩, k⟩ := h
    refine ⟨_, (pss_one (ps_ret (pe_callB (lenS (K := K) rfl) (by rfl) T.b_len (by decide +kernel) (pa_cons (pe_fldK (K := K) rfl (pv 0) rfl) pa_nil)))), ?_⟩
    exact s_ret (ev_cb (ea_cons (ev_fld (ev_var rfl) h1 T.cl T.nD lk_days) ea_nil) (rc_len (.inl h2) (by rw [List.length_map]))) k
theorem ok_on {f f1 f2 p2 : Addr} {fd fd1 fd2 : FuncData} (F : Fun K "on" "Table.on" s_Table_on f fd) (T : Txt P w K mg C SZ SY) (c_need_day : Cal P w K mg base "need_day" f1 fd1 ["value"] 2 sp_need_day)
    (m_length : Prp P w K mg base C "length" p2 f2 fd2 ["self"] 1 (sp_length K C)) : FnOk P w K mg base CX0 3 f fd ["self", "day"] (sp_on K C) := by
  refine F.ok sc_Table_on (fun vs H Q E h => ?_) (fun cdv A outer s H vs Q E hr h => ?_)
  · obtain ⟨p, ns, x, rfl, _⟩ := h
    rfl
  · obtain ⟨p, ns, x, rfl, t, g, k⟩ := h
    obtain ⟨dx, l, h1, h2⟩ := id t
    have hp := g.posI
    have hm := g.most
    refine ⟨_, (pss_cons (ps_expr (pe_call c_need_day.ok (hr.mono (by decide)) (by rfl) c_need_day.mgx c_need_day.kp c_need_day.bd .nil pass0 (pa_cons (pv 1) pa_nil))) (pss_cons (ps_asg (pe_callB call_divmod (by rfl) T.b_divmod (by decide +kernel) (pa_cons (pv 1) (pa_cons (pe_prop (pv 0) T.cl m_length.pr m_length.ok (hr.mono (by decide)) m_length.bd .nil pass0 (by rfl)) pa_nil))) (pg_tup (by rfl) (pgs_cons (pg_name (i := 2) sc_Table_on.nd rfl (Or.inl rfl)) (pgs_cons (pg_name (i := 3) sc_Table_on.nd rfl (Or.inl rfl)) pgs_nil)))) (pss_one (ps_ret (pe_op op_add (pe_ix (ixL (K := K) rfl) (pe_fldK (K := K) rfl (pv 0) rfl) (pv 3) (fun _ _ => rfl)) (pe_op op_mul (pv 2) (pe_prop (pv 0) T.cl m_length.pr m_length.ok (hr.mono (by decide)) m_length.bd .nil pass0 (by rfl)))))))), ?_⟩
    refine q_drop (ev_call (ea_cons (ev_var rfl) ea_nil) spv_need_day) fun H1 e1 => ?_
    refine q_asgT2 (eu_divmod (ev_var rfl) (ev_prop (ev_var rfl) (e1 p _ h1) (spv_length (t.mono e1))) hp (by omega)) fun H2 e2 => ?_
    have e3 := e1.trans e2
    have i0 := Int.emod_nonneg x (show (ns.length : Int) ≠ 0 by omega)
    have i1 := Int.emod_lt_of_pos x hp
    exact s_ret (ev_op (ev_op (ev_fld (ev_var rfl) (e3 p _ h1) T.cl T.nD lk_days) (ev_var rfl) (rv_ixL (ex_l e3 h2) (atI_int i0 i1))) (ev_op (ev_var rfl) (ev_prop (ev_var rfl) (e3 p _ h1) (spv_length (t.mono e3))) (rv_I (.inr ⟨by omega, by omega⟩))) rv_I0) fun H3 e4 => k H3 (e3.trans e4)
theorem ok_by {f f1 f2 f3 p2 : Addr} {fd fd1 fd2 fd3 : FuncData} (F : Fun K "by" "Table.by" s_Table_by f fd) (T : Txt P w K mg C SZ SY) (c_need_day : Cal P w K mg base "need_day" f1 fd1 ["value"] 2 sp_need_day)
    (m_length : Prp P w K mg base C "length" p2 f2 fd2 ["self"] 1 (sp_length K C)) (c__many_ahead : Cal P w K mg base "_many_ahead" f3 fd3 ["days", "day"] 1 (sp_many K)) : FnOk P w K mg base CX0 3 f fd ["self", "day"] (sp_by K C) := by
  refine F.ok sc_Table_by (fun vs H Q E h => ?_) (fun cdv A outer s H vs Q E hr h => ?_)
  · obtain ⟨p, ns, x, rfl, _⟩ := h
    rfl
  · obtain ⟨p, ns, x, rfl, t, g, k⟩ := h
    obtain ⟨dx, l, h1, h2⟩ := id t
    have hp := g.posI
    have hm := g.most
    refine ⟨_, (pss_cons (ps_expr (pe_call c_need_day.ok (hr.mono (by decide)) (by rfl) c_need_day.mgx c_need_day.kp c_need_day.bd .nil pass0 (pa_cons (pv 1) pa_nil))) (pss_cons (ps_set (i := 2) sc_Table_by.nd rfl (Or.inl rfl) (pe_op op_fdivN (pe_op op_sub (pe_op op_sub (pv 1) (pe_ix (ixL (K := K) rfl) (pe_fldK (K := K) rfl (pv 0) rfl) pe_int (fun _ _ => rfl))) pe_int) (pe_prop (pv 0) T.cl m_length.pr m_length.ok (hr.mono (by decide)) m_length.bd .nil pass0 (by rfl)))) (pss_one (ps_ret (pe_op op_add (pe_call c__many_ahead.ok (hr.mono (by decide)) (by rfl) c__many_ahead.mgx c__many_ahead.kp c__many_ahead.bd .nil pass0 (pa_cons (pe_fldK (K := K) rfl (pv 0) rfl) (pa_cons (pe_op op_sub (pv 1) (pe_op op_mul (pv 2) (pe_prop (pv 0) T.cl m_length.pr m_length.ok (hr.mono (by decide)) m_length.bd .nil pass0 (by rfl)))) pa_nil))) (pe_op op_mul (pv 2) (pe_prop (pv 0) T.cl m_length.pr m_length.ok (hr.mono (by decide)) m_length.bd .nil pass0 (by rfl)))))))), ?_⟩
    refine q_drop (ev_call (ea_cons (ev_var rfl) ea_nil) spv_need_day) fun H1 e1 => ?_
    refine q_asg (v := .int ((x - ns.getD 0 0 - 1) / (ns.length : Int))) (ev_is (ev_op (ev_op (ev_op (ev_var rfl) (ev_op (ev_fld (ev_var rfl) (e1 p _ h1) T.cl T.nD lk_days) ev_c (rv_ixL (ex_l e1 h2) (atI_int (by decide) (by omega)))) rv_I0) ev_c rv_I0)
      (ev_prop (ev_var rfl) (e1 p _ h1) (spv_length (t.mono e1))) (rv_I ⟨by omega, by omega⟩)) (by rw [Int.fdiv_eq_ediv_of_nonneg _ (by omega)] <;> rfl)) fun H2 e2 => ?_
    have e3 := e1.trans e2
    obtain ⟨c, hc⟩ := cnt_ex g (x - (x - ns.getD 0 0 - 1) / (ns.length : Int) * (ns.length : Int))
    have eb : byL ns x = _ := byL_eq g (isBy_of_cnt g hc)
    rw [eb] at k
    exact s_ret (ev_op (ev_call (ea_cons (ev_fld (ev_var rfl) (e3 p _ h1) T.cl T.nD lk_days) (ea_cons (ev_op (ev_var rfl) (ev_op (ev_var rfl) (ev_prop (ev_var rfl) (e3 p _ h1) (spv_length (t.mono e3))) (rv_I (.inr ⟨by omega, by omega⟩))) rv_I0) ea_nil)) (spv_many (ex_l e3 h2) g hc))
      (ev_op (ev_var rfl) (ev_prop (ev_var rfl) (e3 p _ h1) (spv_length (t.mono e3))) (rv_I (.inr ⟨by omega, by omega⟩))) rv_I0) fun H3 e4 => k H3 (e3.trans e4)
theorem ok_til {f f1 f2 : Addr} {fd fd1 fd2 : FuncData} (F : Fun K "til" "Table.til" s_Table_til f fd) (T : Txt P w K mg C SZ SY) (c_need_day : Cal P w K mg base "need_day" f1 fd1 ["value"] 2 sp_need_day)
    (m_by : Met P w K mg base C "by" f2 fd2 ["self", "day"] 3 (sp_by K C)) : FnOk P w K mg base CX0 4 f fd ["self", "day"] (sp_til K C) := by
  refine F.ok sc_Table_til (fun vs H Q E h => ?_) (fun cdv A outer s H vs Q E hr h => ?_)
  · obtain ⟨p, ns, x, rfl, _⟩ := h
    rfl
  · obtain ⟨p, ns, x, rfl, t, g, k⟩ := h
    obtain ⟨dx, l, h1, h2⟩ := id t
    refine ⟨_, (pss_cons (ps_expr (pe_call c_need_day.ok (hr.mono (by decide)) (by rfl) c_need_day.mgx c_need_day.kp c_need_day.bd .nil pass0 (pa_cons (pv 1) pa_nil))) (pss_one (ps_ret (pe_op op_sub (pe_meth (pv 0) T.cl m_by.me m_by.ok (hr.mono (by decide)) m_by.bd .nil pass0 (pa_cons (pe_op op_add (pv 1) pe_int) pa_nil)) pe_int)))), ?_⟩
    refine q_drop (ev_call (ea_cons (ev_var rfl) ea_nil) spv_need_day) fun H1 e1 => ?_
    exact s_ret (ev_op (ev_meth (ev_var rfl) (e1 p _ h1) rfl (ea_cons (ev_op (ev_var rfl) ev_c rv_I0) ea_nil) (spv_by (t.mono e1) g)) ev_c rv_I0) fun H2 e2 => k H2 (e1.trans e2)
end

end K25
end
section
set_option maxHeartbeats 4000000
namespace K25
open PySem L2 Evl G TM TD
/-! ### days of formulas -/
noncomputable def depth : Td → Nat
  | .lf _ _ => 0
  | .ov _ _ t => depth t + 1
  | .nt t => depth t + 1
  | .bi _ t u => max (depth t) (depth u) + 1
/-- its names and rules stand in the lists -/
noncomputable def Has (N R : List Str) : Td → Prop
  | .lf _ v => ∀ n, v = .str n → n ∈ N
  | .ov _ v t => (∀ r, v = .str r → r ∈ R) ∧ Has N R t
  | .nt t => Has N R t
  | .bi _ t u => Has N R t ∧ Has N R u
theorem Has.pcs {N R : List Str} : ∀ {t u : Td}, Has N R t → u ∈ TD.pcs t → Has N R u
  | .lf w v, u, h, hu => by cases List.mem_singleton.mp hu; exact h
  | .ov w v t, u, h, hu => by
    rcases List.mem_cons.mp hu with e | e
    · subst e; exact h
    · exact Has.pcs h.2 e
  | .nt t, u, h, hu => by
    rcases List.mem_cons.mp hu with e | e
    · subst e; exact h
    · exact Has.pcs (t := t) h e
  | .bi w t t2, u, h, hu => by
    rcases List.mem_cons.mp hu with e | e
    · subst e; exact h
    · rcases List.mem_append.mp e with e | e
      · exact Has.pcs h.1 e
      · exact Has.pcs h.2 e
theorem has_nms {N R : List Str} {t : Td} (h : Has N R t) (o : OkD t) (nc : NiceD t) : ∀ n ∈ nmsOf t, n ∈ N := by
  intro n hn
  obtain ⟨u, hu, rfl⟩ := List.mem_map.mp hn
  obtain ⟨h1, h2⟩ := List.mem_filter.mp hu
  obtain ⟨m, hm⟩ := (nc u h1).1 h2
  have hs : ownS u = m := by unfold ownS; rw [hm]
  have hw : word u = "day" := of_decide_eq_true h2
  have hk := (OkD.pcs o h1).ok
  have hh := Has.pcs h h1
  cases u with
  | lf w v =>
    have e : v = .str m := by have : [v] = [V.str m] := hm; simpa using this
    rw [hs]; exact hh m e
  | ov w v t =>
    exfalso
    have hw' : w = "day" := hw
    rcases hk with e | e | e | e <;> (rw [hw'] at e; exact absurd e (by decide))
  | nt t => cases hm
  | bi w t u => cases hm
theorem has_rls {N R : List Str} {t : Td} (h : Has N R t) (o : OkD t) (nc : NiceD t) : ∀ n ∈ rlsOf t, n ∈ R := by
  intro n hn
  obtain ⟨u, hu, rfl⟩ := List.mem_map.mp hn
  obtain ⟨h1, h2⟩ := List.mem_filter.mp hu
  obtain ⟨m, hm⟩ := (nc u h1).2 h2
  have hs : ownS u = m := by unfold ownS; rw [hm]
  have hw : word u ∈ (["on", "by", "til"] : List Str) := of_decide_eq_true h2
  have hk := (OkD.pcs o h1).ok
  have hh := Has.pcs h h1
  cases u with
  | lf w v =>
    exfalso
    have hw' : w ∈ (["on", "by", "til"] : List Str) := hw
    rcases hk with e | e <;> (rw [e] at hw'; exact absurd hw' (by decide))
  | ov w v t =>
    have e : v = .str m := by have : [v] = [V.str m] := hm; simpa using this
    rw [hs]; exact hh.1 m e
  | nt t => cases hm
  | bi w t u => cases hm
theorem valV_days {ds : Ds} {n : Str} (h : n ∈ ds.map (·.1)) : valV (keyed V.int ds) (kS n) = some (.int (dnOf ds n)) := by
  obtain ⟨v, hv, _⟩ := look_some h
  rw [valV_keyed, hv]
  unfold dnOf
  rw [hv] <;> rfl
theorem valV_world {ws : Ws} {r : Str} (h : r ∈ ws.map (·.1)) : ∃ q, (r, q) ∈ ws ∧ valV (keyed wV ws) (kS r) = some (.ref q.1) ∧ wdOf ws r = q.2 := by
  obtain ⟨q, hq, hm⟩ := look_some h
  refine ⟨q, hm, ?_, ?_⟩
  · rw [valV_keyed, hq] <;> rfl
  · unfold wdOf
    rw [hq] <;> rfl
noncomputable def sp_reckoned (K : PySem.W.Frag) (C : Addr) (n : Nat) : Sp := fun vs H Q _ => ∃ x t d ds r ws, vs = [x, .ref d, .ref r] ∧ At H x t ∧ IsF t ∧ depth t < n ∧ DaysAt H d ds ∧ WorldAt K C H r ws ∧ Has (ds.map (·.1)) (ws.map (·.1)) t ∧ RetV (.int (dayOf (dnOf ds) (wdOf ws) t)) H Q
theorem spv_reckoned {K : PySem.W.Frag} {C : Addr} {n : Nat} {x : V} {t : Td} {d r : Addr} {ds : Ds} {ws : Ws} {H : Hp} (h : At H x t) (k : IsF t) (hd : depth t < n) (a : DaysAt H d ds) (b : WorldAt K C H r ws) (c : Has (ds.map (·.1)) (ws.map (·.1)) t) :
    SpV (sp_reckoned K C n) ([x, .ref d, .ref r] ++ []) H (.int (dayOf (dnOf ds) (wdOf ws) t)) := fun H1 e Q q E => ⟨x, t, d, ds, r, ws, rfl, h.mono (Tu.ex e), k, hd, a.mono e, b.mono e, c, q⟩
/-- what is known of a def's name -/
structure Me (K : PySem.W.Frag) (mg : Str → Option Value) (x : Str) (f : Addr) (fd : FuncData) (ps : List Str) : Prop where
  mgx : mg x = some (.ref f)
  kp : PySem.W.keepIn K (.ref f) = true
  bd : Binds K fd ps []
section
variable {P : Program} {w : World} {K : PySem.W.Frag} {mg : Str → Option Value} {base : Heap} {C SZ SY : Addr}
theorem ok_reckoned {f f1 f2 f3 f4 : Addr} {fd fd1 fd2 fd3 fd4 : FuncData} (F : Fun K "reckoned" "reckoned" s_reckoned f fd) (T : Txt P w K mg C SZ SY) (me : Me K mg "reckoned" f fd ["formula", "days", "rules"]) (c_parts_of : Cal P w K mg base "parts_of" f1 fd1 ["told"] 1 sp_parts_of)
    (m_on : Met P w K mg base C "on" f2 fd2 ["self", "day"] 3 (sp_on K C)) (m_by : Met P w K mg base C "by" f3 fd3 ["self", "day"] 3 (sp_by K C)) (m_til : Met P w K mg base C "til" f4 fd4 ["self", "day"] 4 (sp_til K C)) :
    ∀ n, FnOk P w K mg base CX0 (n + 5) f fd ["formula", "days", "rules"] (sp_reckoned K C n) := by
  intro n
  induction n with
  | zero => exact ⟨fun vs H Q E h => by obtain ⟨x, t, d, ds, r, ws, _, _, _, hd, _⟩ := h; exact absurd hd (Nat.not_lt_zero _), fun A outer s H args us vs Q E _ _ _ _ h => by obtain ⟨x, t, d, ds, r, ws, _, _, _, hd, _⟩ := h; exact absurd hd (Nat.not_lt_zero _)⟩
  | succ n ih =>
  have c_reckoned : Cal P w K mg base "reckoned" f fd ["formula", "days", "rules"] (n + 5) (sp_reckoned K C n) := ⟨ih, me.mgx, me.kp, me.bd⟩
  refine F.ok (k := n + 5) sc_reckoned (fun vs H Q E h => ?_) (fun cdv A outer s H vs Q E hr h => ?_)
  · obtain ⟨x, t, d, ds, r, ws, rfl, _⟩ := h
    rfl
  · obtain ⟨x, t, d, ds, r, ws, rfl, ht, hF, hdep, hds, hws, hh, k⟩ := h
    refine ⟨_, (pss_cons (ps_set (i := 3) sc_reckoned.nd rfl (Or.inl rfl) (pe_ix (ixT (K := K) rfl) (pv 0) pe_int (fun _ _ => rfl))) (pss_cons (ps_if (pt_cmpR op_eq (pv 3) pe_str (nomark _)) (pss_one (ps_ret (pe_dgetR hr.units (pv 1) (pe_ix (ixT (K := K) rfl) (pv 0) pe_int (fun _ _ => rfl)) (fun _ _ => rfl)))) pss_nil) (pss_cons (ps_if (pt_cmpR op_eq (pv 3) pe_str (nomark _)) (pss_one (ps_ret (pe_ix (ixT (K := K) rfl) (pv 0) pe_int (fun _ _ => rfl)))) pss_nil) (pss_cons (ps_setLc (i := 4) (own := [("part", 5)]) (g := (gName 5)) (by rfl) sc_reckoned.nd rfl rfl (sw_true rfl rfl rfl (by decide +kernel)) (piT (K := K) rfl (pe_call c_parts_of.ok (hr.mono (by omega)) (by rfl) c_parts_of.mgx c_parts_of.kp c_parts_of.bd .nil pass0 (pa_cons (pv 0) pa_nil))) (blkOk_by (own := [("part", 5)]) (N := ["formula", "days", "rules", "word", "within", "part"]) (sc := defScope s_reckoned) (by decide +kernel)) (fun _ _ _ _ _ => (pg_name (i := 5) sc_reckoned.nd rfl (Or.inl rfl))) (fun _ _ _ _ _ => pts_nil) (fun _ _ _ _ _ => (pe_call c_reckoned.ok (hr.mono (by omega)) (by rfl) c_reckoned.mgx c_reckoned.kp c_reckoned.bd .nil pass0 (pa_cons (pv 5) (pa_cons (pv 1) (pa_cons (pv 2) pa_nil)))))) (pss_cons (ps_if (pt_cmpR op_eq (pv 3) pe_str (nomark _)) (pss_one (ps_ret (pe_meth (pe_dgetR hr.units (pv 2) (pe_ix (ixT (K := K) rfl) (pv 0) pe_int (fun _ _ => rfl)) (fun _ _ => rfl)) T.cl m_on.me m_on.ok (hr.mono (by omega)) m_on.bd .nil pass0 (pa_cons (pe_ix (ixL (K := K) rfl) (pv 4) pe_int (fun _ _ => rfl)) pa_nil)))) pss_nil) (pss_cons (ps_if (pt_cmpR op_eq (pv 3) pe_str (nomark _)) (pss_one (ps_ret (pe_meth (pe_dgetR hr.units (pv 2) (pe_ix (ixT (K := K) rfl) (pv 0) pe_int (fun _ _ => rfl)) (fun _ _ => rfl)) T.cl m_by.me m_by.ok (hr.mono (by omega)) m_by.bd .nil pass0 (pa_cons (pe_ix (ixL (K := K) rfl) (pv 4) pe_int (fun _ _ => rfl)) pa_nil)))) pss_nil) (pss_cons (ps_if (pt_cmpR op_eq (pv 3) pe_str (nomark _)) (pss_one (ps_ret (pe_meth (pe_dgetR hr.units (pv 2) (pe_ix (ixT (K := K) rfl) (pv 0) pe_int (fun _ _ => rfl)) (fun _ _ => rfl)) T.cl m_til.me m_til.ok (hr.mono (by omega)) m_til.bd .nil pass0 (pa_cons (pe_ix (ixL (K := K) rfl) (pv 4) pe_int (fun _ _ => rfl)) pa_nil)))) pss_nil) (pss_cons (ps_if (pt_cmpR op_eq (pv 3) pe_str (nomark _)) (pss_one (ps_ret (pe_op op_add (pe_ix (ixL (K := K) rfl) (pv 4) pe_int (fun _ _ => rfl)) (pe_ix (ixT (K := K) rfl) (pv 0) pe_int (fun _ _ => rfl))))) pss_nil) (pss_one (ps_ret (pe_ifExp (pt_cmpR op_eq (pv 3) pe_str (nomark _)) (pe_callB (maxL (K := K) rfl rfl) (by rfl) T.b_max (by decide +kernel) (pa_cons (pv 4) pa_nil)) (pe_callB (minL (K := K) rfl rfl) (by rfl) T.b_min (by decide +kernel) (pa_cons (pv 4) pa_nil))))))))))))), ?_⟩
    refine q_asg (ev_wordA (K := K) (ev_var rfl) ht) fun H1 e1 => ?_
    have a1 : At H1 x t := ht.mono (Tu.ex e1)
    have tw : ∀ (σ : L2.St) (H2 : Hp) (z : Str), σ[3]? = some (some (V.str (word t))) → EvT (tTest (tOp rEq (tVar 3) (tC (.str z)))) σ H2 (decide (word t = z)) := fun σ H2 z hv => et_is (et_test (ev_op (ev_var hv) ev_c (rv_eq rfl))) (dec_str _ _)
    cases t with
    | lf w v =>
      rcases hF with ⟨e, m, _, rfl⟩ | ⟨e, i, rfl⟩
      · subst e
        refine q_when (b := true) (tw _ _ _ rfl) (fun _ H2 e2 => ?_) (fun z => by cases z)
        exact s_ret (ev_dget (k := kS m) (ev_var rfl) (ev_ownA (K := K) (ev_var rfl) (a1.mono (Tu.ex e2)) rfl) ((hds.mono (e1.trans e2)).1) (valV_days (hh m rfl))) fun H3 e3 => k H3 ((e1.trans e2).trans e3)
      · subst e
        refine q_when (b := false) (tw _ _ _ rfl) (fun z => by cases z) (fun _ H2 e2 => ?_)
        refine q_when (b := true) (tw _ _ _ rfl) (fun _ H3 e3 => ?_) (fun z => by cases z)
        exact s_ret (ev_ownA (K := K) (ev_var rfl) (a1.mono (Tu.ex (e2.trans e3))) rfl) fun H4 e4 => k H4 (((e1.trans e2).trans e3).trans e4)
    | ov w v t =>
      have hk : IsF t := hF.2
      have hdt : depth t < n := Nat.lt_of_succ_lt_succ hdep
      have n1 : decide (w = "day") = false := by
        rcases hF.1 with ⟨h, _⟩ | ⟨h, _⟩
        · rcases turn_cases h with e | e | e <;> (subst e; decide)
        · subst h; decide
      have n2 : decide (w = "num") = false := by
        rcases hF.1 with ⟨h, _⟩ | ⟨h, _⟩
        · rcases turn_cases h with e | e | e <;> (subst e; decide)
        · subst h; decide
      refine q_when (b := decide (w = "day")) (tw _ _ _ rfl) (fun z => by rw [n1] at z; cases z) (fun _ H2 e2 => ?_)
      refine q_when (b := decide (w = "num")) (tw _ _ _ rfl) (fun z => by rw [n2] at z; cases z) (fun _ H3 e3 => ?_)
      have e03 := (e1.trans e2).trans e3
      have a3 := a1.mono (Tu.ex (e2.trans e3))
      refine q_asgL (xs := [V.int (dayOf (dnOf ds) (wdOf ws) t)]) (el_lcKs (K := K) (ts := [t]) (j := 5) (vs := [5]) (fun _ => true) (fun u => V.int (dayOf (dnOf ds) (wdOf ws) u)) (eks_call (ea_cons (ev_var rfl) ea_nil) (spk_parts_of a3 hF.okD.ok)) (by show 1 ≤ 40000; decide) (fun _ => rfl) (fun _ _ _ _ _ _ => lc_yes) (fun y u H4 e4 hy hu _ => by
        cases List.mem_singleton.mp hu
        exact ev_call (ea_cons (ev_var (i := 5) rfl) (ea_cons (ev_var (i := 1) rfl) (ea_cons (ev_var (i := 2) rfl) ea_nil))) (spv_reckoned hy hk hdt (hds.mono (e03.trans e4)) (hws.mono (e03.trans e4)) hh.2))) fun pl H4 hpl e4 h4 => ?_
      have w0 : ∀ (σ : L2.St) H5, σ[4]? = some (some (.ref pl)) → H5 pl = some (.lst [V.int (dayOf (dnOf ds) (wdOf ws) t)]) → Ev (tOp (rIxL K) (tVar 4) (tC (.int 0))) σ H5 (.int (dayOf (dnOf ds) (wdOf ws) t)) := fun σ H5 hv h5 => ev_op (ev_var hv) ev_c (rv_ixL (sq_of h5) (atI_nat (j := 0) rfl))
      have e04 := e03.trans e4
      have a4 := a3.mono (Tu.ex e4)
      rcases hF.1 with ⟨hw, rl, hrl, rfl⟩ | ⟨hw, i, rfl⟩
      · obtain ⟨q, hq, hv, hwd⟩ := valV_world (hh.1 rl rfl)
        obtain ⟨hr1, hg, htab⟩ := hws.2.1 _ hq
        obtain ⟨dx, l, hp1, _⟩ := id htab
        have sc : dayOf (dnOf ds) (wdOf ws) (.ov w (.str rl) t) = if w = "on" then onL q.2 (dayOf (dnOf ds) (wdOf ws) t) else if w = "by" then byL q.2 (dayOf (dnOf ds) (wdOf ws) t) else tilL q.2 (dayOf (dnOf ds) (wdOf ws) t) := by
          rw [← hwd] <;> rfl
        have ob : ∀ (σ : L2.St) H5, Ex H H5 → At H5 x (.ov w (.str rl) t) → σ[0]? = some (some x) → σ[2]? = some (some (.ref r)) → Ev (tDGet (tVar 2) (tOp (rIxT K) (tVar 0) (tC (.int 1)))) σ H5 (.ref q.1) := fun σ H5 e5 a5 v0 v2 => ev_dget (k := kS rl) (ev_var v2) (ev_ownA (K := K) (ev_var v0) a5 rfl) (hws.mono e5).1 hv
        rw [sc] at k
        rcases turn_cases hw with e | e | e
        · subst e
          refine q_when (b := true) (tw _ _ _ rfl) (fun _ H5 e5 => ?_) (fun z => by cases z)
          exact s_ret (ev_meth (ob _ _ (e04.trans e5) (a4.mono (Tu.ex e5)) rfl rfl) ((e04.trans e5) _ _ hp1) rfl (ea_cons (w0 _ _ rfl (e5 pl _ h4)) ea_nil) (spv_on (htab.mono (e04.trans e5)) hg)) fun H6 e6 => k H6 ((e04.trans e5).trans e6)
        · subst e
          refine q_when (b := false) (tw _ _ _ rfl) (fun z => by cases z) (fun _ H5 e5 => ?_)
          refine q_when (b := true) (tw _ _ _ rfl) (fun _ H6 e6 => ?_) (fun z => by cases z)
          have e06 := (e04.trans e5).trans e6
          exact s_ret (ev_meth (ob _ _ e06 (a4.mono (Tu.ex (e5.trans e6))) rfl rfl) (e06 _ _ hp1) rfl (ea_cons (w0 _ _ rfl ((e5.trans e6) pl _ h4)) ea_nil) (spv_by (htab.mono e06) hg)) fun H7 e7 => k H7 (e06.trans e7)
        · subst e
          refine q_when (b := false) (tw _ _ _ rfl) (fun z => by cases z) (fun _ H5 e5 => ?_)
          refine q_when (b := false) (tw _ _ _ rfl) (fun z => by cases z) (fun _ H6 e6 => ?_)
          refine q_when (b := true) (tw _ _ _ rfl) (fun _ H7 e7 => ?_) (fun z => by cases z)
          have e07 := ((e04.trans e5).trans e6).trans e7
          exact s_ret (ev_meth (ob _ _ e07 (a4.mono (Tu.ex ((e5.trans e6).trans e7))) rfl rfl) (e07 _ _ hp1) rfl (ea_cons (w0 _ _ rfl (((e5.trans e6).trans e7) pl _ h4)) ea_nil) (spv_til (htab.mono e07) hg)) fun H8 e8 => k H8 (e07.trans e8)
      · subst hw
        refine q_when (b := false) (tw _ _ _ rfl) (fun z => by cases z) (fun _ H5 e5 => ?_)
        refine q_when (b := false) (tw _ _ _ rfl) (fun z => by cases z) (fun _ H6 e6 => ?_)
        refine q_when (b := false) (tw _ _ _ rfl) (fun z => by cases z) (fun _ H7 e7 => ?_)
        refine q_when (b := true) (tw _ _ _ rfl) (fun _ H8 e8 => ?_) (fun z => by cases z)
        have e08 := (((e04.trans e5).trans e6).trans e7).trans e8
        exact s_ret (ev_op (w0 _ _ rfl ((((e5.trans e6).trans e7).trans e8) pl _ h4)) (ev_ownA (K := K) (ev_var rfl) (a4.mono (Tu.ex (((e5.trans e6).trans e7).trans e8))) rfl) rv_I0) fun H9 e9 => k H9 (e08.trans e9)
    | nt t => exact hF.elim
    | bi w t u =>
      obtain ⟨hw, hk1, hk2⟩ := hF
      have hd1 : depth t < n := by have := Nat.lt_of_succ_lt_succ hdep; omega
      have hd2 : depth u < n := by have := Nat.lt_of_succ_lt_succ hdep; omega
      have nn : ∀ z : Str, z ∈ (["day", "num", "on", "by", "til", "add"] : List Str) → decide (w = z) = false := fun z hz => decide_eq_false fun q => by
        rw [← q] at hz
        rcases hw with e | e <;> (rw [e] at hz; exact absurd hz (by decide))
      refine q_when (b := decide (w = "day")) (tw _ _ _ rfl) (fun z => by rw [nn _ (by decide)] at z; cases z) (fun _ H2 e2 => ?_)
      refine q_when (b := decide (w = "num")) (tw _ _ _ rfl) (fun z => by rw [nn _ (by decide)] at z; cases z) (fun _ H3 e3 => ?_)
      have e03 := (e1.trans e2).trans e3
      have a3 := a1.mono (Tu.ex (e2.trans e3))
      refine q_asgL (xs := [V.int (dayOf (dnOf ds) (wdOf ws) t), V.int (dayOf (dnOf ds) (wdOf ws) u)]) (el_lcKs (K := K) (ts := [t, u]) (j := 5) (vs := [5]) (fun _ => true) (fun u => V.int (dayOf (dnOf ds) (wdOf ws) u)) (eks_call (ea_cons (ev_var rfl) ea_nil) (spk_parts_of a3 (hw.imp id .inl))) (by show 2 ≤ 40000; decide) (fun _ => rfl) (fun _ _ _ _ _ _ => lc_yes) (fun y v H4 e4 hy hu _ => by
        rcases List.mem_cons.mp hu with e | hu
        · subst e
          exact ev_call (ea_cons (ev_var (i := 5) rfl) (ea_cons (ev_var (i := 1) rfl) (ea_cons (ev_var (i := 2) rfl) ea_nil))) (spv_reckoned hy hk1 hd1 (hds.mono (e03.trans e4)) (hws.mono (e03.trans e4)) hh.1)
        · cases List.mem_singleton.mp hu
          exact ev_call (ea_cons (ev_var (i := 5) rfl) (ea_cons (ev_var (i := 1) rfl) (ea_cons (ev_var (i := 2) rfl) ea_nil))) (spv_reckoned hy hk2 hd2 (hds.mono (e03.trans e4)) (hws.mono (e03.trans e4)) hh.2))) fun pl H4 hpl e4 h4 => ?_
      refine q_when (b := decide (w = "on")) (tw _ _ _ rfl) (fun z => by rw [nn _ (by decide)] at z; cases z) (fun _ H5 e5 => ?_)
      refine q_when (b := decide (w = "by")) (tw _ _ _ rfl) (fun z => by rw [nn _ (by decide)] at z; cases z) (fun _ H6 e6 => ?_)
      refine q_when (b := decide (w = "til")) (tw _ _ _ rfl) (fun z => by rw [nn _ (by decide)] at z; cases z) (fun _ H7 e7 => ?_)
      refine q_when (b := decide (w = "add")) (tw _ _ _ rfl) (fun z => by rw [nn _ (by decide)] at z; cases z) (fun _ H8 e8 => ?_)
      have e48 := ((e5.trans e6).trans e7).trans e8
      have h8 : H8 pl = some (.lst ([dayOf (dnOf ds) (wdOf ws) t, dayOf (dnOf ds) (wdOf ws) u].map V.int)) := e48 pl _ h4
      refine s_ret (v := .int (dayOf (dnOf ds) (wdOf ws) (.bi w t u))) (ev_if (b := decide (w = "late")) (tw _ _ _ rfl) (fun z => ?_) (fun z => ?_)) fun H9 e9 => k H9 (((e03.trans e4).trans e48).trans e9)
      · have e : w = "late" := of_decide_eq_true z
        have sc : dayOf (dnOf ds) (wdOf ws) (.bi w t u) = if dayOf (dnOf ds) (wdOf ws) u > dayOf (dnOf ds) (wdOf ws) t then dayOf (dnOf ds) (wdOf ws) u else dayOf (dnOf ds) (wdOf ws) t := by
          show (if w = "late" then _ else _) = _
          rw [if_pos e]
        rw [sc]
        refine ev_cb (ea_cons (ev_var rfl) ea_nil) (rc_max (sq_of h8) ?_ ?_)
        · split <;> simp
        · intro y hy
          simp only [List.mem_cons, List.not_mem_nil, or_false] at hy
          split <;> omega
      · have e : ¬ w = "late" := of_decide_eq_false z
        have sc : dayOf (dnOf ds) (wdOf ws) (.bi w t u) = if dayOf (dnOf ds) (wdOf ws) u < dayOf (dnOf ds) (wdOf ws) t then dayOf (dnOf ds) (wdOf ws) u else dayOf (dnOf ds) (wdOf ws) t := by
          show (if w = "late" then _ else _) = _
          rw [if_neg e]
        rw [sc]
        refine ev_cb (ea_cons (ev_var rfl) ea_nil) (rc_min (sq_of h8) ?_ ?_)
        · split <;> simp
        · intro y hy
          simp only [List.mem_cons, List.not_mem_nil, or_false] at hy
          split <;> omega
end
end K25
end
section
set_option maxHeartbeats 4000000
namespace K25
open PySem L2 Evl G TM TD
noncomputable def sp_is_so (K : PySem.W.Frag) (C : Addr) (n : Nat) : Sp := fun vs H Q _ => ∃ x t d ds r ws, vs = [x, .ref d, .ref r] ∧ At H x t ∧ IsS t ∧ depth t < n ∧ depth t < 10 ∧ DaysAt H d ds ∧ WorldAt K C H r ws ∧ Has (ds.map (·.1)) (ws.map (·.1)) t ∧ RetV (.bl (soOf (dnOf ds) (wdOf ws) t)) H Q
theorem spv_is_so {K : PySem.W.Frag} {C : Addr} {n : Nat} {x : V} {t : Td} {d r : Addr} {ds : Ds} {ws : Ws} {H : Hp} (h : At H x t) (k : IsS t) (hd : depth t < n) (h10 : depth t < 10) (a : DaysAt H d ds) (b : WorldAt K C H r ws) (c : Has (ds.map (·.1)) (ws.map (·.1)) t) :
    SpV (sp_is_so K C n) ([x, .ref d, .ref r] ++ []) H (.bl (soOf (dnOf ds) (wdOf ws) t)) := fun H1 e Q q E => ⟨x, t, d, ds, r, ws, rfl, h.mono (Tu.ex e), k, hd, h10, a.mono e, b.mono e, c, q⟩
noncomputable def sp_day_of (K : PySem.W.Frag) (C : Addr) : Sp := fun vs H Q _ => ∃ x t d ds r ws, vs = [x, .ref d, .ref r] ∧ At H x t ∧ IsF t ∧ depth t < 10 ∧ (pcs t).length ≤ 60 ∧ DaysAt H d ds ∧ WorldAt K C H r ws ∧ Has (ds.map (·.1)) (ws.map (·.1)) t ∧ RetV (.int (dayOf (dnOf ds) (wdOf ws) t)) H Q
noncomputable def sp_holds (K : PySem.W.Frag) (C : Addr) : Sp := fun vs H Q _ => ∃ x t d ds r ws, vs = [x, .ref d, .ref r] ∧ At H x t ∧ IsS t ∧ depth t < 10 ∧ (pcs t).length ≤ 60 ∧ DaysAt H d ds ∧ WorldAt K C H r ws ∧ Has (ds.map (·.1)) (ws.map (·.1)) t ∧ RetV (.bl (soOf (dnOf ds) (wdOf ws) t)) H Q
theorem spv_holds {K : PySem.W.Frag} {C : Addr} {x : V} {t : Td} {d r : Addr} {ds : Ds} {ws : Ws} {H : Hp} (h : At H x t) (k : IsS t) (hd : depth t < 10) (hz : (pcs t).length ≤ 60) (a : DaysAt H d ds) (b : WorldAt K C H r ws) (c : Has (ds.map (·.1)) (ws.map (·.1)) t) :
    SpV (sp_holds K C) ([x, .ref d, .ref r] ++ []) H (.bl (soOf (dnOf ds) (wdOf ws) t)) := fun H1 e Q q E => ⟨x, t, d, ds, r, ws, rfl, h.mono (Tu.ex e), k, hd, hz, a.mono e, b.mono e, c, q⟩
theorem some_keyed {α : Type} {g : α → V} {ds : List (Str × α)} {x : Str} (h : x ∈ ds.map (·.1)) : (valV (keyed g ds) (kS x)).isSome = true := by
  obtain ⟨v, hv, _⟩ := look_some h
  rw [valV_keyed, hv]
  rfl
section
variable {P : Program} {w : World} {K : PySem.W.Frag} {mg : Str → Option Value} {base : Heap} {C SZ SY : Addr}
theorem ok_is_so {f f1 : Addr} {fd fd1 : FuncData} (F : Fun K "is_so" "is_so" s_is_so f fd) (T : Txt P w K mg C SZ SY) (me : Me K mg "is_so" f fd ["saying", "days", "rules"]) (c_reckoned : Cal P w K mg base "reckoned" f1 fd1 ["formula", "days", "rules"] 15 (sp_reckoned K C 10)) :
    ∀ n, FnOk P w K mg base CX0 (n + 16) f fd ["saying", "days", "rules"] (sp_is_so K C n) := by
  intro n
  induction n with
  | zero => exact ⟨fun vs H Q E h => by obtain ⟨x, t, d, ds, r, ws, _, _, _, hd, _⟩ := h; exact absurd hd (Nat.not_lt_zero _), fun A outer s H args us vs Q E _ _ _ _ h => by obtain ⟨x, t, d, ds, r, ws, _, _, _, hd, _⟩ := h; exact absurd hd (Nat.not_lt_zero _)⟩
  | succ n ih =>
  have c_is_so : Cal P w K mg base "is_so" f fd ["saying", "days", "rules"] (n + 16) (sp_is_so K C n) := ⟨ih, me.mgx, me.kp, me.bd⟩
  refine F.ok (k := n + 16) sc_is_so (fun vs H Q E h => ?_) (fun cdv A outer s H vs Q E hr h => ?_)
  · obtain ⟨x, t, d, ds, r, ws, rfl, _⟩ := h
    rfl
  · obtain ⟨x, t, d, ds, r, ws, rfl, ht, hS, hdep, h10, hds, hws, hh, k⟩ := h
    refine ⟨_, (pss_cons (ps_set (i := 3) sc_is_so.nd rfl (Or.inl rfl) (pe_ix (ixT (K := K) rfl) (pv 0) pe_int (fun _ _ => rfl))) (pss_cons (ps_if (pt_cmpR op_eq (pv 3) pe_str (nomark _)) (pss_one (ps_ret (pe_cmpR op_le (pe_call c_reckoned.ok (hr.mono (by omega)) (by rfl) c_reckoned.mgx c_reckoned.kp c_reckoned.bd .nil pass0 (pa_cons (pe_ix (ixT (K := K) rfl) (pv 0) pe_int (fun _ _ => rfl)) (pa_cons (pv 1) (pa_cons (pv 2) pa_nil)))) (pe_call c_reckoned.ok (hr.mono (by omega)) (by rfl) c_reckoned.mgx c_reckoned.kp c_reckoned.bd .nil pass0 (pa_cons (pe_ix (ixT (K := K) rfl) (pv 0) pe_int (fun _ _ => rfl)) (pa_cons (pv 1) (pa_cons (pv 2) pa_nil)))) (nomark _)))) pss_nil) (pss_cons (ps_if (pt_cmpR op_eq (pv 3) pe_str (nomark _)) (pss_one (ps_ret (pe_not (pe_call c_is_so.ok (hr.mono (by omega)) (by rfl) c_is_so.mgx c_is_so.kp c_is_so.bd .nil pass0 (pa_cons (pe_ix (ixT (K := K) rfl) (pv 0) pe_int (fun _ _ => rfl)) (pa_cons (pv 1) (pa_cons (pv 2) pa_nil))))))) pss_nil) (pss_cons (ps_if (pt_cmpR op_eq (pv 3) pe_str (nomark _)) (pss_one (ps_ret (pe_and (pe_call c_is_so.ok (hr.mono (by omega)) (by rfl) c_is_so.mgx c_is_so.kp c_is_so.bd .nil pass0 (pa_cons (pe_ix (ixT (K := K) rfl) (pv 0) pe_int (fun _ _ => rfl)) (pa_cons (pv 1) (pa_cons (pv 2) pa_nil)))) (pe_one (pe_call c_is_so.ok (hr.mono (by omega)) (by rfl) c_is_so.mgx c_is_so.kp c_is_so.bd .nil pass0 (pa_cons (pe_ix (ixT (K := K) rfl) (pv 0) pe_int (fun _ _ => rfl)) (pa_cons (pv 1) (pa_cons (pv 2) pa_nil)))))))) pss_nil) (pss_one (ps_ret (pe_or (pe_call c_is_so.ok (hr.mono (by omega)) (by rfl) c_is_so.mgx c_is_so.kp c_is_so.bd .nil pass0 (pa_cons (pe_ix (ixT (K := K) rfl) (pv 0) pe_int (fun _ _ => rfl)) (pa_cons (pv 1) (pa_cons (pv 2) pa_nil)))) (pe_one (pe_call c_is_so.ok (hr.mono (by omega)) (by rfl) c_is_so.mgx c_is_so.kp c_is_so.bd .nil pass0 (pa_cons (pe_ix (ixT (K := K) rfl) (pv 0) pe_int (fun _ _ => rfl)) (pa_cons (pv 1) (pa_cons (pv 2) pa_nil)))))))))))), ?_⟩
    refine q_asg (ev_wordA (K := K) (ev_var rfl) ht) fun H1 e1 => ?_
    have a1 : At H1 x t := ht.mono (Tu.ex e1)
    have tw : ∀ (σ : L2.St) (H2 : Hp) (z : Str), σ[3]? = some (some (V.str (word t))) → EvT (tTest (tOp rEq (tVar 3) (tC (.str z)))) σ H2 (decide (word t = z)) := fun σ H2 z hv => et_is (et_test (ev_op (ev_var hv) ev_c (rv_eq rfl))) (dec_str _ _)
    cases t with
    | lf w v => exact hS.elim
    | ov w v t => exact hS.elim
    | nt t =>
      obtain ⟨a, y, rfl, ha, hy⟩ := a1
      have hdt : depth t < n := Nat.lt_of_succ_lt_succ hdep
      have hdt10 : depth t < 10 := Nat.lt_of_succ_lt h10
      have n1 : decide (("not" : Str) = "le") = false := by decide
      have n2 : decide (("not" : Str) = "not") = true := by decide
      refine q_when (b := decide (("not" : Str) = "le")) (tw _ _ _ rfl) (fun z => by rw [n1] at z; cases z) (fun _ H2 e2 => ?_)
      refine q_when (b := decide (("not" : Str) = "not")) (tw _ _ _ rfl) (fun _ H3 e3 => ?_) (fun z => by rw [n2] at z; cases z)
      have e03 := (e1.trans e2).trans e3
      exact s_ret (ev_notV (ev_call (ea_cons (ev_at1 (K := K) (ev_var rfl) ((e2.trans e3) a _ ha)) (ea_cons (ev_var rfl) (ea_cons (ev_var rfl) ea_nil))) (spv_is_so (hy.mono (Tu.ex (e2.trans e3))) hS hdt hdt10 (hds.mono e03) (hws.mono e03) hh))) fun H4 e4 => k H4 (e03.trans e4)
    | bi w t u =>
      obtain ⟨a, y, z, rfl, ha, hy, hz⟩ := a1
      have hm := Nat.lt_of_succ_lt_succ hdep
      have hm10 : max (depth t) (depth u) + 1 < 10 := h10
      rcases hS with ⟨e, hF1, hF2⟩ | ⟨hw, hS1, hS2⟩
      · subst e
        have n1 : decide (("le" : Str) = "le") = true := by decide
        refine q_when (b := decide (("le" : Str) = "le")) (tw _ _ _ rfl) (fun _ H2 e2 => ?_) (fun z => by rw [n1] at z; cases z)
        have e02 := e1.trans e2
        refine s_ret (ev_is (ev_op (ev_call (ea_cons (ev_at1 (K := K) (ev_var rfl) (e2 a _ ha)) (ea_cons (ev_var rfl) (ea_cons (ev_var rfl) ea_nil))) (spv_reckoned (hy.mono (Tu.ex e2)) hF1 (by omega) (hds.mono e02) (hws.mono e02) hh.1)) (ev_call (ea_cons (ev_at2 (K := K) (ev_var rfl) (e2 a _ ha)) (ea_cons (ev_var rfl) (ea_cons (ev_var rfl) ea_nil))) (spv_reckoned (hz.mono (Tu.ex e2)) hF2 (by omega) (hds.mono e02) (hws.mono e02) hh.2)) rv_I0) (w := .bl (soOf (dnOf ds) (wdOf ws) (.bi "le" t u))) ?_) fun H3 e3 => k H3 (e02.trans e3)
        show V.bl _ = V.bl (if ("le" : Str) = "le" then _ else _)
        rw [if_pos rfl]
      · have n1 : decide (w = "le") = false := by rcases hw with e | e <;> (subst e; decide)
        have n2 : decide (w = "not") = false := by rcases hw with e | e <;> (subst e; decide)
        refine q_when (b := decide (w = "le")) (tw _ _ _ rfl) (fun z => by rw [n1] at z; cases z) (fun _ H2 e2 => ?_)
        refine q_when (b := decide (w = "not")) (tw _ _ _ rfl) (fun z => by rw [n2] at z; cases z) (fun _ H3 e3 => ?_)
        have e03 := (e1.trans e2).trans e3
        have nl : ¬ w = "le" := of_decide_eq_false n1
        have c1 : ∀ H4, Ex H3 H4 → Ev (tCall (sp_is_so K C n) [] E0 (tCons (tOp (rIxT K) (tVar 0) (tC (.int 1))) (tCons (tVar 1) (tCons (tVar 2) tNil)))) [some (.ref a), some (.ref d), some (.ref r), some (.str w)] H4 (.bl (soOf (dnOf ds) (wdOf ws) t)) := fun H4 e4 =>
          ev_call (ea_cons (ev_at1 (K := K) (ev_var rfl) (((e2.trans e3).trans e4) a _ ha)) (ea_cons (ev_var rfl) (ea_cons (ev_var rfl) ea_nil))) (spv_is_so (hy.mono (Tu.ex ((e2.trans e3).trans e4))) hS1 (by omega) (by omega) (hds.mono (e03.trans e4)) (hws.mono (e03.trans e4)) hh.1)
        have c2 : ∀ H4, Ex H3 H4 → Ev (tCall (sp_is_so K C n) [] E0 (tCons (tOp (rIxT K) (tVar 0) (tC (.int 2))) (tCons (tVar 1) (tCons (tVar 2) tNil)))) [some (.ref a), some (.ref d), some (.ref r), some (.str w)] H4 (.bl (soOf (dnOf ds) (wdOf ws) u)) := fun H4 e4 =>
          ev_call (ea_cons (ev_at2 (K := K) (ev_var rfl) (((e2.trans e3).trans e4) a _ ha)) (ea_cons (ev_var rfl) (ea_cons (ev_var rfl) ea_nil))) (spv_is_so (hz.mono (Tu.ex ((e2.trans e3).trans e4))) hS2 (by omega) (by omega) (hds.mono (e03.trans e4)) (hws.mono (e03.trans e4)) hh.2)
        rcases hw with e | e
        · subst e
          have n3 : decide (("and" : Str) = "and") = true := by decide
          refine q_when (b := decide (("and" : Str) = "and")) (tw _ _ _ rfl) (fun _ H4 e4 => ?_) (fun z => by rw [n3] at z; cases z)
          refine s_ret (ev_is (ev_andV (c1 H4 e4) fun _ => c2 H4 e4) (w := .bl (soOf (dnOf ds) (wdOf ws) (.bi "and" t u))) ?_) fun H5 e5 => k H5 ((e03.trans e4).trans e5)
          show V.bl _ = V.bl (if ("and" : Str) = "le" then _ else if ("and" : Str) = "and" then _ else _)
          rw [if_neg nl, if_pos rfl]
        · subst e
          have n3 : decide (("or" : Str) = "and") = false := by decide
          refine q_when (b := decide (("or" : Str) = "and")) (tw _ _ _ rfl) (fun z => by rw [n3] at z; cases z) (fun _ H4 e4 => ?_)
          refine s_ret (ev_is (ev_orV (c1 H4 e4) fun _ => c2 H4 e4) (w := .bl (soOf (dnOf ds) (wdOf ws) (.bi "or" t u))) ?_) fun H5 e5 => k H5 ((e03.trans e4).trans e5)
          show V.bl _ = V.bl (if ("or" : Str) = "le" then _ else if ("or" : Str) = "and" then _ else _)
          rw [if_neg nl, if_neg (of_decide_eq_false n3)]
theorem ok_holds {f f1 f2 f3 f4 f5 : Addr} {fd fd1 fd2 fd3 fd4 fd5 : FuncData} (F : Fun K "holds" "holds" s_holds f fd) (T : Txt P w K mg C SZ SY) (c_need_saying : Cal P w K mg base "need_saying" f1 fd1 ["value"] 5 sp_need_saying) (c_need_days : Cal P w K mg base "need_days" f2 fd2 ["value"] 3 sp_need_days)
    (c_need_world : Cal P w K mg base "need_world" f3 fd3 ["value"] 3 (sp_need_world K C)) (c_need_known : Cal P w K mg base "need_known" f4 fd4 ["told", "days", "world"] 5 sp_need_known) (c_is_so : Cal P w K mg base "is_so" f5 fd5 ["saying", "days", "rules"] 26 (sp_is_so K C 10)) : FnOk P w K mg base CX0 27 f fd ["saying", "days", "world"] (sp_holds K C) := by
  refine F.ok sc_holds (fun vs H Q E h => ?_) (fun cdv A outer s H vs Q E hr h => ?_)
  · obtain ⟨x, t, d, ds, r, ws, rfl, _⟩ := h
    rfl
  · obtain ⟨x, t, d, ds, r, ws, rfl, ht, hS, hdep, hz, hds, hws, hh, k⟩ := h
    refine ⟨_, (pss_cons (ps_expr (pe_call c_need_saying.ok (hr.mono (by decide)) (by rfl) c_need_saying.mgx c_need_saying.kp c_need_saying.bd .nil pass0 (pa_cons (pv 0) pa_nil))) (pss_cons (ps_expr (pe_call c_need_days.ok (hr.mono (by decide)) (by rfl) c_need_days.mgx c_need_days.kp c_need_days.bd .nil pass0 (pa_cons (pv 1) pa_nil))) (pss_cons (ps_expr (pe_call c_need_world.ok (hr.mono (by decide)) (by rfl) c_need_world.mgx c_need_world.kp c_need_world.bd .nil pass0 (pa_cons (pv 2) pa_nil))) (pss_cons (ps_expr (pe_call c_need_known.ok (hr.mono (by decide)) (by rfl) c_need_known.mgx c_need_known.kp c_need_known.bd .nil pass0 (pa_cons (pv 0) (pa_cons (pv 1) (pa_cons (pv 2) pa_nil))))) (pss_one (ps_ret (pe_call c_is_so.ok (hr.mono (by decide)) (by rfl) c_is_so.mgx c_is_so.kp c_is_so.bd .nil pass0 (pa_cons (pv 0) (pa_cons (pv 1) (pa_cons (pv 2) pa_nil)))))))))), ?_⟩
    refine q_drop (ev_call (ea_cons (ev_var rfl) ea_nil) (spv_need_saying ht (by omega) hS)) fun H1 e1 => ?_
    refine q_drop (ev_call (ea_cons (ev_var rfl) ea_nil) (spv_need_days (hds.mono e1))) fun H2 e2 => ?_
    refine q_drop (ev_call (ea_cons (ev_var rfl) ea_nil) (spv_need_world (hws.mono (e1.trans e2)))) fun H3 e3 => ?_
    have e03 := (e1.trans e2).trans e3
    refine q_drop (ev_call (ea_cons (ev_var rfl) (ea_cons (ev_var rfl) (ea_cons (ev_var rfl) ea_nil))) (spv_need_known (ht.mono (Tu.ex e03)) hS.okD (IsS.nice hS) hz (hds.mono e03).1 (fun n hn => some_keyed (has_nms hh hS.okD (IsS.nice hS) n hn)) (hws.mono e03).1 (fun n hn => some_keyed (has_rls hh hS.okD (IsS.nice hS) n hn)))) fun H4 e4 => ?_
    have e04 := e03.trans e4
    exact s_ret (ev_call (ea_cons (ev_var rfl) (ea_cons (ev_var rfl) (ea_cons (ev_var rfl) ea_nil))) (spv_is_so (ht.mono (Tu.ex e04)) hS hdep hdep (hds.mono e04) (hws.mono e04) hh)) fun H5 e5 => k H5 (e04.trans e5)
end
end K25
end
section
set_option maxHeartbeats 4000000
namespace K25
open PySem L2 Evl G TM TD
noncomputable def wo (H : Hp) (p : Addr) : Hp := fun b => if b = p then none else H b
theorem wo_ne {H : Hp} {p b : Addr} (h : b ≠ p) : wo H p b = H b := by unfold wo; rw [if_neg h]
theorem wo_at {H : Hp} {p : Addr} : wo H p p = none := by unfold wo; rw [if_pos rfl]
theorem wo_ex {H : Hp} {p : Addr} : Ex (wo H p) H := fun b o h => by
  by_cases hb : b = p
  · subst hb; rw [wo_at] at h; cases h
  · rwa [wo_ne hb] at h
theorem wo_mono {H H' : Hp} {p : Addr} (e : Ex H H') : Ex (wo H p) (wo H' p) := fun b o h => by
  by_cases hb : b = p
  · subst hb; rw [wo_at] at h; cases h
  · rw [wo_ne hb] at h ⊢; exact e b o h
theorem wo_sub {H H' : Hp} {p : Addr} (e : Ex (wo H p) H') : Ex (wo H p) (wo H' p) := fun b o h => by
  by_cases hb : b = p
  · subst hb; rw [wo_at] at h; cases h
  · have := e b o h
    rwa [wo_ne hb]
theorem wo_upd {H : Hp} {p : Addr} {o : HO} : Ex (wo H p) (upd H p o) := fun b u h => by
  by_cases hb : b = p
  · subst hb; rw [wo_at] at h; cases h
  · rw [upd_ne hb]; rwa [wo_ne hb] at h
noncomputable def PotOk (a b : Int) : Prop := 0 ≤ a ∧ 0 ≤ b ∧ b < 4294967296
noncomputable def PotAt (H : Hp) (p : Addr) : Prop := ∃ a b, PotOk a b ∧ H p = some (.lst [.int a, .int b])
noncomputable def sp_pot (K : PySem.W.Frag) : Sp := fun vs H Q _ => ∃ (s : Addr) (ns : List Int) (k : Int), vs = [.ref s, .int k] ∧ SqL K H s (ns.map V.int) ∧ 0 ≤ k ∧ k ≤ 100 ∧ ∀ p H2, H p = none → Ex H H2 → PotAt H2 p → Q (.ref p) H2
noncomputable def sp_draw : Sp := fun vs H Q _ => ∃ p n, vs = [.ref p, .int n] ∧ PotAt H p ∧ 0 < n ∧ n < 1073741824 ∧ ∀ d H2, 0 ≤ d → d < n → Ex (wo H p) H2 → PotAt H2 p → Q (.int d) H2
noncomputable def sp_pick (K : PySem.W.Frag) : Sp := fun vs H Q _ => ∃ (p s : Addr) (xs : List V), vs = [.ref p, .ref s] ∧ PotAt H p ∧ SqL K (wo H p) s xs ∧ 0 < xs.length ∧ xs.length ≤ 1000 ∧ ∀ (i : Nat) (v : V) (H2 : Hp), xs[i]? = some v → Ex (wo H p) H2 → PotAt H2 p → Q v H2
theorem fmod_pos {a b : Int} (h : 0 < b) : 0 ≤ a.fmod b ∧ a.fmod b < b := by
  rw [Int.fmod_eq_emod_of_nonneg _ (by omega)]
  exact ⟨Int.emod_nonneg _ (by omega), Int.emod_lt_of_pos _ h⟩
section
variable {P : Program} {w : World} {K : PySem.W.Frag} {mg : Str → Option Value} {base : Heap} {C SZ SY : Addr}
theorem cut_one (ns : List Int) : cutV (ns.map V.int) none (some 1) = (ns.take 1).map V.int := by
  cases ns with
  | nil => rfl
  | cons a l =>
    show ((((a :: l).map V.int).drop 0).take (min 1 ((a :: l).map V.int).length - 0)) = _
    rw [List.length_map, List.length_cons, Nat.min_eq_left (by omega)]
    rfl
theorem ok_pot {f : Addr} {fd : FuncData} (F : Fun K "_law_pot" "_law_pot" s__law_pot f fd) (T : Txt P w K mg C SZ SY) : FnOk P w K mg base CX0 1 f fd ["_law_script", "_law_k"] (sp_pot K) := by
  refine F.ok sc__law_pot (fun vs H Q E h => ?_) (fun cdv A outer s H vs Q E hr h => ?_)
  · obtain ⟨s, ns, k, rfl, _⟩ := h
    rfl
  · obtain ⟨s, ns, k, rfl, hs, hk0, hk1, kq⟩ := h
    refine ⟨_, (pss_cons (ps_set (i := 2) sc__law_pot.nd rfl (Or.inl rfl) (pe_op op_add (pe_op op_add (pe_op op_mul pe_int (pv 1)) pe_int) (pe_op op_modN (pe_callB (sumL (K := K) rfl rfl) (by rfl) T.b_sum (by decide +kernel) (pa_cons (pe_slice sl_list (pv 0) po_none (po_some pe_int)) pa_nil)) pe_int))) (pss_cons (ps_if (pt_cmpR op_lt (pv 1) (pe_callB (lenS (K := K) rfl) (by rfl) T.b_len (by decide +kernel) (pa_cons (pv 0) pa_nil)) (nomark _)) (pss_one (ps_set (i := 2) sc__law_pot.nd rfl (Or.inl rfl) (pe_callB call_abs (by rfl) T.b_abs (by decide +kernel) (pa_cons (pe_ix (ixL (K := K) rfl) (pv 0) (pv 1) (fun _ _ => rfl)) pa_nil)))) pss_nil) (pss_one (ps_ret (pe_lst (pa_cons (pe_callB (call_max2 rfl) (by rfl) T.b_max (by decide +kernel) (pa_cons pe_int (pa_cons (pe_op op_sub (pv 2) (pe_op op_pow pe_int pe_int)) pa_nil))) (pa_cons (pe_op op_add (pe_op op_modN (pe_op op_mul (pe_callTy call_int1 (by rfl) T.b_int (by decide +kernel) (pa_cons (pe_op op_add (pe_op op_modN (pe_callTy call_int1 (by rfl) T.b_int (by decide +kernel) (pa_cons (pv 2) pa_nil)) pe_int) pe_int) pa_nil)) (pe_op op_pow (pe_op op_add (pe_op op_mul pe_int (pv 1)) pe_int) pe_int)) pe_int) pe_int) pa_nil))))))), ?_⟩
    have m0 := fmod_pos (a := (ns.take 1).sum) (show (0 : Int) < 1000003 by decide)
    refine q_asg (v := .int (89 * k + 67 + (ns.take 1).sum.fmod 1000003)) (ev_op (ev_op (ev_op ev_c (ev_var rfl) (rv_I (.inl ⟨by decide, by decide⟩))) ev_c rv_I0) (ev_op (ev_cbL (el_eq (el_sl (ev_var rfl) eo_none (eo_some ev_c) hs) (cut_one ns)) fun p H1 e h1 => rc_sum (sq_of h1)) ev_c (rv_I (by decide))) rv_I0) fun H1 e1 => ?_
    have hcell : ∃ c : Int, 0 ≤ c ∧ ∀ (D : Ends) (tz : TS), (∀ H2, Ex H1 H2 → tz D [some (.ref s), some (.int k), some (.int c)] H2) → tSeq (tIfS (tTest (tOp (rI0 fun i j => .bl (decide (i < j))) (tVar 1) (tCB (fun xs H Q => ∃ p ys, xs = [.ref p] ∧ (SqL K H p ys ∨ SqT K H p ys) ∧ Q (.int (ys.length : Int)) H) (tCons (tVar 0) tNil))))
        (tAsg (tCB (fun xs H Q => ∃ i, xs = [.int i] ∧ Q (.int (if i < 0 then -i else i)) H) (tCons (tOp (rIxL K) (tVar 0) (tVar 1)) tNil)) (gName 2)) tNext) tz D [some (.ref s), some (.int k), some (.int (89 * k + 67 + (ns.take 1).sum.fmod 1000003))] H1 := by
      by_cases hlt : k < (ns.length : Int)
      · refine ⟨if ns.getD k.toNat 0 < 0 then - ns.getD k.toNat 0 else ns.getD k.toNat 0, by split <;> omega, fun D tz kz => ?_⟩
        exact q_ifAsg (b := true) (et_test (ev_op (ev_var rfl) (ev_cb (ea_cons (ev_var rfl) ea_nil) (rc_len (.inl (ex_l e1 hs)) (by rw [List.length_map]))) (rv_res rv_I0 (congrArg V.bl (decide_eq_true hlt))))) (fun _ => ev_cb (ea_cons (ev_op (ev_var rfl) (ev_var rfl) (rv_ixL (ex_l e1 hs) (atI_int hk0 hlt))) ea_nil) rc_abs) (fun q => nomatch q) kz
      · refine ⟨89 * k + 67 + (ns.take 1).sum.fmod 1000003, by omega, fun D tz kz => ?_⟩
        exact q_ifAsg (b := false) (et_test (ev_op (ev_var rfl) (ev_cb (ea_cons (ev_var rfl) ea_nil) (rc_len (.inl (ex_l e1 hs)) (by rw [List.length_map]))) (rv_res rv_I0 (congrArg V.bl (decide_eq_false hlt))))) (fun q => nomatch q) (fun _ => rfl) kz
    obtain ⟨c, hc, ec⟩ := hcell
    refine ec _ _ fun H2 e2 => ?_
    have m1 := fmod_pos (a := c) (show (0 : Int) < 2147483549 by decide)
    have k3 : -(2 ^ 64) < (2 * k + 13) ^ (3 : Int).toNat ∧ (2 * k + 13) ^ (3 : Int).toNat < 2 ^ 64 := by
      have h2 : (2 * k + 13) ^ (3 : Int).toNat = (2 * k + 13) * (2 * k + 13) * (2 * k + 13) := by
        show (2 * k + 13) ^ 3 = _
        rw [Int.pow_succ, Int.pow_succ, Int.pow_succ, Int.pow_zero, Int.one_mul]
      have a1 : 0 ≤ (2 * k + 13) * (2 * k + 13) := Int.mul_nonneg (by omega) (by omega)
      have a2 : (2 * k + 13) * (2 * k + 13) ≤ 213 * 213 := Int.mul_le_mul (by omega) (by omega) (by omega) (by omega)
      have a3 : 0 ≤ (2 * k + 13) * (2 * k + 13) * (2 * k + 13) := Int.mul_nonneg a1 (by omega)
      have a4 : (2 * k + 13) * (2 * k + 13) * (2 * k + 13) ≤ 213 * 213 * 213 := Int.mul_le_mul a2 (by omega) (by omega) (by omega)
      rw [h2]
      omega
    refine s_retL (el_lst (ea_cons (ev_cb (ea_cons ev_c (ea_cons (ev_op (ev_var rfl) (ev_op ev_c ev_c (rv_I ⟨by decide, by decide, by decide⟩)) rv_I0) ea_nil)) rc_max2) (ea_cons (ev_op (ev_op (ev_op (ev_cb (ea_cons (ev_op (ev_op (ev_cb (ea_cons (ev_var rfl) ea_nil) rc_int1) ev_c (rv_I (by decide))) ev_c rv_I0) ea_nil) rc_int1) (ev_op (ev_op (ev_op ev_c (ev_var rfl) (rv_I (.inl ⟨by decide, by decide⟩))) ev_c rv_I0) ev_c (rv_I ⟨by decide, by decide, by omega⟩)) (rv_I (.inr k3))) ev_c (rv_I (by decide))) ev_c rv_I0) ea_nil)) (by show 2 ≤ 100000; decide)) fun p H3 hp e3 h3 => ?_
    refine kq p H3 (fresh_back (e1.trans e2) hp) ((e1.trans e2).trans e3) ⟨_, _, ⟨?_, ?_, ?_⟩, h3⟩
    · split <;> omega
    · have := fmod_pos (a := (c.fmod 2147483549 + 67) * (2 * k + 13) ^ (3 : Int).toNat) (show (0 : Int) < 2147483477 by decide)
      omega
    · have := fmod_pos (a := (c.fmod 2147483549 + 67) * (2 * k + 13) ^ (3 : Int).toNat) (show (0 : Int) < 2147483477 by decide)
      omega
theorem ok_draw {f : Addr} {fd : FuncData} (F : Fun K "_law_draw" "_law_draw" s__law_draw f fd) (T : Txt P w K mg C SZ SY) : FnOk P w K mg base CX0 1 f fd ["_law_pot_here", "_law_many_here"] sp_draw := by
  refine F.ok sc__law_draw (fun vs H Q E h => ?_) (fun cdv A outer s H vs Q E hr h => ?_)
  · obtain ⟨p, n, rfl, _⟩ := h
    rfl
  · obtain ⟨p, n, rfl, ⟨a, b, ⟨a0, b0, b1⟩, hp⟩, n0, n1, k⟩ := h
    have hq : SqL K H p [.int a, .int b] := sq_of hp
    refine ⟨_, (pss_cons (ps_if (pt_cmpR op_gt (pe_ix (ixL (K := K) rfl) (pv 0) pe_int (fun _ _ => rfl)) pe_int (nomark _)) (pss_cons (ps_asg (pe_callB call_divmod (by rfl) T.b_divmod (by decide +kernel) (pa_cons (pe_ix (ixL (K := K) rfl) (pv 0) pe_int (fun _ _ => rfl)) (pa_cons (pv 1) pa_nil))) (pg_tup (by rfl) (pgs_cons (pg_sub (pv 0) pe_int set_list) (pgs_cons (pg_name (i := 2) sc__law_draw.nd rfl (Or.inl rfl)) pgs_nil)))) (pss_one (ps_ret (pv 2)))) pss_nil) (pss_cons (ps_asg (pe_op op_modN (pe_callTy call_int1 (by rfl) T.b_int (by decide +kernel) (pa_cons (pe_op op_add (pe_op op_mul (pe_ix (ixL (K := K) rfl) (pv 0) pe_int (fun _ _ => rfl)) pe_int) pe_int) pa_nil)) pe_int) (pg_sub (pv 0) pe_int set_list)) (pss_one (ps_ret (pe_op op_modN (pe_callTy call_int1 (by rfl) T.b_int (by decide +kernel) (pa_cons (pe_op op_fdivN (pe_op op_modN (pe_callTy call_int1 (by rfl) T.b_int (by decide +kernel) (pa_cons (pe_op op_mul (pe_ix (ixL (K := K) rfl) (pv 0) pe_int (fun _ _ => rfl)) (pe_ix (ixL (K := K) rfl) (pv 0) pe_int (fun _ _ => rfl))) pa_nil)) pe_int) pe_int) pa_nil)) (pv 1)))))), ?_⟩
    refine q_when (et_test (ev_op (ev_op (ev_var rfl) ev_c (rv_ixL (v := .int a) hq rfl)) ev_c rv_I0)) (fun hb H1 e1 => ?_) (fun hb H1 e1 => ?_)
    · have ha : 0 < a := of_decide_eq_true hb
      refine q_asgG (eu_divmod (ev_op (ev_var rfl) ev_c (rv_ixL (v := .int a) (ex_l e1 hq) rfl)) (ev_var rfl) n0 n1) fun u H2 hu e2 h2 => ?_
      have e3 := e1.trans e2
      have hp2 := e3 p _ hp
      refine ⟨u, _, rfl, st_of h2, rfl, _, _, rfl, .ref p, rfl, ⟨p, [.int a, .int b], 0, 0, rfl, rfl, hp2, rfl, ?_⟩⟩
      refine ⟨_, _, rfl, rfl, ?_⟩
      refine s_ret (ev_var rfl) fun H3 e4 => ?_
      refine k _ H3 (Int.emod_nonneg _ (by omega)) (Int.emod_lt_of_pos _ n0) ((wo_mono e3).trans (wo_upd.trans e4)) ⟨a / n, b, ⟨Int.ediv_nonneg a0 (by omega), b0, b1⟩, e4 p _ upd_same⟩
    · have hq1 := ex_l e1 hq
      have m1 := fmod_pos (a := b * 48271 + 15259) (show (0 : Int) < 2147483587 by decide)
      refine q_setL (xs := [.int a, .int b]) (j := 1) (v := .int ((b * 48271 + 15259).fmod 2147483587)) (e1 p _ hp) (ev_op (ev_cb (ea_cons (ev_op (ev_op (ev_op (ev_var rfl) ev_c (rv_ixL (v := .int b) hq1 rfl)) ev_c (rv_I (.inr ⟨by decide, by decide⟩))) ev_c rv_I0) ea_nil) rc_int1) ev_c (rv_I (by decide))) (ev_var rfl) ev_c (by show 1 < 2; decide) fun H2 e2 => ?_
      generalize hb' : (b * 48271 + 15259).fmod 2147483587 = b' at m1 ⊢
      have hp3 : SqL K (upd H2 p (.lst ([.int a, .int b].set 1 (.int b')))) p [.int a, .int b'] := sq_of upd_same
      have m2 := fmod_pos (a := ((b' * b').fmod 2147483549).fdiv 11) n0
      refine s_ret (ev_op (ev_cb (ea_cons (ev_op (ev_op (ev_cb (ea_cons (ev_op (ev_op (ev_var rfl) ev_c (rv_ixL (v := .int b') hp3 rfl)) (ev_op (ev_var rfl) ev_c (rv_ixL (v := .int b') hp3 rfl)) (rv_I (.inl ⟨by omega, by omega⟩))) ea_nil) rc_int1) ev_c (rv_I (by decide))) ev_c (rv_I ⟨by decide, by decide⟩)) ea_nil) rc_int1) (ev_var rfl) (rv_I (by omega))) fun H3 e3 => ?_
      exact k _ H3 m2.1 m2.2 ((wo_mono (e1.trans e2)).trans (wo_upd.trans e3)) ⟨a, b', ⟨a0, m1.1, by omega⟩, e3 p _ upd_same⟩
theorem ok_pick {f f1 : Addr} {fd fd1 : FuncData} (F : Fun K "_law_pick" "_law_pick" s__law_pick f fd) (T : Txt P w K mg C SZ SY) (c__law_draw : Cal P w K mg base "_law_draw" f1 fd1 ["_law_pot_here", "_law_many_here"] 1 sp_draw) : FnOk P w K mg base CX0 2 f fd ["_law_pot_here", "_law_some_here"] (sp_pick K) := by
  refine F.ok sc__law_pick (fun vs H Q E h => ?_) (fun cdv A outer s H vs Q E hr h => ?_)
  · obtain ⟨p, s, xs, rfl, _⟩ := h
    rfl
  · obtain ⟨p, l, xs, rfl, hp, hs, h0, h1, k⟩ := h
    refine ⟨_, (pss_one (ps_ret (pe_ix (ixL (K := K) rfl) (pv 1) (pe_call c__law_draw.ok (hr.mono (by decide)) (by rfl) c__law_draw.mgx c__law_draw.kp c__law_draw.bd .nil pass0 (pa_cons (pv 0) (pa_cons (pe_callB (lenS (K := K) rfl) (by rfl) T.b_len (by decide +kernel) (pa_cons (pv 1) pa_nil)) pa_nil))) (fun _ _ => rfl)))), ?_⟩
    refine ⟨_, rfl, (ea_cons (ev_var rfl) (ea_cons (ev_cb (ea_cons (ev_var rfl) ea_nil) (rc_len (.inl (ex_l wo_ex hs)) rfl)) ea_nil)) H (Ex.refl H) _ fun H1 e1 => ?_⟩
    have hp1 : PotAt H1 p := by obtain ⟨a, b, h, q⟩ := hp; exact ⟨a, b, h, e1 p _ q⟩
    refine ⟨p, (xs.length : Int), rfl, hp1, by omega, by omega, fun d H2 d0 d1 e2 hp2 => ?_⟩
    obtain ⟨i, rfl⟩ : ∃ i : Nat, d = (i : Int) := ⟨d.toNat, by omega⟩
    have hi : i < xs.length := by omega
    have e3 : Ex (wo H p) H2 := (wo_mono e1).trans e2
    exact ⟨l, xs, (i : Int), xs[i], rfl, rfl, ex_l e3 hs, atI_nat (List.getElem?_eq_getElem hi), k i _ H2 (List.getElem?_eq_getElem hi) e3 hp2⟩
end
section
variable {K : PySem.W.Frag} {σ : L2.St} {H : Hp} {p : Addr} {i : Nat} {tA : TA} {tn : TE} {Q : VK} {E : XK}
theorem PotAt.mono {H' : Hp} (h : PotAt H p) (e : Ex H H') : PotAt H' p := by obtain ⟨a, b, q, r⟩ := h; exact ⟨a, b, q, e p _ r⟩
theorem PotAt.some (h : PotAt H p) : ∃ o, H p = some o := by obtain ⟨a, b, q, r⟩ := h; exact ⟨_, r⟩
theorem pickC {xs : List V} (hp : PotAt H p) (hv : σ[i]? = some (some (.ref p))) (ha : EvA tA σ (wo H p) xs) (h0 : 0 < xs.length) (h1 : xs.length ≤ 1000) (k : ∀ (j : Nat) (v : V) (H2 : Hp), xs[j]? = some v → Ex (wo H p) H2 → PotAt H2 p → Q v H2) :
    tCall (sp_pick K) [] E (tCons (tVar i) (tCons (tLst tA) tNil)) σ H Q := ⟨.ref p, hv, ha H wo_ex _ fun H1 e1 => ⟨sz_of (by omega), fun s hs => by
      have hp1 := hp.mono e1
      obtain ⟨o, ho⟩ := hp1.some
      have hne : s ≠ p := (ne_of_none ho hs).symm
      exact ⟨p, s, xs, rfl, hp1.mono (Ex.new hs), sq_of (by rw [wo_ne hne]; exact upd_same), h0, h1, fun j v H2 hj e2 h2 => k j v H2 hj ((wo_mono (e1.trans (Ex.new hs))).trans e2) h2⟩⟩⟩
theorem drawC {n : Int} (hp : PotAt H p) (hv : σ[i]? = some (some (.ref p))) (hn : Ev tn σ (wo H p) (.int n)) (h0 : 0 < n) (h1 : n < 1073741824) (k : ∀ d H2, 0 ≤ d → d < n → Ex (wo H p) H2 → PotAt H2 p → Q (.int d) H2) :
    tCall sp_draw [] E (tCons (tVar i) (tCons tn tNil)) σ H Q := ⟨.ref p, hv, hn H wo_ex _ fun H1 e1 => ⟨p, n, rfl, hp.mono e1, h0, h1, fun d H2 d0 d1 e2 h2 => k d H2 d0 d1 ((wo_mono e1).trans e2) h2⟩⟩
end
end K25
end
section
set_option maxHeartbeats 2000000
namespace SX
open PySem PySem.Spec PyProof.Rows L2
/-- the signs of a text -/
noncomputable def signs (z : Str) : List Str := z.cps.toList.map fun c => ⟨#[c]⟩
theorem signs_vals {z : Str} {acc : Array Value} (h : ItemsOf (SignAt z) acc z.cps.size) : Vals ((signs z).map V.str) acc.toList := by
  have key : ∀ (n : Nat) (cs : List Nat) (us : List Value), us.length = cs.length → (∀ (i : Nat) (v : Value), us[i]? = some v → ∃ c t, cs[i]? = some c ∧ v = .str ⟨#[c]⟩ t) → Vals ((cs.map fun c => (⟨#[c]⟩ : Str)).map V.str) us := by
    intro n cs
    induction cs with
    | nil =>
      intro us hl _
      cases us with
      | nil => exact .nil
      | cons u us => cases hl
    | cons c cs ih =>
      intro us hl hh
      cases us with
      | nil => cases hl
      | cons u us =>
        obtain ⟨c', t, e1, e2⟩ := hh 0 u rfl
        have : c' = c := by simpa using e1.symm
        subst this
        refine .cons ⟨t, e2⟩ (ih us (by simpa using hl) fun i v hi => ?_)
        obtain ⟨d, t', f1, f2⟩ := hh (i + 1) v (by simpa using hi)
        exact ⟨d, t', by simpa using f1, f2⟩
  refine key 0 z.cps.toList acc.toList (by rw [Array.length_toList, Array.length_toList]; exact h.1) fun i v hi => ?_
  rw [Array.getElem?_toList] at hi
  obtain ⟨c, t, e1, e2⟩ := h.2 i v hi
  exact ⟨c, t, by rw [Array.getElem?_toList]; exact e1, e2⟩
noncomputable def rListStr : List V → Hp → VK → Prop := fun xs H Q => ∃ z, xs = [V.str z] ∧ z.cps.size ≤ sizeLine ∧ ∀ l, H l = none → Q (.ref l) (upd H l (.lst ((signs z).map V.str)))
theorem cr_listStr {X : Cx} (hc : X.calm = true) : CallR X (.type "list") rListStr := by
  intro pins s σ H xs us Q I r h
  obtain ⟨z, rfl, hz, q⟩ := h
  obtain ⟨u, rfl, rx⟩ := vals1 r
  obtain ⟨t, rfl⟩ := rx
  refine call_list_str (I.ok.hd hc) z t (fun h' tk acc c k e hacc => ?_) hz
  have hl : ((signs z).map V.str).length ≤ sizeLine := by unfold signs; rw [List.length_map, List.length_map, Array.length_toList]; exact hz
  exact ⟨.ref s.heap.objs.size, _, I.laid (t' := tk) k (Nat.le_refl _) (show ObjOk X.prog X.w _ h' _ (.lst ((signs z).map V.str)) from ⟨hl, acc.toList, c, signs_vals hacc, e⟩), rfl, q _ (I.hok.fresh (Nat.le_refl _))⟩
end SX
end
section
set_option maxHeartbeats 4000000
namespace K25
open PySem L2 Evl G TM TD
section
variable {K : PySem.W.Frag} {σ : L2.St} {H : Hp} {p C : Addr} {i j i0 : Nat} {tA tr : TA} {tn ta tb tl te : TE} {Q : VK} {E : XK} {D : Ends} {tz : TS} {xs : List V} {vs : List Nat} {QA : List V → Hp → Prop} {ns : List Int} {r : R2} {v : V}
theorem ac_v (h : Ev te σ H v) (k : ∀ H1, Ex H H1 → tr σ H1 fun xs H2 => QA (v :: xs) H2) : tCons te tr σ H QA := h H (Ex.refl H) _ k
theorem ac_nil (k : QA [] H) : tNil σ H QA := k
theorem ac_k (h : te σ H fun v H1 => tr σ H1 fun xs H2 => QA (v :: xs) H2) : tCons te tr σ H QA := h
theorem op_k (h : ta σ H fun x H1 => tb σ H1 fun y H2 => r x y H2 Q) : tOp r ta tb σ H Q := h
theorem lst_k (h : tA σ H fun vs H1 => vs.length ≤ sizeLine ∧ ∀ p, H1 p = none → Q (.ref p) (upd H1 p (.lst vs))) : tLst tA σ H Q := h
theorem tup_k (h : tA σ H fun vs H1 => vs.length ≤ sizeLine ∧ ∀ p, H1 p = none → Q (.ref p) (upd H1 p (.tup vs))) : tTup tA σ H Q := h
theorem ret_k (h : te σ H D.rt) : tRet te D σ H := h
theorem asg_k (h : te σ H fun v H1 => tz D (σ.set i (some v)) H1) : tSeq (tAsg te (gName i)) tz D σ H := h
theorem v_k {v : V} (h : Ev te σ H v) (k : ∀ H1, Ex H H1 → Q v H1) : te σ H Q := h H (Ex.refl H) _ k
theorem call_k {sp : Sp} {dvs : List V} (h : tA σ H fun vs H1 => sp (vs ++ dvs) H1 Q E) : tCall sp dvs E tA σ H Q := h
theorem bm_k {Tn : String} {rm : V → List V → Hp → VK → Prop} {to : TE} {t : TA} (h : to σ H fun x H1 => tyV K Tn x H1 ∧ t σ H1 fun xs H2 => rm x xs H2 Q) : tBM K Tn rm to t σ H Q := h
theorem drop_k (h : te σ H fun _ H1 => D.nx σ H1) : tDrop te D σ H := h
theorem q_par2L {xs ys : List V} (h : EvL ta σ H xs) (hb : ∀ H1, Ex H H1 → EvL tb σ H1 ys) (k : ∀ p q H1, H p = none → H q = none → p ≠ q → Ex H H1 → H1 p = some (.lst xs) → H1 q = some (.lst ys) → tz D ((σ.set i (some (.ref p))).set j (some (.ref q))) H1) :
    tSeq (tPar i j (tCons ta (tCons tb tNil))) tz D σ H := h H (Ex.refl H) _ fun p H1 hp e1 h1 => (hb H1 e1) H1 (Ex.refl _) _ fun q H2 hq e2 h2 => ⟨_, _, rfl, k p q H2 hp (fresh_back e1 hq) (fun z => by subst z; rw [h1] at hq; cases hq) (e1.trans e2) (e2 p _ h1) h2⟩
/-- a pot is drawn from: the tuples stay -/
theorem tu_wo {H2 : Hp} (hp : PotAt H p) (e : Ex (wo H p) H2) : Tu H H2 := fun a xs ha => by
  obtain ⟨_, _, _, q⟩ := hp
  have : a ≠ p := fun z => by subst z; rw [q] at ha; cases ha
  exact e a _ (by rw [wo_ne this]; exact ha)
theorem wo_tr {H1 H2 H3 : Hp} (e : Ex (wo H1 p) H2) (e' : Ex (wo H2 p) H3) : Ex (wo H1 p) H3 := (wo_sub e).trans e'
end
noncomputable def sp_some (K : PySem.W.Frag) : Sp := fun vs H Q _ => ∃ (p : Addr) (z : Str) (n : Nat), vs = [.ref p, .str z, .int (n : Int)] ∧ PotAt H p ∧ n ≤ (SX.signs z).length ∧ (SX.signs z).length ≤ 1000 ∧ (SX.signs z).Nodup ∧ z.cps.size ≤ 1000 ∧
  ∀ l (ks : List Str) H2, ks.length = n → ks.Nodup → (∀ k ∈ ks, k ∈ SX.signs z) → H l = none → Ex (wo H p) H2 → PotAt H2 p → H2 l = some (.lst (ks.map V.str)) → Q (.ref l) H2
noncomputable def sp_number : Sp := fun vs H Q _ => ∃ p, vs = [.ref p] ∧ PotAt H p ∧ ∀ i H2, -12 ≤ i → i ≤ 12 → Ex (wo H p) H2 → PotAt H2 p → Q (.int i) H2
section
variable {P : Program} {w : World} {K : PySem.W.Frag} {mg : Str → Option Value} {base : Heap} {C SZ SY : Addr}
theorem ok_number {f f1 f2 : Addr} {fd fd1 fd2 : FuncData} (F : Fun K "_law_number" "_law_number" s__law_number f fd) (T : Txt P w K mg C SZ SY) (c__law_draw : Cal P w K mg base "_law_draw" f1 fd1 ["_law_pot_here", "_law_many_here"] 1 sp_draw) (c__law_pick : Cal P w K mg base "_law_pick" f2 fd2 ["_law_pot_here", "_law_some_here"] 2 (sp_pick K)) : FnOk P w K mg base CX0 3 f fd ["_law_pot_here"] sp_number := by
  refine F.ok sc__law_number (fun vs H Q E h => ?_) (fun cdv A outer s H vs Q E hr h => ?_)
  · obtain ⟨p, rfl, _⟩ := h
    rfl
  · obtain ⟨p, rfl, hp, k⟩ := h
    refine ⟨_, (pss_one (ps_ret (pe_call c__law_pick.ok (hr.mono (by decide)) (by rfl) c__law_pick.mgx c__law_pick.kp c__law_pick.bd .nil pass0 (pa_cons (pv 0) (pa_cons (pe_lst (pa_cons pe_int (pa_cons pe_int (pa_cons (pe_un un_neg pe_int) (pa_cons pe_int (pa_cons (pe_un un_neg pe_int) (pa_cons pe_int (pa_cons (pe_op op_sub (pe_call c__law_draw.ok (hr.mono (by decide)) (by rfl) c__law_draw.mgx c__law_draw.kp c__law_draw.bd .nil pass0 (pa_cons (pv 0) (pa_cons pe_int pa_nil))) pe_int) (pa_cons (pe_op op_sub (pe_call c__law_draw.ok (hr.mono (by decide)) (by rfl) c__law_draw.mgx c__law_draw.kp c__law_draw.bd .nil pass0 (pa_cons (pv 0) (pa_cons pe_int pa_nil))) pe_int) pa_nil))))))))) pa_nil))))), ?_⟩
    refine ret_k (call_k (ac_v (ev_var rfl) fun H1 e1 => ac_k (lst_k (ac_v ev_c fun H2 e2 => ac_v ev_c fun H3 e3 => ac_v (ev_un ev_c ru_neg) fun H4 e4 => ac_v ev_c fun H5 e5 => ac_v (ev_un ev_c ru_neg) fun H6 e6 => ac_v ev_c fun H7 e7 => ac_k (op_k ?_)))))
    have e07 := (((((e1.trans e2).trans e3).trans e4).trans e5).trans e6).trans e7
    refine drawC (hp.mono e07) rfl ev_c (by decide) (by decide) fun d1 H8 d10 d11 e8 hp8 => ?_
    refine v_k ev_c fun H9 e9 => ⟨d1, 12, rfl, rfl, ac_k (op_k ?_)⟩
    refine drawC (hp8.mono e9) rfl ev_c (by decide) (by decide) fun d2 Ha d20 d21 ea hpa => ?_
    refine v_k ev_c fun Hb eb => ⟨d2, 12, rfl, rfl, ac_nil ⟨sz_of (by show 8 ≤ 100000; decide), fun s hs => ?_⟩⟩
    have hpb := hpa.mono eb
    obtain ⟨o, ho⟩ := hpb.some
    have hne : s ≠ p := (ne_of_none ho hs).symm
    have x1 : Ex (wo H p) Hb := wo_tr (wo_tr (wo_ex.trans e07) (e8.trans e9)) (ea.trans eb)
    refine ⟨p, s, ([0, 1, -1, 2, -2, 3, d1 - 12, d2 - 12] : List Int).map V.int, rfl, hpb.mono (Ex.new hs), sq_of (by rw [wo_ne hne]; exact upd_same), by show 0 < 8; decide, by show 8 ≤ 1000; decide, fun i v H2' hi e2' h2' => ?_⟩
    rw [List.getElem?_map] at hi
    obtain ⟨m, hm, rfl⟩ := Option.map_eq_some_iff.mp hi
    have hmem := List.mem_of_getElem? hm
    simp only [List.mem_cons, List.not_mem_nil, or_false] at hmem
    refine k m H2' (by omega) (by omega) (wo_tr (x1.trans (Ex.new hs)) e2') h2'
theorem seqIndex_nat {d : Nat} {n : Nat} (h : d < n) : seqIndex? (d : Int) n = some d := by
  unfold seqIndex?
  have h1 : ¬ ((d : Int) < 0) := by omega
  simp only [h1, if_false]
  rw [if_pos (by simp; omega)]
  simp
theorem erase_map {α β : Type} (f : α → β) : ∀ (l : List α) (i : Nat), (l.map f).eraseIdx i = (l.eraseIdx i).map f
  | [], _ => rfl
  | _ :: _, 0 => rfl
  | a :: l, i + 1 => by
    show f a :: (l.map f).eraseIdx i = f a :: (l.eraseIdx i).map f
    rw [erase_map f l i]
theorem ok_some {f f1 : Addr} {fd fd1 : FuncData} (F : Fun K "_law_some" "_law_some" s__law_some f fd) (T : Txt P w K mg C SZ SY) (c__law_draw : Cal P w K mg base "_law_draw" f1 fd1 ["_law_pot_here", "_law_many_here"] 1 sp_draw) : FnOk P w K mg base CX0 2 f fd ["_law_pot_here", "_law_letters_here", "_law_many_here"] (sp_some K) := by
  refine F.ok sc__law_some (fun vs H Q E h => ?_) (fun cdv A outer s H vs Q E hr h => ?_)
  · obtain ⟨p, z, n, rfl, _⟩ := h
    rfl
  · obtain ⟨p, z, n, rfl, hp, hn, hz, hnd, hz2, k⟩ := h
    refine ⟨_, (pss_cons (ps_par (i := 3) (j := 4) (by rfl) sc__law_some.nd rfl rfl (by decide) rfl rfl (pa_cons (pe_callTy (SX.cr_listStr rfl) (by rfl) T.b_list (by decide +kernel) (pa_cons (pv 1) pa_nil)) (pa_cons (pe_lst pa_nil) pa_nil)) (by rfl)) (pss_cons (ps_for PassesOwn.never rfl (pi_range1 (by rfl) T.b_range (pa_cons (pv 2) pa_nil)) (pg_name (i := 5) sc__law_some.nd rfl (Or.inl rfl)) (pss_one (ps_expr (pe_bm PySem.F.plainAttrs_list PySem.F.slot_list_append PySem.F.type_list_append mt_append (pv 4) (pa_cons (pe_bm PySem.F.plainAttrs_list PySem.F.slot_list_pop PySem.F.type_list_pop mt_popAt (pv 3) (pa_cons (pe_call c__law_draw.ok (hr.mono (by decide)) (by rfl) c__law_draw.mgx c__law_draw.kp c__law_draw.bd .nil pass0 (pa_cons (pv 0) (pa_cons (pe_callB (lenS (K := K) rfl) (by rfl) T.b_len (by decide +kernel) (pa_cons (pv 3) pa_nil)) pa_nil))) pa_nil)) pa_nil))))) (pss_one (ps_ret (pv 4))))), ?_⟩
    refine q_par2L (xs := (SX.signs z).map V.str) (ys := []) (fun H1 e1 Q q => (ev_var (i := 1) (v := V.str z) rfl) H1 (Ex.refl _) _ fun H2 e2 => ⟨z, rfl, sz_of (by omega), fun l hl => q l _ (fresh_back e2 hl) (e2.trans (Ex.new hl)) upd_same⟩) (fun H1 e1 => el_lst ea_nil (by show 0 ≤ 100000; decide)) fun le fo H1 hle hfo hne e1 h1 h2 => ?_
    obtain ⟨o, ho⟩ := hp.some
    have lp : le ≠ p := (ne_of_none ho hle).symm
    have fp : fo ≠ p := (ne_of_none ho hfo).symm
    have wle : wo H p le = none := by rw [wo_ne lp]; exact hle
    have wfo : wo H p fo = none := by rw [wo_ne fp]; exact hfo
    refine q_forR1 (n := (n : Int)) (ea_cons (ev_var rfl) ea_nil) (by omega) (fun i σ' H' => ∃ (ks ls : List Str) (o1 : Option V), σ' = [some (.ref p), some (.str z), some (.int (n : Int)), some (.ref le), some (.ref fo), o1] ∧ ks.length = i ∧ (ks ++ ls).Perm (SX.signs z) ∧ Ex (wo H p) H' ∧ PotAt H' p ∧ H' le = some (.lst (ls.map V.str)) ∧ H' fo = some (.lst (ks.map V.str))) (fun H2 e2 => ⟨[], SX.signs z, none, rfl, rfl, List.Perm.refl _, wo_ex.trans (e1.trans e2), hp.mono (e1.trans e2), e2 le _ h1, e2 fo _ h2⟩) (fun i σ' H' hi hpv => ?_) (fun σ' H' hpv => ?_)
    · obtain ⟨ks, ls, o1, rfl, hk, pm, e3, hp3, h3, h4⟩ := hpv
      have hlen : ks.length + ls.length = (SX.signs z).length := by rw [← List.length_append]; exact pm.length_eq
      have hpos : 0 < ls.length := by omega
      refine drop_k (bm_k (v_k (v := .ref fo) (ev_var rfl) fun H4 e4 => ⟨Or.inl ⟨rfl, _, sq_of (e4 fo _ h4)⟩, ac_k (bm_k (v_k (v := .ref le) (ev_var rfl) fun H5 e5 => ⟨Or.inl ⟨rfl, _, sq_of ((e4.trans e5) le _ h3)⟩, ac_k ?_⟩))⟩))
      have h35 : H5 le = some (.lst (ls.map V.str)) := (e4.trans e5) le _ h3
      have h45 : H5 fo = some (.lst (ks.map V.str)) := (e4.trans e5) fo _ h4
      have hp5 : PotAt H5 p := hp3.mono (e4.trans e5)
      refine drawC (n := (ls.length : Int)) hp5 rfl (ev_is (ev_cb (ea_cons (ev_var (i := 3) (v := .ref le) rfl) ea_nil) (rc_len (.inl (sq_of (by rw [wo_ne lp]; exact h35))) rfl)) (by rw [List.length_map])) (by omega) (by omega) fun d H6 d0 d1 e6 hp6 => ?_
      obtain ⟨j, rfl⟩ : ∃ j : Nat, d = (j : Int) := ⟨d.toNat, by omega⟩
      have hj : j < ls.length := by omega
      have h36 : H6 le = some (.lst (ls.map V.str)) := e6 le _ (by rw [wo_ne lp]; exact h35)
      have h46 : H6 fo = some (.lst (ks.map V.str)) := e6 fo _ (by rw [wo_ne fp]; exact h45)
      refine ac_nil ⟨le, ls.map V.str, (j : Int), j, .str ls[j], rfl, rfl, h36, by omega, by omega, by rw [List.length_map]; exact seqIndex_nat hj, by rw [List.getElem?_map, List.getElem?_eq_getElem hj] <;> rfl, ac_nil ⟨fo, ks.map V.str, .str ls[j], rfl, rfl, by rw [upd_ne (Ne.symm hne)]; exact h46, sz_lt (by rw [List.length_map]; omega), ?_⟩⟩
      have pm2 : (ls[j] :: ls.eraseIdx j).Perm ls := L2.erase_perm ls j _ (List.getElem?_eq_getElem hj)
      refine ⟨ks ++ [ls[j]], ls.eraseIdx j, some (.int (i : Int)), rfl, by rw [List.length_append, hk] <;> rfl, ?_, ?_, ?_, ?_, ?_⟩
      · rw [List.append_assoc]
        exact ((List.Perm.refl ks).append pm2).trans pm
      · have x6 : Ex (wo H p) H6 := wo_tr (e3.trans (e4.trans e5)) e6
        exact (x6.mut wle).mut wfo
      · obtain ⟨a, b, q1, q2⟩ := hp6
        exact ⟨a, b, q1, by rw [upd_ne (Ne.symm fp), upd_ne (Ne.symm lp)]; exact q2⟩
      · rw [upd_ne hne, upd_same, erase_map]
      · rw [upd_same, List.map_append] <;> rfl
    · obtain ⟨ks, ls, o1, rfl, hk, pm, e3, hp3, h3, h4⟩ := hpv
      refine s_ret (ev_var rfl) fun H4 e4 => ?_
      have nd : (ks ++ ls).Nodup := pm.nodup_iff.mpr hnd
      exact k fo ks H4 (by rw [hk]; exact Int.toNat_natCast n) (List.nodup_append.mp nd).1 (fun x hx => pm.mem_iff.mp (List.mem_append.mpr (.inl hx))) hfo (e3.trans e4) (hp3.mono e4) (e4 fo _ h4)
end
end K25
end
section
set_option maxHeartbeats 4000000
namespace K25
open PySem L2 Evl G TM TD
/-- the numbers in it are small -/
noncomputable def Small : Td → Prop
  | .lf _ v => ∀ i, v = .int i → -12 ≤ i ∧ i ≤ 12
  | .ov _ v t => (∀ i, v = .int i → -12 ≤ i ∧ i ≤ 12) ∧ Small t
  | .nt t => Small t
  | .bi _ t u => Small t ∧ Small u
noncomputable def szB : Nat → Nat
  | 0 => 1
  | d + 1 => 2 * szB d + 1
theorem szB_pos : ∀ d, 1 ≤ szB d
  | 0 => Nat.le_refl _
  | d + 1 => by show 1 ≤ 2 * szB d + 1; omega
/-- a drawn formula -/
structure FOk (N R : List Str) (d : Nat) (t : Td) : Prop where
  f : IsF t
  has : Has N R t
  dp : depth t ≤ d
  sz : (pcs t).length ≤ szB d
  sm : Small t
/-- names and rules as lists that the pot doesn't touch -/
structure LOk (K : PySem.W.Frag) (B : Hp) (a : Addr) (L : List Str) (all : List Str) : Prop where
  at_ : SqL K B a (L.map V.str)
  pos : 0 < L.length
  few : L.length ≤ 1000
  sub : ∀ x ∈ L, x ∈ all
theorem LOk.mono {K : PySem.W.Frag} {B B' : Hp} {a : Addr} {L all : List Str} (e : Ex B B') (h : LOk K B a L all) : LOk K B' a L all := ⟨ex_l e h.at_, h.pos, h.few, h.sub⟩
noncomputable def sp_formula (K : PySem.W.Frag) (n : Nat) : Sp := fun vs H Q _ => ∃ (p : Addr) (d : Nat) (nl rl : Addr) (N R : List Str), vs = [.ref p, .int (d : Int), .ref nl, .ref rl] ∧ d < n ∧ PotAt H p ∧ LOk K (wo H p) nl N nameL ∧ LOk K (wo H p) rl R ruleL ∧
  ∀ v t H2, Ex (wo H p) H2 → PotAt H2 p → At H2 v t → FOk N R d t → Q v H2
section
variable {K : PySem.W.Frag} {σ : L2.St} {H : Hp} {p C : Addr} {i j : Nat} {ta tb te : TE} {Q : VK} {E : XK}
theorem if_mid {c : TT} {b : Bool} (Z : V → Hp → Prop) (hc : EvT c σ H b) (h1 : b = true → ∀ H1, Ex H H1 → ∀ Q' : VK, (∀ v H2, Z v H2 → Q' v H2) → ta σ H1 Q') (h2 : b = false → ∀ H1, Ex H H1 → ∀ Q' : VK, (∀ v H2, Z v H2 → Q' v H2) → tb σ H1 Q') (k : ∀ v H2, Z v H2 → Q v H2) : tIf c ta tb σ H Q := hc H (Ex.refl _) _ fun H1 e1 => by
  cases b with
  | true => rw [if_pos rfl]; exact h1 rfl H1 e1 Q k
  | false => rw [if_neg (by decide)]; exact h2 rfl H1 e1 Q k
theorem pickV {s : Addr} {L all : List Str} (hp : PotAt H p) (hv : σ[i]? = some (some (.ref p))) (hs : σ[j]? = some (some (.ref s))) (hl : LOk K (wo H p) s L all) (k : ∀ (x : Str) (H2 : Hp), x ∈ L → Ex (wo H p) H2 → PotAt H2 p → Q (.str x) H2) :
    tCall (sp_pick K) [] E (tCons (tVar i) (tCons (tVar j) tNil)) σ H Q := ⟨.ref p, hv, .ref s, hs, p, s, L.map V.str, rfl, hp, hl.at_, by rw [List.length_map]; exact hl.pos, by rw [List.length_map]; exact hl.few, fun m v H2 hm e h2 => by
      rw [List.getElem?_map] at hm
      obtain ⟨x, hx, rfl⟩ := Option.map_eq_some_iff.mp hm
      exact k x H2 (List.mem_of_getElem? hx) e h2⟩
theorem numC (hp : PotAt H p) (hv : σ[i]? = some (some (.ref p))) (k : ∀ m H2, -12 ≤ m → m ≤ 12 → Ex (wo H p) H2 → PotAt H2 p → Q (.int m) H2) : tCall sp_number [] E (tCons (tVar i) tNil) σ H Q := ⟨.ref p, hv, p, rfl, hp, k⟩
theorem formC {n d : Nat} {nl rl : Addr} {N R : List Str} {i2 i3 : Nat} (hp : PotAt H p) (hv : σ[i]? = some (some (.ref p))) (hd : Ev te σ H (.int (d : Int))) (h2 : σ[i2]? = some (some (.ref nl))) (h3 : σ[i3]? = some (some (.ref rl))) (hn : d < n) (ln : LOk K (wo H p) nl N nameL) (lr : LOk K (wo H p) rl R ruleL)
    (k : ∀ v t H2, Ex (wo H p) H2 → PotAt H2 p → At H2 v t → FOk N R d t → Q v H2) : tCall (sp_formula K n) [] E (tCons (tVar i) (tCons te (tCons (tVar i2) (tCons (tVar i3) tNil)))) σ H Q := ⟨.ref p, hv, hd H (Ex.refl _) _ fun H1 e1 => ⟨.ref nl, h2, .ref rl, h3, p, d, nl, rl, N, R, rfl, hn, hp.mono e1, ln.mono (wo_mono e1), lr.mono (wo_mono e1), fun v t H2 e2 => k v t H2 ((wo_mono e1).trans e2)⟩⟩
end
section
variable {P : Program} {w : World} {K : PySem.W.Frag} {mg : Str → Option Value} {base : Heap} {C SZ SY : Addr}
/-- ["..", ".."][i] -/
theorem ev_word {σ : L2.St} {H : Hp} {tA : TA} {tb : TE} (ws : List Str) {k : Nat} {x : Str} (ha : EvA tA σ H (ws.map V.str)) (hb : Ev tb σ H (.int (k : Int))) (hk : ws[k]? = some x) (hz : ws.length ≤ 100) : Ev (tOp (rIxL K) (tLst tA) tb) σ H (.str x) :=
  ev_opL1 (el_lst ha (by rw [List.length_map]; omega)) (fun H1 e1 => hb.mono e1) fun p H1 h1 e1 => rv_ixL (sq_of h1) (atI_nat (by rw [List.getElem?_map, hk] <;> rfl))
theorem ok_formula {f f1 f2 f3 : Addr} {fd fd1 fd2 fd3 : FuncData} (F : Fun K "_law_formula" "_law_formula" s__law_formula f fd) (T : Txt P w K mg C SZ SY) (me : Me K mg "_law_formula" f fd ["_law_pot_here", "_law_deep", "_law_names", "_law_rules"]) (c__law_draw : Cal P w K mg base "_law_draw" f1 fd1 ["_law_pot_here", "_law_many_here"] 1 sp_draw) (c__law_pick : Cal P w K mg base "_law_pick" f2 fd2 ["_law_pot_here", "_law_some_here"] 2 (sp_pick K)) (c__law_number : Cal P w K mg base "_law_number" f3 fd3 ["_law_pot_here"] 3 sp_number) :
    ∀ n, FnOk P w K mg base CX0 (n + 4) f fd ["_law_pot_here", "_law_deep", "_law_names", "_law_rules"] (sp_formula K n) := by
  intro n
  induction n with
  | zero => exact ⟨fun vs H Q E h => by obtain ⟨p, d, nl, rl, N, R, _, hd, _⟩ := h; exact absurd hd (Nat.not_lt_zero _), fun A outer s H args us vs Q E _ _ _ _ h => by obtain ⟨p, d, nl, rl, N, R, _, hd, _⟩ := h; exact absurd hd (Nat.not_lt_zero _)⟩
  | succ n ih =>
  have c__law_formula : Cal P w K mg base "_law_formula" f fd ["_law_pot_here", "_law_deep", "_law_names", "_law_rules"] (n + 4) (sp_formula K n) := ⟨ih, me.mgx, me.kp, me.bd⟩
  refine F.ok (k := n + 4) sc__law_formula (fun vs H Q E h => ?_) (fun cdv A outer s H vs Q E hr h => ?_)
  · obtain ⟨p, d, nl, rl, N, R, rfl, _⟩ := h
    rfl
  · obtain ⟨p, d, nl, rl, N, R, rfl, hdn, hp, ln, lr, k⟩ := h
    refine ⟨_, (pss_cons (ps_set (i := 4) sc__law_formula.nd rfl (Or.inl rfl) (pe_ifExp (pt_cmpR op_gt (pv 1) pe_int (nomark _)) (pe_call c__law_draw.ok (hr.mono (by omega)) (by rfl) c__law_draw.mgx c__law_draw.kp c__law_draw.bd .nil pass0 (pa_cons (pv 0) (pa_cons pe_int pa_nil))) (pe_call c__law_draw.ok (hr.mono (by omega)) (by rfl) c__law_draw.mgx c__law_draw.kp c__law_draw.bd .nil pass0 (pa_cons (pv 0) (pa_cons pe_int pa_nil))))) (pss_cons (ps_if (pt_cmpR op_lt (pv 4) pe_int (nomark _)) (pss_one (ps_ret (pe_tup (pa_cons pe_str (pa_cons (pe_call c__law_pick.ok (hr.mono (by omega)) (by rfl) c__law_pick.mgx c__law_pick.kp c__law_pick.bd .nil pass0 (pa_cons (pv 0) (pa_cons (pv 2) pa_nil))) pa_nil))))) pss_nil) (pss_cons (ps_if (pt_cmpR op_eq (pv 4) pe_int (nomark _)) (pss_one (ps_ret (pe_tup (pa_cons pe_str (pa_cons (pe_call c__law_number.ok (hr.mono (by omega)) (by rfl) c__law_number.mgx c__law_number.kp c__law_number.bd .nil pass0 (pa_cons (pv 0) pa_nil)) pa_nil))))) pss_nil) (pss_cons (ps_set (i := 5) sc__law_formula.nd rfl (Or.inl rfl) (pe_call c__law_formula.ok (hr.mono (by omega)) (by rfl) c__law_formula.mgx c__law_formula.kp c__law_formula.bd .nil pass0 (pa_cons (pv 0) (pa_cons (pe_op op_sub (pv 1) pe_int) (pa_cons (pv 2) (pa_cons (pv 3) pa_nil)))))) (pss_cons (ps_if (pt_cmpR op_eq (pv 4) pe_int (nomark _)) (pss_one (ps_ret (pe_tup (pa_cons pe_str (pa_cons (pe_call c__law_number.ok (hr.mono (by omega)) (by rfl) c__law_number.mgx c__law_number.kp c__law_number.bd .nil pass0 (pa_cons (pv 0) pa_nil)) (pa_cons (pv 5) pa_nil)))))) pss_nil) (pss_cons (ps_if (pt_cmpR op_lt (pv 4) pe_int (nomark _)) (pss_one (ps_ret (pe_tup (pa_cons (pe_ix (ixL (K := K) rfl) (pe_lst (pa_cons pe_str (pa_cons pe_str (pa_cons pe_str (pa_cons pe_str pa_nil))))) (pe_op op_sub (pv 4) pe_int) (fun _ _ => rfl)) (pa_cons (pe_call c__law_pick.ok (hr.mono (by omega)) (by rfl) c__law_pick.mgx c__law_pick.kp c__law_pick.bd .nil pass0 (pa_cons (pv 0) (pa_cons (pv 3) pa_nil))) (pa_cons (pv 5) pa_nil)))))) pss_nil) (pss_one (ps_ret (pe_tup (pa_cons (pe_ix (ixL (K := K) rfl) (pe_lst (pa_cons pe_str (pa_cons pe_str (pa_cons pe_str pa_nil)))) (pe_op op_sub (pv 4) pe_int) (fun _ _ => rfl)) (pa_cons (pv 5) (pa_cons (pe_call c__law_formula.ok (hr.mono (by omega)) (by rfl) c__law_formula.mgx c__law_formula.kp c__law_formula.bd .nil pass0 (pa_cons (pv 0) (pa_cons (pe_op op_sub (pv 1) pe_int) (pa_cons (pv 2) (pa_cons (pv 3) pa_nil))))) pa_nil)))))))))))), ?_⟩
    refine asg_k (if_mid (b := decide ((d : Int) > 0)) (fun v H2 => ∃ m : Int, v = .int m ∧ 0 ≤ m ∧ m < 11 ∧ (3 ≤ m → 1 ≤ d) ∧ Ex (wo H p) H2 ∧ PotAt H2 p) (et_test (ev_op (ev_var rfl) ev_c rv_I0)) (fun hb H1 e1 Q' q' => drawC (hp.mono e1) rfl ev_c (by decide) (by decide) fun m H2 m0 m1 e2 h2 => q' _ H2 ⟨m, rfl, m0, m1, fun _ => by have := of_decide_eq_true hb; omega, (wo_mono e1).trans e2, h2⟩) (fun hb H1 e1 Q' q' => drawC (hp.mono e1) rfl ev_c (by decide) (by decide) fun m H2 m0 m1 e2 h2 => q' _ H2 ⟨m, rfl, m0, by omega, fun _ => by omega, (wo_mono e1).trans e2, h2⟩) ?_)
    rintro _ H2 ⟨m, rfl, m0, m11, md, e2, hp2⟩
    refine q_when (b := decide (m < 2)) (et_test (ev_op (ev_var rfl) ev_c rv_I0)) (fun _ H3 e3 => ?_) (fun hm2 H3 e3 => ?_)
    · -- a name
      refine ret_k (tup_k (ac_v ev_c fun H4 e4 => ac_k (pickV (hp2.mono (e3.trans e4)) rfl rfl (ln.mono ((wo_sub e2).trans (wo_mono (e3.trans e4)))) fun x H5 hx e5 hp5 => ac_nil ⟨sz_of (by show 2 ≤ 100000; decide), fun q hq => ?_⟩)))
      have e05 : Ex (wo H p) H5 := wo_tr (e2.trans (e3.trans e4)) e5
      exact k _ (.lf "day" (.str x)) _ (e05.trans (Ex.new hq)) (hp5.mono (Ex.new hq)) ⟨q, rfl, upd_same⟩ ⟨.inl ⟨rfl, x, ln.sub x hx, rfl⟩, fun y hy => (by cases hy; exact hx), Nat.zero_le _, szB_pos d, fun i hi => (by cases hi)⟩
    · have hm2' : ¬ m < 2 := of_decide_eq_false hm2
      refine q_when (b := decide (V.int m = V.int 2)) (et_test (ev_op (ev_var rfl) ev_c (rv_eq rfl))) (fun _ H4 e4 => ?_) (fun hm3 H4 e4 => ?_)
      · -- a number
        refine ret_k (tup_k (ac_v ev_c fun H5 e5 => ac_k (numC (hp2.mono ((e3.trans e4).trans e5)) rfl fun x H6 x0 x1 e6 hp6 => ac_nil ⟨sz_of (by show 2 ≤ 100000; decide), fun q hq => ?_⟩)))
        have e06 : Ex (wo H p) H6 := wo_tr (e2.trans ((e3.trans e4).trans e5)) e6
        exact k _ (.lf "num" (.int x)) _ (e06.trans (Ex.new hq)) (hp6.mono (Ex.new hq)) ⟨q, rfl, upd_same⟩ ⟨.inr ⟨rfl, x, rfl⟩, fun y hy => (by cases hy), Nat.zero_le _, szB_pos d, fun i hi => (by cases hi; exact ⟨x0, x1⟩)⟩
      · have hm3' : m ≠ 2 := fun z => by rw [z] at hm3; exact absurd hm3 (by decide)
        have hd1 : 1 ≤ d := md (by omega)
        obtain ⟨d', rfl⟩ : ∃ d', d = d' + 1 := ⟨d - 1, by omega⟩
        have e04 : Ex (wo H p) H4 := e2.trans (e3.trans e4)
        have hp4 := hp2.mono (e3.trans e4)
        refine asg_k (formC (d := d') hp4 rfl (ev_is (ev_op (ev_var rfl) ev_c rv_I0) (by show V.int (((d' + 1 : Nat) : Int) - 1) = _; congr 1; omega)) rfl rfl (by omega) (ln.mono (wo_sub e04)) (lr.mono (wo_sub e04)) fun v1 t1 H5 e5 hp5 a5 f5 => ?_)
        have e05 : Ex (wo H p) H5 := wo_tr e04 e5
        refine q_when (b := decide (V.int m = V.int 3)) (et_test (ev_op (ev_var rfl) ev_c (rv_eq rfl))) (fun _ H6 e6 => ?_) (fun hm4 H6 e6 => ?_)
        · refine ret_k (tup_k (ac_v ev_c fun H7 e7 => ac_k (numC (hp5.mono (e6.trans e7)) rfl fun x H8 x0 x1 e8 hp8 => ac_v (ev_var rfl) fun H9 e9 => ac_nil ⟨sz_of (by show 3 ≤ 100000; decide), fun q hq => ?_⟩)))
          have e09 : Ex (wo H p) H9 := (wo_tr (e05.trans (e6.trans e7)) e8).trans e9
          have a9 : At H9 v1 t1 := a5.mono ((Tu.ex (e6.trans e7)).trans ((tu_wo (hp5.mono (e6.trans e7)) e8).trans (Tu.ex e9)))
          refine k _ (.ov "add" (.int x) t1) _ (e09.trans (Ex.new hq)) ((hp8.mono e9).mono (Ex.new hq)) ⟨q, v1, rfl, upd_same, a9.mono (Tu.ex (Ex.new hq))⟩ ⟨⟨.inr ⟨rfl, x, rfl⟩, f5.f⟩, ⟨fun r hr' => (by cases hr'), f5.has⟩, Nat.succ_le_succ f5.dp, ?_, ⟨fun i hi => (by cases hi; exact ⟨x0, x1⟩), f5.sm⟩⟩
          show (pcs t1).length + 1 ≤ 2 * szB d' + 1
          have := f5.sz
          omega
        · have hm4' : m ≠ 3 := fun z => by rw [z] at hm4; exact absurd hm4 (by decide)
          refine q_when (b := decide (m < 8)) (et_test (ev_op (ev_var rfl) ev_c rv_I0)) (fun hm8 H7 e7 => ?_) (fun hm8 H7 e7 => ?_)
          · have hm8' : m < 8 := of_decide_eq_true hm8
            obtain ⟨j, rfl⟩ : ∃ j : Nat, m = 4 + (j : Int) := ⟨(m - 4).toNat, by omega⟩
            obtain ⟨wd, hw, hwt⟩ : ∃ wd : Str, (["on", "on", "by", "til"] : List Str)[j]? = some wd ∧ wd ∈ turnL := by
              have : j = 0 ∨ j = 1 ∨ j = 2 ∨ j = 3 := by omega
              rcases this with e | e | e | e <;> subst e
              · exact ⟨"on", rfl, by decide⟩
              · exact ⟨"on", rfl, by decide⟩
              · exact ⟨"by", rfl, by decide⟩
              · exact ⟨"til", rfl, by decide⟩
            refine ret_k (tup_k (ac_v (ev_word (K := K) ["on", "on", "by", "til"] (ea_cons ev_c (ea_cons ev_c (ea_cons ev_c (ea_cons ev_c ea_nil)))) (ev_is (ev_op (ev_var rfl) ev_c rv_I0) (by congr 1; omega)) hw (by decide)) fun H8 e8 => ac_k (pickV (hp5.mono ((e6.trans e7).trans e8)) rfl rfl (lr.mono (wo_sub (e05.trans ((e6.trans e7).trans e8)))) fun x H9 hx e9 hp9 => ac_v (ev_var rfl) fun Ha ea => ac_nil ⟨sz_of (by show 3 ≤ 100000; decide), fun q hq => ?_⟩)))
            have e0a : Ex (wo H p) Ha := (wo_tr (e05.trans ((e6.trans e7).trans e8)) e9).trans ea
            have aa : At Ha v1 t1 := a5.mono ((Tu.ex ((e6.trans e7).trans e8)).trans ((tu_wo (hp5.mono ((e6.trans e7).trans e8)) e9).trans (Tu.ex ea)))
            refine k _ (.ov wd (.str x) t1) _ (e0a.trans (Ex.new hq)) ((hp9.mono ea).mono (Ex.new hq)) ⟨q, v1, rfl, upd_same, aa.mono (Tu.ex (Ex.new hq))⟩ ⟨⟨.inl ⟨hwt, x, lr.sub x hx, rfl⟩, f5.f⟩, ⟨fun r hr' => (by cases hr'; exact hx), f5.has⟩, Nat.succ_le_succ f5.dp, ?_, ⟨fun i hi => (by cases hi), f5.sm⟩⟩
            show (pcs t1).length + 1 ≤ 2 * szB d' + 1
            have := f5.sz
            omega
          · have hm8' : ¬ m < 8 := of_decide_eq_false hm8
            obtain ⟨j, rfl⟩ : ∃ j : Nat, m = 8 + (j : Int) := ⟨(m - 8).toNat, by omega⟩
            obtain ⟨wd, hw, hwt⟩ : ∃ wd : Str, (["late", "soon", "late"] : List Str)[j]? = some wd ∧ (wd = "late" ∨ wd = "soon") := by
              have : j = 0 ∨ j = 1 ∨ j = 2 := by omega
              rcases this with e | e | e <;> subst e
              · exact ⟨"late", rfl, .inl rfl⟩
              · exact ⟨"soon", rfl, .inr rfl⟩
              · exact ⟨"late", rfl, .inl rfl⟩
            have e07 : Ex H5 H7 := e6.trans e7
            refine ret_k (tup_k (ac_v (ev_word (K := K) ["late", "soon", "late"] (ea_cons ev_c (ea_cons ev_c (ea_cons ev_c ea_nil))) (ev_is (ev_op (ev_var rfl) ev_c rv_I0) (by congr 1; omega)) hw (by decide)) fun H8 e8 => ac_v (ev_var rfl) fun H9 e9 => ac_k (formC (d := d') (hp5.mono ((e07.trans e8).trans e9)) rfl (ev_is (ev_op (ev_var rfl) ev_c rv_I0) (by show V.int (((d' + 1 : Nat) : Int) - 1) = _; congr 1; omega)) rfl rfl (by omega) (ln.mono (wo_sub (e05.trans ((e07.trans e8).trans e9)))) (lr.mono (wo_sub (e05.trans ((e07.trans e8).trans e9)))) fun v2 t2 Ha ea hpa aa fa => ac_nil ⟨sz_of (by show 3 ≤ 100000; decide), fun q hq => ?_⟩)))
            have e59 : Ex H5 H9 := (e07.trans e8).trans e9
            have e0a : Ex (wo H p) Ha := wo_tr (e05.trans e59) ea
            have a1 : At Ha v1 t1 := a5.mono ((Tu.ex e59).trans (tu_wo (hp5.mono e59) ea))
            refine k _ (.bi wd t1 t2) _ (e0a.trans (Ex.new hq)) (hpa.mono (Ex.new hq)) ⟨q, v1, v2, rfl, upd_same, a1.mono (Tu.ex (Ex.new hq)), aa.mono (Tu.ex (Ex.new hq))⟩ ⟨⟨hwt, f5.f, fa.f⟩, ⟨f5.has, fa.has⟩, ?_, ?_, ⟨f5.sm, fa.sm⟩⟩
            · show max (depth t1) (depth t2) + 1 ≤ d' + 1
              have := f5.dp
              have := fa.dp
              omega
            · show (pcs t1 ++ pcs t2).length + 1 ≤ 2 * szB d' + 1
              rw [List.length_append]
              have := f5.sz
              have := fa.sz
              omega
end
end K25
end
section
set_option maxHeartbeats 2000000
namespace G
open PySem L2 Evl TD SX PyProof.Rows
/-! ### what sorted(set(xs)) tells, always -/
noncomputable def lt (a b : Str) : Prop := a.cps.toList < b.cps.toList
theorem ins_ex (x : Str) : ∀ ys : List Str, ys.Pairwise lt → x ∉ ys → ∃ zs : List Str, zs.Pairwise lt ∧ ∀ k, k ∈ zs ↔ k = x ∨ k ∈ ys
  | [], _, _ => ⟨[x], List.pairwise_singleton _ _, fun k => by simp⟩
  | y :: l, hp, hn => by
    obtain ⟨h1, h2⟩ := List.pairwise_cons.mp hp
    have hxy : x ≠ y := fun z => hn (by rw [z]; exact List.mem_cons_self)
    by_cases h : lt x y
    · refine ⟨x :: y :: l, List.pairwise_cons.mpr ⟨fun z hz => ?_, hp⟩, fun k => List.mem_cons⟩
      rcases List.mem_cons.mp hz with e | hz
      · subst e; exact h
      · exact List.lt_trans h (h1 z hz)
    · obtain ⟨zs, hz, hm⟩ := ins_ex x l h2 fun z => hn (List.mem_cons_of_mem _ z)
      have hyx : lt y x := by
        refine Classical.byContradiction fun q => hxy (cps_inj (List.le_antisymm (List.not_lt.mp q) (List.not_lt.mp h)))
      refine ⟨y :: zs, List.pairwise_cons.mpr ⟨fun z hzz => ?_, hz⟩, fun k => ?_⟩
      · rcases (hm z).mp hzz with e | q
        · subst e; exact hyx
        · exact h1 z q
      · rw [List.mem_cons, hm, List.mem_cons]
        constructor
        · rintro (a | a | a)
          · exact .inr (.inl a)
          · exact .inl a
          · exact .inr (.inr a)
        · rintro (a | a | a)
          · exact .inr (.inl a)
          · exact .inl a
          · exact .inr (.inr a)
theorem strict_ex : ∀ xs : List Str, ∃ ys : List Str, ys.Pairwise lt ∧ ∀ k, k ∈ ys ↔ k ∈ xs
  | [] => ⟨[], List.Pairwise.nil, fun _ => Iff.rfl⟩
  | x :: xs => by
    obtain ⟨ys, h1, h2⟩ := strict_ex xs
    by_cases h : x ∈ ys
    · refine ⟨ys, h1, fun k => ?_⟩
      rw [List.mem_cons, ← h2]
      exact ⟨.inr, fun z => z.elim (fun e => e ▸ h) id⟩
    · obtain ⟨zs, h3, h4⟩ := ins_ex x ys h1 h
      exact ⟨zs, h3, fun k => by rw [h4, h2, List.mem_cons]⟩
theorem strict_nrm {xs ys : List Str} (h : ys.Pairwise lt) (hm : ∀ k, k ∈ ys ↔ k ∈ xs) : IsNrm xs ys := by
  refine ⟨sortedS_of_pairwise _ (h.imp fun {a b} q => ?_), h.imp fun {a b} q e => ?_, hm⟩
  · rw [ltCps_eq]
    exact decide_eq_false fun z => List.lt_irrefl _ (List.lt_trans q z)
  · subst e
    exact List.lt_irrefl _ q
theorem nrm_is (xs : List Str) : IsNrm xs (nrm xs) := by
  obtain ⟨ys, h1, h2⟩ := strict_ex xs
  have h := strict_nrm h1 h2
  rw [nrm_eq h]
  exact h
theorem mem_nrm {xs : List Str} {k : Str} : k ∈ nrm xs ↔ k ∈ xs := (nrm_is xs).2.2 k
theorem nrm_nodup (xs : List Str) : (nrm xs).Nodup := (nrm_is xs).2.1
theorem nrm_len (xs : List Str) : (nrm xs).length ≤ xs.length := nodup_len (nrm_nodup xs) fun k hk => mem_nrm.mp hk
variable {K : PySem.W.Frag} {σ : L2.St} {H : Hp} {te tl : TE} {tt : TT} {xs : List V} {j : Nat} {vs : List Nat}
/-- [e for x in a new tuple if ..] -/
theorem el_lcU (f : Nat → Bool) (v : Nat → V) (h : EvU tl σ H xs) (hz : xs.length ≤ 40000) (hw : ∀ x, wipe ((wipe σ vs).set j (some x)) vs = wipe σ vs)
    (ht : ∀ (i : Nat) (x : V) H1, Ex H H1 → xs[i]? = some x → EvT tt ((wipe σ vs).set j (some x)) H1 (f i)) (he : ∀ (i : Nat) (x : V) H1, Ex H H1 → xs[i]? = some x → f i = true → Ev te ((wipe σ vs).set j (some x)) H1 (v i)) :
    EvL (tLc (iTup K tl) (gName j) tt te vs) σ H (given xs.length f v) := fun H0 e Q q => h H0 e _ fun a H1 ha e1 hx => ⟨a, rfl, ⟨xs, st_of hx⟩, fun Dl hD =>
  lc_tup (xs := xs) (Cw H1 f v Dl) ⟨hD, Ex.new hD, upd_same⟩ (fun i H' _ p => st_of (p.2.1 a _ hx)) (fun i x H' hi p => ⟨hw x, cw_turn p (by have := (List.getElem?_eq_some_iff.mp hi).1; omega) (ht i x H1 (e.trans e1) hi) (fun hf => he i x H1 (e.trans e1) hi hf)⟩)
    (fun H' p => q Dl H' (fresh_back e1 p.1) (e1.trans p.2.1) p.2.2)⟩
theorem sizes_sum (ts : List Td) : ((sizes ts : Nat) : Int) = (ts.map fun t => ((pcs t).length : Int)).sum := by
  induction ts with
  | nil => rfl
  | cons t ts ih => rw [sizes_cons, List.map_cons, List.sum_cons, ← ih]; omega
end G
end
section
set_option maxHeartbeats 4000000
namespace K25
open PySem L2 Evl G TM TD
noncomputable def szS : Nat → Nat
  | 0 => 7
  | d + 1 => 2 * szS d + 1
/-- a drawn saying -/
structure SOk (N R : List Str) (d : Nat) (t : Td) : Prop where
  f : IsS t
  has : Has N R t
  dp : depth t ≤ d + 2
  sz : (pcs t).length ≤ szS d
  sm : Small t
/-- some sayings to be drawn from -/
structure SayL (B : Hp) (a : Addr) (N R : List Str) (ys : List V) (ts : List Td) : Prop where
  at_ : B a = some (.lst ys)
  ats : Ats B ys ts
  pos : 0 < ys.length
  few : ys.length ≤ 1000
  ok : ∀ t ∈ ts, SOk N R 0 t
theorem SayL.mono {B B' : Hp} {a : Addr} {N R : List Str} {ys : List V} {ts : List Td} (e : Ex B B') (h : SayL B a N R ys ts) : SayL B' a N R ys ts := ⟨e a _ h.at_, h.ats.mono (Tu.ex e), h.pos, h.few, h.ok⟩
noncomputable def sp_saying (K : PySem.W.Frag) (n : Nat) : Sp := fun vs H Q _ => ∃ (p : Addr) (d : Nat) (sl : Addr) (N R : List Str) (ys : List V) (ts : List Td), vs = [.ref p, .int (d : Int), .ref sl] ∧ d < n ∧ PotAt H p ∧ SayL (wo H p) sl N R ys ts ∧
  ∀ v t H2, Ex (wo H p) H2 → PotAt H2 p → At H2 v t → SOk N R d t → Q v H2
section
variable {K : PySem.W.Frag} {σ : L2.St} {H : Hp} {p C : Addr} {i j : Nat} {ta tb te : TE} {Q : VK} {E : XK}
theorem sayC {n d : Nat} {sl : Addr} {N R : List Str} {ys : List V} {ts : List Td} {i2 : Nat} (hp : PotAt H p) (hv : σ[i]? = some (some (.ref p))) (hd : Ev te σ H (.int (d : Int))) (h2 : σ[i2]? = some (some (.ref sl))) (hn : d < n) (ln : SayL (wo H p) sl N R ys ts)
    (k : ∀ v t H2, Ex (wo H p) H2 → PotAt H2 p → At H2 v t → SOk N R d t → Q v H2) : tCall (sp_saying K n) [] E (tCons (tVar i) (tCons te (tCons (tVar i2) tNil))) σ H Q := ⟨.ref p, hv, hd H (Ex.refl _) _ fun H1 e1 => ⟨.ref sl, h2, p, d, sl, N, R, ys, ts, rfl, hn, hp.mono e1, ln.mono (wo_mono e1), fun v t H2 e2 => k v t H2 ((wo_mono e1).trans e2)⟩⟩
theorem pickS {s : Addr} {N R : List Str} {ys : List V} {ts : List Td} (hp : PotAt H p) (hv : σ[i]? = some (some (.ref p))) (hs : σ[j]? = some (some (.ref s))) (hl : SayL (wo H p) s N R ys ts) (k : ∀ (v : V) (t : Td) (H2 : Hp), Ex (wo H p) H2 → PotAt H2 p → At H2 v t → SOk N R 0 t → Q v H2) :
    tCall (sp_pick K) [] E (tCons (tVar i) (tCons (tVar j) tNil)) σ H Q := ⟨.ref p, hv, .ref s, hs, p, s, ys, rfl, hp, sq_of hl.at_, hl.pos, hl.few, fun m v H2 hm e h2 => by
      obtain ⟨t, ht, hat⟩ := hl.ats.get hm
      exact k v t H2 e h2 (hat.mono (Tu.ex e)) (hl.ok t (List.mem_of_getElem? ht))⟩
end
section
variable {P : Program} {w : World} {K : PySem.W.Frag} {mg : Str → Option Value} {base : Heap} {C SZ SY : Addr}
theorem ok_saying {f f1 f2 : Addr} {fd fd1 fd2 : FuncData} (F : Fun K "_law_saying" "_law_saying" s__law_saying f fd) (T : Txt P w K mg C SZ SY) (me : Me K mg "_law_saying" f fd ["_law_pot_here", "_law_deep", "_law_some_here"]) (c__law_draw : Cal P w K mg base "_law_draw" f1 fd1 ["_law_pot_here", "_law_many_here"] 1 sp_draw) (c__law_pick : Cal P w K mg base "_law_pick" f2 fd2 ["_law_pot_here", "_law_some_here"] 2 (sp_pick K)) :
    ∀ n, FnOk P w K mg base CX0 (n + 3) f fd ["_law_pot_here", "_law_deep", "_law_some_here"] (sp_saying K n) := by
  intro n
  induction n with
  | zero => exact ⟨fun vs H Q E h => by obtain ⟨p, d, sl, N, R, ys, ts, _, hd, _⟩ := h; exact absurd hd (Nat.not_lt_zero _), fun A outer s H args us vs Q E _ _ _ _ h => by obtain ⟨p, d, sl, N, R, ys, ts, _, hd, _⟩ := h; exact absurd hd (Nat.not_lt_zero _)⟩
  | succ n ih =>
  have c__law_saying : Cal P w K mg base "_law_saying" f fd ["_law_pot_here", "_law_deep", "_law_some_here"] (n + 3) (sp_saying K n) := ⟨ih, me.mgx, me.kp, me.bd⟩
  refine F.ok (k := n + 3) sc__law_saying (fun vs H Q E h => ?_) (fun cdv A outer s H vs Q E hr h => ?_)
  · obtain ⟨p, d, sl, N, R, ys, ts, rfl, _⟩ := h
    rfl
  · obtain ⟨p, d, sl, N, R, ys, ts, rfl, hdn, hp, ln, k⟩ := h
    refine ⟨_, (pss_cons (ps_set (i := 3) sc__law_saying.nd rfl (Or.inl rfl) (pe_ifExp (pt_cmpR op_gt (pv 1) pe_int (nomark _)) (pe_call c__law_draw.ok (hr.mono (by omega)) (by rfl) c__law_draw.mgx c__law_draw.kp c__law_draw.bd .nil pass0 (pa_cons (pv 0) (pa_cons pe_int pa_nil))) pe_int)) (pss_cons (ps_if (pt_cmpR op_eq (pv 3) pe_int (nomark _)) (pss_one (ps_ret (pe_call c__law_pick.ok (hr.mono (by omega)) (by rfl) c__law_pick.mgx c__law_pick.kp c__law_pick.bd .nil pass0 (pa_cons (pv 0) (pa_cons (pv 2) pa_nil))))) pss_nil) (pss_cons (ps_set (i := 4) sc__law_saying.nd rfl (Or.inl rfl) (pe_call c__law_saying.ok (hr.mono (by omega)) (by rfl) c__law_saying.mgx c__law_saying.kp c__law_saying.bd .nil pass0 (pa_cons (pv 0) (pa_cons (pe_op op_sub (pv 1) pe_int) (pa_cons (pv 2) pa_nil))))) (pss_cons (ps_if (pt_cmpR op_eq (pv 3) pe_int (nomark _)) (pss_one (ps_ret (pe_tup (pa_cons pe_str (pa_cons (pv 4) pa_nil))))) pss_nil) (pss_one (ps_ret (pe_tup (pa_cons (pe_ix (ixL (K := K) rfl) (pe_lst (pa_cons pe_str (pa_cons pe_str (pa_cons pe_str (pa_cons pe_str pa_nil))))) (pe_op op_sub (pv 3) pe_int) (fun _ _ => rfl)) (pa_cons (pv 4) (pa_cons (pe_call c__law_saying.ok (hr.mono (by omega)) (by rfl) c__law_saying.mgx c__law_saying.kp c__law_saying.bd .nil pass0 (pa_cons (pv 0) (pa_cons (pe_op op_sub (pv 1) pe_int) (pa_cons (pv 2) pa_nil)))) pa_nil)))))))))), ?_⟩
    refine asg_k (if_mid (b := decide ((d : Int) > 0)) (fun v H2 => ∃ m : Int, v = .int m ∧ 0 ≤ m ∧ m < 6 ∧ (1 ≤ m → 1 ≤ d) ∧ Ex (wo H p) H2 ∧ PotAt H2 p) (et_test (ev_op (ev_var rfl) ev_c rv_I0)) (fun hb H1 e1 Q' q' => drawC (hp.mono e1) rfl ev_c (by decide) (by decide) fun m H2 m0 m1 e2 h2 => q' _ H2 ⟨m, rfl, m0, m1, fun _ => (by have := of_decide_eq_true hb; omega), (wo_mono e1).trans e2, h2⟩) (fun hb H1 e1 Q' q' => q' _ H1 ⟨0, rfl, by omega, by omega, fun _ => by omega, wo_ex.trans e1, hp.mono e1⟩) ?_)
    rintro _ H2 ⟨m, rfl, m0, m5, md, e2, hp2⟩
    refine q_when (b := decide (V.int m = V.int 0)) (et_test (ev_op (ev_var rfl) ev_c (rv_eq rfl))) (fun _ H3 e3 => ?_) (fun hm2 H3 e3 => ?_)
    · refine ret_k (pickS (hp2.mono e3) rfl rfl (ln.mono (wo_sub (e2.trans e3))) fun v t H4 e4 hp4 hat ok => k v t H4 (wo_tr (e2.trans e3) e4) hp4 hat ⟨ok.f, ok.has, by have := ok.dp; omega, ?_, ok.sm⟩)
      have h1 : (pcs t).length ≤ 7 := ok.sz
      have h2 : 7 ≤ szS d := by
        clear hdn
        induction d with
        | zero => exact Nat.le_refl _
        | succ d ih => show 7 ≤ 2 * szS d + 1; have : ∀ e, 7 ≤ szS e := (fun e => by induction e with | zero => exact Nat.le_refl _ | succ e ih => (show 7 ≤ 2 * szS e + 1); omega); have := this d; omega
      omega
    · have hm2' : m ≠ 0 := fun z => by rw [z] at hm2; exact absurd hm2 (by decide)
      have hd1 : 1 ≤ d := md (by omega)
      obtain ⟨d', rfl⟩ : ∃ d', d = d' + 1 := ⟨d - 1, by omega⟩
      have e03 : Ex (wo H p) H3 := e2.trans e3
      have hp3 := hp2.mono e3
      refine asg_k (sayC (d := d') hp3 rfl (ev_is (ev_op (ev_var rfl) ev_c rv_I0) (by show V.int (((d' + 1 : Nat) : Int) - 1) = _; congr 1; omega)) rfl (by omega) (ln.mono (wo_sub e03)) fun v1 t1 H5 e5 hp5 a5 f5 => ?_)
      have e05 : Ex (wo H p) H5 := wo_tr e03 e5
      refine q_when (b := decide (V.int m = V.int 1)) (et_test (ev_op (ev_var rfl) ev_c (rv_eq rfl))) (fun _ H6 e6 => ?_) (fun hm4 H6 e6 => ?_)
      · refine ret_k (tup_k (ac_v ev_c fun H7 e7 => ac_v (ev_var rfl) fun H8 e8 => ac_nil ⟨sz_of (by show 2 ≤ 100000; decide), fun q hq => ?_⟩))
        have e68 := (e6.trans e7).trans e8
        refine k _ (.nt t1) _ ((e05.trans e68).trans (Ex.new hq)) ((hp5.mono e68).mono (Ex.new hq)) ⟨q, v1, rfl, upd_same, a5.mono (Tu.ex (e68.trans (Ex.new hq)))⟩ ⟨f5.f, f5.has, Nat.succ_le_succ f5.dp, ?_, f5.sm⟩
        show (pcs t1).length + 1 ≤ 2 * szS d' + 1
        have := f5.sz
        omega
      · have hm4' : m ≠ 1 := fun z => by rw [z] at hm4; exact absurd hm4 (by decide)
        obtain ⟨j, rfl⟩ : ∃ j : Nat, m = 2 + (j : Int) := ⟨(m - 2).toNat, by omega⟩
        obtain ⟨wd, hw, hwt⟩ : ∃ wd : Str, (["and", "or", "and", "or"] : List Str)[j]? = some wd ∧ (wd = "and" ∨ wd = "or") := by
          have : j = 0 ∨ j = 1 ∨ j = 2 ∨ j = 3 := by omega
          rcases this with e | e | e | e <;> subst e
          · exact ⟨"and", rfl, .inl rfl⟩
          · exact ⟨"or", rfl, .inr rfl⟩
          · exact ⟨"and", rfl, .inl rfl⟩
          · exact ⟨"or", rfl, .inr rfl⟩
        refine ret_k (tup_k (ac_v (ev_word (K := K) ["and", "or", "and", "or"] (ea_cons ev_c (ea_cons ev_c (ea_cons ev_c (ea_cons ev_c ea_nil)))) (ev_is (ev_op (ev_var rfl) ev_c rv_I0) (by congr 1; omega)) hw (by decide)) fun H8 e8 => ac_v (ev_var rfl) fun H9 e9 => ac_k (sayC (d := d') (hp5.mono ((e6.trans e8).trans e9)) rfl (ev_is (ev_op (ev_var rfl) ev_c rv_I0) (by show V.int (((d' + 1 : Nat) : Int) - 1) = _; congr 1; omega)) rfl (by omega) (ln.mono (wo_sub (e05.trans ((e6.trans e8).trans e9)))) fun v2 t2 Ha ea hpa aa fa => ac_nil ⟨sz_of (by show 3 ≤ 100000; decide), fun q hq => ?_⟩)))
        have e59 : Ex H5 H9 := (e6.trans e8).trans e9
        have e0a : Ex (wo H p) Ha := wo_tr (e05.trans e59) ea
        have a1 : At Ha v1 t1 := a5.mono ((Tu.ex e59).trans (tu_wo (hp5.mono e59) ea))
        refine k _ (.bi wd t1 t2) _ (e0a.trans (Ex.new hq)) (hpa.mono (Ex.new hq)) ⟨q, v1, v2, rfl, upd_same, a1.mono (Tu.ex (Ex.new hq)), aa.mono (Tu.ex (Ex.new hq))⟩ ⟨.inr ⟨hwt, f5.f, fa.f⟩, ⟨f5.has, fa.has⟩, ?_, ?_, ⟨f5.sm, fa.sm⟩⟩
        · show max (depth t1) (depth t2) + 1 ≤ d' + 1 + 2
          have := f5.dp
          have := fa.dp
          omega
        · show (pcs t1 ++ pcs t2).length + 1 ≤ 2 * szS d' + 1
          rw [List.length_append]
          have := f5.sz
          have := fa.sz
          omega
end
end K25
end
section
set_option maxHeartbeats 4000000
namespace K25
open PySem L2 Evl G TM TD
section
variable {K : PySem.W.Frag} {σ : L2.St} {H : Hp} {ta tb te tl : TE} {tt : TT} {tu tz : TS} {D : Ends} {xs ys : List V} {a : Addr} {j : Nat} {ts : List Td}
theorem cut1 (x : V) (l : List V) : cutV (x :: l) (some 1) none = l := by
  show ((x :: l).drop (min 1 (l.length + 1))).take (l.length + 1 - min 1 (l.length + 1)) = l
  rw [Nat.min_eq_left (by omega)]
  simp
end
theorem given_drop (l1 l2 : List V) (h : l1.length ≤ 1) : given (l1 ++ l2).length (fun i => decide (l1.length ≤ i)) (fun i => (l1 ++ l2).getD i .non) = l2 := by
  match l1, h with
  | [], _ =>
    have := given_filter l2 V.non (fun _ => true) id
    rw [filter_yes, List.map_id] at this
    exact this
  | [v], _ =>
    have := given_filter l2 V.non (fun _ => true) id
    rw [filter_yes, List.map_id] at this
    unfold given at this ⊢
    show (List.filter (fun i => decide (1 ≤ i)) (List.range (l2.length + 1))).map (fun i => (v :: l2).getD i .non) = l2
    rw [List.range_succ_eq_map, List.filter_cons]
    show (List.filter (fun i => decide (1 ≤ i)) ((List.range l2.length).map Nat.succ)).map (fun i => (v :: l2).getD i .non) = l2
    rw [List.filter_map, List.map_map]
    conv => rhs; rw [← this]
    have e2 : (fun i => decide (1 ≤ i)) ∘ Nat.succ = fun _ : Nat => true := by
      funext i
      show decide (1 ≤ i + 1) = true
      exact decide_eq_true (by omega)
    rw [e2]
    rfl
theorem own_le (t : Td) : (own t).length ≤ 1 := by cases t <;> simp [own]
noncomputable def Told (t : Td) : Prop := IsF t ∨ IsS t
theorem Told.kid {t u : Td} (h : Told t) (hu : u ∈ kids t) : Told u := by
  rcases h with h | h
  · exact .inl ((isF_top h).2 u hu)
  · rcases (isS_top h).2 with ⟨_, k⟩ | ⟨_, k⟩
    · exact .inl (k u hu)
    · exact .inr (k u hu)
theorem depth_kid {t u : Td} (hu : u ∈ kids t) : depth u < depth t := by
  cases t with
  | lf w v => cases hu
  | ov w v t => cases List.mem_singleton.mp hu; exact Nat.lt_succ_self _
  | nt t => cases List.mem_singleton.mp hu; exact Nat.lt_succ_self _
  | bi w t u' =>
    show depth u < max (depth t) (depth u') + 1
    rcases List.mem_cons.mp hu with e | e
    · subst e; omega
    · cases List.mem_singleton.mp e; omega
theorem Told.flat {t : Td} (h : Told t) : ∀ v ∈ own t, (∃ x, v = V.str x) ∨ ∃ i, v = V.int i := by
  intro v hv
  cases t with
  | lf w u =>
    cases List.mem_singleton.mp hv
    rcases h with h | h
    · rcases h with ⟨_, n, _, rfl⟩ | ⟨_, i, rfl⟩
      · exact .inl ⟨n, rfl⟩
      · exact .inr ⟨i, rfl⟩
    · exact h.elim
  | ov w u t =>
    cases List.mem_singleton.mp hv
    rcases h with h | h
    · rcases h.1 with ⟨_, n, _, rfl⟩ | ⟨_, i, rfl⟩
      · exact .inl ⟨n, rfl⟩
      · exact .inr ⟨i, rfl⟩
    · exact h.elim
  | nt t => cases hv
  | bi w t u => cases hv
noncomputable def sp_parts : Sp := fun vs H Q _ => ∃ x t, vs = [x] ∧ At H x t ∧ Told t ∧ RetLs (kids t) H Q
theorem spl_parts {x : V} {t : Td} {H : Hp} (h : At H x t) (o : Told t) : SpLs sp_parts ([x] ++ []) H (kids t) := fun H1 e Q q E => ⟨x, t, rfl, h.mono (Tu.ex e), o, q⟩
noncomputable def sp_size (n : Nat) : Sp := fun vs H Q _ => ∃ x t, vs = [x] ∧ At H x t ∧ Told t ∧ depth t < n ∧ RetV (.int ((pcs t).length : Int)) H Q
theorem spv_size {n : Nat} {x : V} {t : Td} {H : Hp} (h : At H x t) (o : Told t) (d : depth t < n) : SpV (sp_size n) ([x] ++ []) H (.int ((pcs t).length : Int)) := fun H1 e Q q E => ⟨x, t, rfl, h.mono (Tu.ex e), o, d, q⟩
section
variable {P : Program} {w : World} {K : PySem.W.Frag} {mg : Str → Option Value} {base : Heap} {C SZ SY : Addr}
theorem ok_parts {f : Addr} {fd : FuncData} (F : Fun K "_law_parts" "_law_parts" s__law_parts f fd) (T : Txt P w K mg C SZ SY) : FnOk P w K mg base CX0 1 f fd ["_law_told"] sp_parts := by
  refine F.ok sc__law_parts (fun vs H Q E h => ?_) (fun cdv A outer s H vs Q E hr h => ?_)
  · obtain ⟨x, t, rfl, _⟩ := h
    rfl
  · obtain ⟨x, t, rfl, ht, hk, k⟩ := h
    refine ⟨_, (pss_one (ps_ret (pe_lc (own := [("_law_part", 1)]) (g := (gName 1)) (by rfl) sc__law_parts.nd (piT (K := K) rfl (pe_slice (slA (K := K) rfl) (pv 0) (po_some pe_int) po_none)) (blkOk_by (own := [("_law_part", 1)]) (N := ["_law_told", "_law_part"]) (sc := defScope s__law_parts) (by decide +kernel)) (fun _ _ _ _ _ => (pg_name (i := 1) sc__law_parts.nd rfl (Or.inl rfl))) (fun _ _ _ _ _ => (pts_one (pt_val (pe_callB (isiS (K := K) rfl) (by rfl) T.b_isinstance (by decide +kernel) (pa_cons (pv 1) (pa_cons (pe_bltn (v := .ty "tuple") (u := .type "tuple") (by rfl) T.b_tuple (by decide +kernel) rfl) pa_nil)))))) (fun _ _ _ _ _ => (pv 1))))), ?_⟩
    obtain ⟨a, ys, rfl, ha, hy⟩ := id ht.open
    have hsl : EvU (tSl (rSlA K) (tVar 0) (tPart (tC (.int 1))) tNoPart) [some (.ref a), none] H (own t ++ ys) := by
      have := eu_slA (K := K) (σ := [some (V.ref a), none]) (ev_var (i := 0) rfl) (eo_some (ev_c (v := .int 1))) eo_none (st_of ha) (by
        rintro ⟨z, _⟩
        exact absurd z (by show ¬ (min 1 ((own t ++ ys).length + 1) = 0); omega))
      rw [cut1] at this
      exact this
    have hlen : (own t ++ ys).length ≤ 40000 := by rw [List.length_append, hy.len]; have := own_le t; have := kids_le t; omega
    have hc := el_lcU (K := K) (j := 1) (vs := [1]) (tt := tTest (tCB (rIsi K) (tCons (tVar 1) (tCons (tC (.ty "tuple")) tNil)))) (te := tVar 1) (fun i => decide ((own t).length ≤ i)) (fun i => (own t ++ ys).getD i .non) hsl hlen (fun _ => rfl) (fun i y H1 e1 hi => by
      by_cases ho : (own t).length ≤ i
      · rw [decide_eq_true ho]
        rw [List.getElem?_append_right ho] at hi
        obtain ⟨u, hu, hyu⟩ := hy.get hi
        obtain ⟨b, zs, rfl, hb, _⟩ := hyu.open
        exact et_test (ev_isiB (b := true) (ev_var (i := 1) rfl) (fun H2 e2 => .base (.tup ((e1.trans e2) b _ hb))) (by decide +kernel))
      · rw [decide_eq_false ho]
        rw [List.getElem?_append_left (by omega)] at hi
        rcases hk.flat y (List.mem_of_getElem? hi) with ⟨z, rfl⟩ | ⟨z, rfl⟩
        · exact et_test (ev_isiB (b := false) (ev_var (i := 1) rfl) (fun H2 e2 => .base (.str z)) (by decide +kernel))
        · exact et_test (ev_isiB (b := false) (ev_var (i := 1) rfl) (fun H2 e2 => .base (.int z)) (by decide +kernel))) (fun i y H1 e1 hi _ => by
      rw [List.getD_eq_getElem?_getD, hi]
      exact ev_var (i := 1) rfl)
    rw [given_drop _ _ (own_le t)] at hc
    exact s_retL hc fun p H1 hp e h1 => k p ys H1 hp e h1 (hy.mono (Tu.ex e))
theorem ok_size {f f1 : Addr} {fd fd1 : FuncData} (F : Fun K "_law_size" "_law_size" s__law_size f fd) (T : Txt P w K mg C SZ SY) (me : Me K mg "_law_size" f fd ["_law_told"]) (c__law_parts : Cal P w K mg base "_law_parts" f1 fd1 ["_law_told"] 1 sp_parts) :
    ∀ n, FnOk P w K mg base CX0 (n + 2) f fd ["_law_told"] (sp_size n) := by
  intro n
  induction n with
  | zero => exact ⟨fun vs H Q E h => by obtain ⟨x, t, _, _, _, hd, _⟩ := h; exact absurd hd (Nat.not_lt_zero _), fun A outer s H args us vs Q E _ _ _ _ h => by obtain ⟨x, t, _, _, _, hd, _⟩ := h; exact absurd hd (Nat.not_lt_zero _)⟩
  | succ n ih =>
  have c__law_size : Cal P w K mg base "_law_size" f fd ["_law_told"] (n + 2) (sp_size n) := ⟨ih, me.mgx, me.kp, me.bd⟩
  refine F.ok (k := n + 2) sc__law_size (fun vs H Q E h => ?_) (fun cdv A outer s H vs Q E hr h => ?_)
  · obtain ⟨x, t, rfl, _⟩ := h
    rfl
  · obtain ⟨x, t, rfl, ht, hk, hd, k⟩ := h
    refine ⟨_, (pss_one (ps_ret (pe_op op_add pe_int (pe_callB (sumL (K := K) rfl rfl) (by rfl) T.b_sum (by decide +kernel) (pa_cons (pe_lc (own := [("_law_part", 1)]) (g := (gName 1)) (by rfl) sc__law_size.nd (piL (K := K) rfl (pe_call c__law_parts.ok (hr.mono (by omega)) (by rfl) c__law_parts.mgx c__law_parts.kp c__law_parts.bd .nil pass0 (pa_cons (pv 0) pa_nil))) (blkOk_by (own := [("_law_part", 1)]) (N := ["_law_told", "_law_part"]) (sc := defScope s__law_size) (by decide +kernel)) (fun _ _ _ _ _ => (pg_name (i := 1) sc__law_size.nd rfl (Or.inl rfl))) (fun _ _ _ _ _ => pts_nil) (fun _ _ _ _ _ => (pe_call c__law_size.ok (hr.mono (by omega)) (by rfl) c__law_size.mgx c__law_size.kp c__law_size.bd .nil pass0 (pa_cons (pv 1) pa_nil)))) pa_nil))))), ?_⟩
    have eqn : ((kids t).filter fun _ => true).map (fun t => V.int ((pcs t).length : Int)) = ((kids t).map fun t => ((pcs t).length : Int)).map V.int := by
      rw [filter_yes, List.map_map] <;> rfl
    refine s_ret (ev_is (ev_op ev_c (ev_cbL (el_eq (el_lcLs (K := K) (j := 1) (vs := [1]) (fun _ => true) (fun t => V.int ((pcs t).length : Int)) (els_call (ea_cons (ev_var rfl) ea_nil) (spl_parts ht hk)) (by have := kids_le t; omega) (fun _ => rfl) (fun _ _ _ _ _ _ => lc_yes) (fun y u H1 e1 hy hu _ => ev_call (ea_cons (ev_var (i := 1) rfl) ea_nil) (spv_size hy (hk.kid hu) (by have := depth_kid hu; omega)))) eqn) fun p H1 e h1 => rc_sum (sq_of h1)) rv_I0) (w := .int ((pcs t).length : Int)) ?_) fun H1 e => k H1 e
    rw [← sizes_sum, size_kids t]
    congr 1
end
end K25
end
section
set_option maxHeartbeats 4000000
namespace K25
open PySem L2 Evl G TM TD
/-- the letters behind some words -/
noncomputable def letL (ws : List Str) (t : Td) : List Str := ((pcs t).filter fun u => decide (word u ∈ ws)).map ownS
noncomputable def own1 (ws : List Str) (t : Td) : List Str := if word t ∈ ws then [ownS t] else []
noncomputable def NiceW (ws : List Str) (t : Td) : Prop := ∀ u ∈ pcs t, word u ∈ ws → ∃ n, own u = [.str n]
noncomputable def sp_letters (K : PySem.W.Frag) (n : Nat) : Sp := fun vs H Q _ => ∃ x t wl ws, vs = [x, .ref wl] ∧ At H x t ∧ Told t ∧ depth t < n ∧ SqL K H wl (ws.map V.str) ∧ NiceW ws t ∧ (pcs t).length ≤ 63 ∧ RetL ((nrm (letL ws t)).map V.str) H Q
/-- so far: the own letter, then the sorted letters of some parts -/
noncomputable def gath (ws : List Str) (t : Td) (us : List Td) : List Str := own1 ws t ++ us.flatMap fun u => nrm (letL ws u)
/-- a saying that is short enough -/
structure ShOk (N R : List Str) (t : Td) : Prop where
  f : IsS t
  has : Has N R t
  dp : depth t ≤ 5
  sz : (pcs t).length ≤ 58
  sm : Small t
noncomputable def sp_short (K : PySem.W.Frag) : Sp := fun vs H Q _ => ∃ (p : Addr) (nl rl : Addr) (N R : List Str), vs = [.ref p, .int 2, .ref nl, .ref rl, .int 58] ∧ PotAt H p ∧ LOk K (wo H p) nl N nameL ∧ LOk K (wo H p) rl R ruleL ∧
  ∀ v t H2, Ex (wo H p) H2 → PotAt H2 p → At H2 v t → ShOk N R t → Q v H2
section
variable {P : Program} {w : World} {K : PySem.W.Frag} {mg : Str → Option Value} {base : Heap} {C SZ SY : Addr}
end
end K25
end
section
set_option maxHeartbeats 4000000
namespace K25
open PySem L2 Evl G TM TD
noncomputable def leadsL (ns : List Int) : List Int := (List.range ns.length).map fun (i : Nat) => ns.getD i 0 - (i : Int)
theorem leads_given (ns : List Int) : given ns.length (fun _ => true) (fun k => V.int (ns.getD k 0 - (k : Int))) = (leadsL ns).map V.int := by
  unfold given leadsL
  rw [filter_yes, List.map_map] <;> rfl
theorem leads_ne {ns : List Int} (g : Good ns) : leadsL ns ≠ [] := by
  intro h
  have := congrArg List.length h
  unfold leadsL at this
  rw [List.length_map, List.length_range] at this
  have h1 : ns.length = 0 := this
  have := g.pos
  omega
/-- days that are near 0 -/
noncomputable def Near (ns : List Int) : Prop := ∀ i, i < ns.length → -1000 ≤ ns.getD i 0 ∧ ns.getD i 0 ≤ 1000
theorem mem_leads {ns : List Int} {m : Int} : m ∈ leadsL ns ↔ ∃ i, i < ns.length ∧ m = ns.getD i 0 - (i : Int) := by
  unfold leadsL
  rw [List.mem_map]
  constructor
  · rintro ⟨i, hi, rfl⟩; exact ⟨i, List.mem_range.mp hi, rfl⟩
  · rintro ⟨i, hi, rfl⟩; exact ⟨i, List.mem_range.mpr hi, rfl⟩
theorem on_ge {ns : List Int} (g : Good ns) {m : Int} (h : ∀ i, i < ns.length → m ≤ ns.getD i 0 - (i : Int)) (x : Int) : x + m ≤ onL ns x := by
  obtain ⟨i, t, hi, rfl⟩ := split_at g x
  rw [on_at g hi]
  have := h i hi
  omega
structure Lead (ns : List Int) (m M : Int) : Prop where
  lo : IsMinL (leadsL ns) m
  hi : IsMaxL (leadsL ns) M
theorem lead_ex {ns : List Int} (g : Good ns) : ∃ m M, Lead ns m M := by
  obtain ⟨m, hm⟩ := isMinL_ex (leads_ne g)
  obtain ⟨M, hM⟩ := isMaxL_ex (leads_ne g)
  exact ⟨m, M, hm, hM⟩
section
variable {ns : List Int} {m M : Int} (g : Good ns) (l : Lead ns m M)
include g l
theorem Lead.ge (x : Int) : x + m ≤ onL ns x := on_ge g (fun i hi => l.lo.2 _ (mem_leads.mpr ⟨i, hi, rfl⟩)) x
theorem Lead.le (x : Int) : onL ns x ≤ x + M := on_le g (fun i hi => l.hi.2 _ (mem_leads.mpr ⟨i, hi, rfl⟩)) x
omit g in
theorem Lead.bd (b : Near ns) (z : ns.length ≤ 600) : -2000 ≤ m ∧ m ≤ 1000 ∧ -2000 ≤ M ∧ M ≤ 1000 := by
  obtain ⟨i, hi, e⟩ := mem_leads.mp l.lo.1
  obtain ⟨j, hj, e'⟩ := mem_leads.mp l.hi.1
  have := b i hi
  have := b j hj
  omega
theorem Lead.by_lo (y : Int) : y - M ≤ byL ns y := by
  have := (byL_is g y).1
  have := l.le g (byL ns y)
  omega
theorem Lead.by_hi (y : Int) : byL ns y ≤ y - m := (by_le g).mpr (by have := l.ge g (y - m); omega)
theorem Lead.til_hi (y : Int) : tilL ns y ≤ y - m := by
  refine Classical.byContradiction fun h => ?_
  have h1 := (til_le g (x := tilL ns y) (y := y)).mp (Int.le_refl _)
  have := l.ge g (tilL ns y)
  omega
theorem Lead.til_lo (y : Int) : y - M ≤ tilL ns y := (til_le g).mpr (by have := l.le g (y - M); omega)
end
noncomputable def Far (x : Int) : Prop := -1000000000000000000 ≤ x ∧ x ≤ 1000000000000000000
noncomputable def sp_lon (K : PySem.W.Frag) : Sp := fun vs H Q _ => ∃ (l : Addr) (ns : List Int) (x : Int), vs = [.ref l, .int x] ∧ SqL K H l (ns.map V.int) ∧ Good ns ∧ RetV (.int (onL ns x)) H Q
noncomputable def sp_leads (K : PySem.W.Frag) : Sp := fun vs H Q _ => ∃ (l : Addr) (ns : List Int) (m M : Int), vs = [.ref l] ∧ SqL K H l (ns.map V.int) ∧ Good ns ∧ Lead ns m M ∧ ∀ p H2, H p = none → Ex H H2 → H2 p = some (.tup [.int m, .int M]) → Q (.ref p) H2
noncomputable def sp_lby (K : PySem.W.Frag) : Sp := fun vs H Q _ => ∃ (l : Addr) (ns : List Int) (x : Int), vs = [.ref l, .int x] ∧ SqL K H l (ns.map V.int) ∧ Good ns ∧ Near ns ∧ Far x ∧ RetV (.int (byL ns x)) H Q
noncomputable def sp_ltil (K : PySem.W.Frag) : Sp := fun vs H Q _ => ∃ (l : Addr) (ns : List Int) (x : Int), vs = [.ref l, .int x] ∧ SqL K H l (ns.map V.int) ∧ Good ns ∧ Near ns ∧ Far x ∧ RetV (.int (tilL ns x)) H Q
section
variable {K : PySem.W.Frag} {H : Hp} {l : Addr} {ns : List Int} {x : Int}
theorem spv_lon (h : SqL K H l (ns.map V.int)) (g : Good ns) : SpV (sp_lon K) ([.ref l, .int x] ++ []) H (.int (onL ns x)) := fun H1 e Q q E => ⟨l, ns, x, rfl, ex_l e h, g, q⟩
theorem spv_lby (h : SqL K H l (ns.map V.int)) (g : Good ns) (b : Near ns) (f : Far x) : SpV (sp_lby K) ([.ref l, .int x] ++ []) H (.int (byL ns x)) := fun H1 e Q q E => ⟨l, ns, x, rfl, ex_l e h, g, b, f, q⟩
theorem spv_ltil (h : SqL K H l (ns.map V.int)) (g : Good ns) (b : Near ns) (f : Far x) : SpV (sp_ltil K) ([.ref l, .int x] ++ []) H (.int (tilL ns x)) := fun H1 e Q q E => ⟨l, ns, x, rfl, ex_l e h, g, b, f, q⟩
end
section
variable {K : PySem.W.Frag} {σ : L2.St} {H : Hp} {tu tz : TS} {D : Ends}
/-- for i in range(lo, n), far numbers too -/
theorem q_forR2B {ta : TA} {j : Nat} {lo n : Int} (h : EvA ta σ H [.int lo, .int n]) (hn : -(2 ^ 62) ≤ lo ∧ lo < 2 ^ 62 ∧ -(2 ^ 62) ≤ n ∧ n < 2 ^ 62) (Pv : Nat → L2.St → Hp → Prop) (h0 : ∀ H1, Ex H H1 → Pv 0 σ H1)
    (hs : ∀ (i : Nat) σ' H', lo + (i : Int) < n → Pv i σ' H' → tu { D with nx := Pv (i + 1), ct := Pv (i + 1), bk := tz D } (σ'.set j (some (.int (lo + (i : Int))))) H') (hd : ∀ σ' H', Pv (n - lo).toNat σ' H' → tz D σ' H') : tSeq (tFor (iRng2 ta) (gName j) tu) tz D σ H :=
  h H (Ex.refl H) _ fun H1 e => ⟨lo, n, rfl, hn, for_range (D := { D with nx := tz D }) (lo := lo) (n := (n - lo).toNat) Pv (h0 H1 e) (fun i σ' H' hi p => hs i σ' H' (by omega) p) hd⟩
/-- for i in range(lo, n, -1) -/
theorem q_forR3B {ta : TA} {j : Nat} {lo n : Int} (h : EvA ta σ H [.int lo, .int n, .int (-1)]) (hn : -(2 ^ 62) ≤ lo ∧ lo < 2 ^ 62 ∧ -(2 ^ 62) ≤ n ∧ n < 2 ^ 62) (Pv : Nat → L2.St → Hp → Prop) (h0 : ∀ H1, Ex H H1 → Pv 0 σ H1)
    (hs : ∀ (i : Nat) σ' H', n < lo - (i : Int) → Pv i σ' H' → tu { D with nx := Pv (i + 1), ct := Pv (i + 1), bk := tz D } (σ'.set j (some (.int (lo - (i : Int))))) H') (hd : ∀ σ' H', Pv (lo - n).toNat σ' H' → tz D σ' H') : tSeq (tFor (iRng3 ta) (gName j) tu) tz D σ H :=
  h H (Ex.refl H) _ fun H1 e => ⟨lo, n, -1, (lo - n).toNat, rfl, RgC.neg hn.1 hn.2.1 hn.2.2.1 hn.2.2.2, for_it (D := { D with nx := tz D }) (walk_rangeC (lo := lo) (c := -1) (n := (lo - n).toNat)) Pv (h0 H1 e) (fun _ _ _ _ _ => True.intro) (fun i y σ' H' H'' hi p yy => by
    obtain ⟨rfl, rfl⟩ := yy
    have e9 : lo + (i : Int) * (-1) = lo - (i : Int) := by omega
    have q := hs i σ' _ (by omega) p
    rw [← e9] at q
    exact q) hd⟩
end
section
variable {P : Program} {w : World} {K : PySem.W.Frag} {mg : Str → Option Value} {base : Heap} {C SZ SY : Addr}
theorem ok_lon {f : Addr} {fd : FuncData} (F : Fun K "_law_on" "_law_on" s__law_on f fd) (T : Txt P w K mg C SZ SY) : FnOk P w K mg base CX0 1 f fd ["_law_days_here", "_law_day_here"] (sp_lon K) := by
  refine F.ok sc__law_on (fun vs H Q E h => ?_) (fun cdv A outer s H vs Q E hr h => ?_)
  · obtain ⟨l, ns, x, rfl, _⟩ := h
    rfl
  · obtain ⟨l, ns, x, rfl, hs, g, k⟩ := h
    have hp := g.posI
    have hm := g.most
    refine ⟨_, (pss_cons (ps_set (i := 2) sc__law_on.nd rfl (Or.inl rfl) (pe_op op_fdivN (pv 1) (pe_callB (lenS (K := K) rfl) (by rfl) T.b_len (by decide +kernel) (pa_cons (pv 0) pa_nil)))) (pss_one (ps_ret (pe_op op_add (pe_ix (ixL (K := K) rfl) (pv 0) (pe_op op_sub (pv 1) (pe_op op_mul (pv 2) (pe_callB (lenS (K := K) rfl) (by rfl) T.b_len (by decide +kernel) (pa_cons (pv 0) pa_nil)))) (fun _ _ => rfl)) (pe_op op_mul (pv 2) (pe_callB (lenS (K := K) rfl) (by rfl) T.b_len (by decide +kernel) (pa_cons (pv 0) pa_nil))))))), ?_⟩
    have len : ∀ H1, Ex H H1 → RC (fun xs H Q => ∃ p ys, xs = [.ref p] ∧ (SqL K H p ys ∨ SqT K H p ys) ∧ Q (.int (ys.length : Int)) H) [.ref l] H1 (.int (ns.length : Int)) := fun H1 e => rc_len (.inl (ex_l e hs)) (by rw [List.length_map])
    refine q_asg (v := .int (x / (ns.length : Int))) (ev_is (ev_op (ev_var rfl) (ev_cb (ea_cons (ev_var rfl) ea_nil) (len H (Ex.refl _))) (rv_I ⟨by omega, by omega⟩)) (by rw [Int.fdiv_eq_ediv_of_nonneg _ (by omega)])) fun H1 e1 => ?_
    have i0 := Int.emod_nonneg x (show (ns.length : Int) ≠ 0 by omega)
    have i1 := Int.emod_lt_of_pos x hp
    have i2 : x - x / (ns.length : Int) * (ns.length : Int) = x % (ns.length : Int) := by
      have := Int.emod_add_mul_ediv x (ns.length : Int)
      rw [Int.mul_comm] at this
      omega
    have ml : ∀ H2, Ex H1 H2 → Ev (tOp (rI CMul fun i j => .int (i * j)) (tVar 2) (tCB (fun xs H Q => ∃ p ys, xs = [.ref p] ∧ (SqL K H p ys ∨ SqT K H p ys) ∧ Q (.int (ys.length : Int)) H) (tCons (tVar 0) tNil))) [some (.ref l), some (.int x), some (.int (x / (ns.length : Int)))] H2 (.int (x / (ns.length : Int) * (ns.length : Int))) := fun H2 e2 =>
      ev_op (ev_var rfl) (ev_cb (ea_cons (ev_var rfl) ea_nil) (len H2 (e1.trans e2))) (rv_I (.inr ⟨by omega, by omega⟩))
    exact s_ret (ev_op (ev_op (ev_var rfl) (ev_is (ev_op (ev_var rfl) (ml H1 (Ex.refl _)) rv_I0) (congrArg V.int i2)) (rv_ixL (ex_l e1 hs) (atI_int i0 i1))) (ml H1 (Ex.refl _)) rv_I0) fun H2 e2 => k H2 (e1.trans e2)
theorem ok_leads {f : Addr} {fd : FuncData} (F : Fun K "_law_leads" "_law_leads" s__law_leads f fd) (T : Txt P w K mg C SZ SY) : FnOk P w K mg base CX0 1 f fd ["_law_days_here"] (sp_leads K) := by
  refine F.ok sc__law_leads (fun vs H Q E h => ?_) (fun cdv A outer s H vs Q E hr h => ?_)
  · obtain ⟨l, ns, m, M, rfl, _⟩ := h
    rfl
  · obtain ⟨l, ns, m, M, rfl, hs, g, ld, k⟩ := h
    have hgm := g.most
    refine ⟨_, (pss_cons (ps_setLc (i := 1) (own := [("_law_place", 2), ("_law_served", 3)]) (g := (gTup K 2 (gCons (gName 2) (gCons (gName 3) gNil)))) (by rfl) sc__law_leads.nd rfl rfl (sw_true rfl rfl rfl (by decide +kernel)) (pi_enum (by rfl) T.b_enumerate (pa_cons (pv 0) pa_nil)) (blkOk_by (own := [("_law_place", 2), ("_law_served", 3)]) (N := ["_law_days_here", "_law_some_here", "_law_place", "_law_served"]) (sc := defScope s__law_leads) (by decide +kernel)) (fun _ _ _ _ _ => (pg_tup (by rfl) (pgs_cons (pg_name (i := 2) sc__law_leads.nd rfl (Or.inl rfl)) (pgs_cons (pg_name (i := 3) sc__law_leads.nd rfl (Or.inl rfl)) pgs_nil)))) (fun _ _ _ _ _ => pts_nil) (fun _ _ _ _ _ => (pe_op op_sub (pv 3) (pv 2)))) (pss_one (ps_ret (pe_tup (pa_cons (pe_callB (minL (K := K) rfl rfl) (by rfl) T.b_min (by decide +kernel) (pa_cons (pv 1) pa_nil)) (pa_cons (pe_callB (maxL (K := K) rfl rfl) (by rfl) T.b_max (by decide +kernel) (pa_cons (pv 1) pa_nil)) pa_nil)))))), ?_⟩
    have e0 : (ns.map V.int).length = ns.length := List.length_map ..
    refine q_asgL (xs := (leadsL ns).map V.int) (by
      rw [← leads_given, ← e0]
      refine el_lcE (fun _ => true) (fun k => V.int (ns.getD k 0 - (k : Int))) (ev_var rfl) hs (by rw [e0]; omega) (fun _ _ => rfl) (fun _ _ _ _ _ => lc_yes) (fun i y H2 e2 hi _ => ?_)
      have hlt : i < ns.length := by have := (List.getElem?_eq_some_iff.mp hi).1; simpa using this
      rw [getI hlt] at hi
      cases hi
      exact ev_op (ev_var rfl) (ev_var rfl) rv_I0) fun q H1 hq e1 h1 => ?_
    exact s_retU (eu_tup (ea_cons (ev_cb (ea_cons (ev_var rfl) ea_nil) (rc_min (sq_of h1) ld.lo.1 ld.lo.2)) (ea_cons (ev_cb (ea_cons (ev_var rfl) ea_nil) (rc_max (sq_of h1) ld.hi.1 ld.hi.2)) ea_nil)) (by show 2 ≤ 100000; decide)) fun p H2 hp e2 h2 => k p H2 (fresh_back e1 hp) (e1.trans e2) h2
theorem q_leads {σ : L2.St} {H : Hp} {D : Ends} {tz : TS} {E : XK} {l : Addr} {ns : List Int} {m M : Int} {i j : Nat} (hv : σ[0]? = some (some (.ref l))) (hs : SqL K H l (ns.map V.int)) (g : Good ns) (ld : Lead ns m M) (k : ∀ H1, Ex H H1 → tz D ((σ.set i (some (.int m))).set j (some (.int M))) H1) :
    tSeq (tAsg (tCall (sp_leads K) [] E (tCons (tVar 0) tNil)) (gTup K 2 (gCons (gName i) (gCons (gName j) gNil)))) tz D σ H :=
  q_asgT2 (v := .int m) (w := .int M) (fun H1 e Q q => ⟨.ref l, hv, l, ns, m, M, rfl, ex_l e hs, g, ld, fun p H2 hp e2 h2 => q p H2 hp e2 h2⟩) k
theorem ok_lby {f f1 f2 : Addr} {fd fd1 fd2 : FuncData} (F : Fun K "_law_by" "_law_by" s__law_by f fd) (T : Txt P w K mg C SZ SY) (c__law_on : Cal P w K mg base "_law_on" f1 fd1 ["_law_days_here", "_law_day_here"] 1 (sp_lon K)) (c__law_leads : Cal P w K mg base "_law_leads" f2 fd2 ["_law_days_here"] 1 (sp_leads K)) : FnOk P w K mg base CX0 2 f fd ["_law_days_here", "_law_day_here"] (sp_lby K) := by
  refine F.ok sc__law_by (fun vs H Q E h => ?_) (fun cdv A outer s H vs Q E hr h => ?_)
  · obtain ⟨l, ns, x, rfl, _⟩ := h
    rfl
  · obtain ⟨l, ns, x, rfl, hs, g, nr, ⟨f0, f1⟩, k⟩ := h
    obtain ⟨m, M, ld⟩ := lead_ex g
    obtain ⟨b1, b2, b3, b4⟩ := ld.bd nr g.most
    have hlo := ld.by_lo g x
    have hhi := ld.by_hi g x
    refine ⟨_, (pss_cons (ps_asg (pe_call c__law_leads.ok (hr.mono (by decide)) (by rfl) c__law_leads.mgx c__law_leads.kp c__law_leads.bd .nil pass0 (pa_cons (pv 0) pa_nil)) (pg_tup (by rfl) (pgs_cons (pg_name (i := 2) sc__law_by.nd rfl (Or.inl rfl)) (pgs_cons (pg_name (i := 3) sc__law_by.nd rfl (Or.inl rfl)) pgs_nil)))) (pss_cons (ps_for PassesOwn.never rfl (pi_range2 (by rfl) T.b_range (pa_cons (pe_op op_sub (pv 1) (pv 3)) (pa_cons (pe_op op_sub (pv 1) (pv 2)) pa_nil))) (pg_name (i := 4) sc__law_by.nd rfl (Or.inl rfl)) (pss_one (ps_if (pt_cmpR op_ge (pe_call c__law_on.ok (hr.mono (by decide)) (by rfl) c__law_on.mgx c__law_on.kp c__law_on.bd .nil pass0 (pa_cons (pv 0) (pa_cons (pv 4) pa_nil))) (pv 1) (nomark _)) (pss_one (ps_ret (pv 4))) pss_nil))) (pss_one (ps_ret (pe_op op_sub (pv 1) (pv 2)))))), ?_⟩
    refine q_leads (m := m) (M := M) rfl hs g ld fun H1 e1 => ?_
    refine q_forR2B (lo := x - M) (n := x - m) (ea_cons (ev_op (ev_var rfl) (ev_var rfl) rv_I0) (ea_cons (ev_op (ev_var rfl) (ev_var rfl) rv_I0) ea_nil)) ⟨by omega, by omega, by omega, by omega⟩ (fun i σ' H' => ∃ o, σ' = [some (.ref l), some (.int x), some (.int m), some (.int M), o] ∧ Ex H H' ∧ x - M + (i : Int) ≤ byL ns x) (fun H2 e2 => ⟨none, rfl, e1.trans e2, by omega⟩) (fun i σ' H' hi h => ?_) (fun σ' H' h => ?_)
    · obtain ⟨o, rfl, e3, hb⟩ := h
      refine s_when (b := decide (onL ns (x - M + (i : Int)) ≥ x)) (et_test (ev_op (ev_call (ea_cons (ev_var rfl) (ea_cons (ev_var rfl) ea_nil)) (spv_lon (ex_l e3 hs) g)) (ev_var rfl) rv_I0)) (fun hb2 H4 e4 => ?_) (fun hb2 H4 e4 => ?_)
      · have h2 := of_decide_eq_true hb2
        have : byL ns x ≤ x - M + (i : Int) := (by_le g).mpr h2
        have e9 : x - M + (i : Int) = byL ns x := by omega
        exact s_ret (ev_is (ev_var rfl) (by rw [e9])) fun H5 e5 => k H5 ((e3.trans e4).trans e5)
      · have h2 : ¬ onL ns (x - M + (i : Int)) ≥ x := of_decide_eq_false hb2
        have : ¬ byL ns x ≤ x - M + (i : Int) := fun z => h2 ((by_le g).mp z)
        exact ⟨_, rfl, e3.trans e4, by omega⟩
    · obtain ⟨o, rfl, e3, hb⟩ := h
      have e9 : x - m = byL ns x := by omega
      exact s_ret (ev_is (ev_op (ev_var rfl) (ev_var rfl) rv_I0) (by rw [e9])) fun H5 e5 => k H5 (e3.trans e5)
theorem ok_ltil {f f1 f2 : Addr} {fd fd1 fd2 : FuncData} (F : Fun K "_law_til" "_law_til" s__law_til f fd) (T : Txt P w K mg C SZ SY) (c__law_on : Cal P w K mg base "_law_on" f1 fd1 ["_law_days_here", "_law_day_here"] 1 (sp_lon K)) (c__law_leads : Cal P w K mg base "_law_leads" f2 fd2 ["_law_days_here"] 1 (sp_leads K)) : FnOk P w K mg base CX0 2 f fd ["_law_days_here", "_law_day_here"] (sp_ltil K) := by
  refine F.ok sc__law_til (fun vs H Q E h => ?_) (fun cdv A outer s H vs Q E hr h => ?_)
  · obtain ⟨l, ns, x, rfl, _⟩ := h
    rfl
  · obtain ⟨l, ns, x, rfl, hs, g, nr, ⟨f0, f1⟩, k⟩ := h
    obtain ⟨m, M, ld⟩ := lead_ex g
    obtain ⟨b1, b2, b3, b4⟩ := ld.bd nr g.most
    have hlo := ld.til_lo g x
    have hhi := ld.til_hi g x
    refine ⟨_, (pss_cons (ps_asg (pe_call c__law_leads.ok (hr.mono (by decide)) (by rfl) c__law_leads.mgx c__law_leads.kp c__law_leads.bd .nil pass0 (pa_cons (pv 0) pa_nil)) (pg_tup (by rfl) (pgs_cons (pg_name (i := 2) sc__law_til.nd rfl (Or.inl rfl)) (pgs_cons (pg_name (i := 3) sc__law_til.nd rfl (Or.inl rfl)) pgs_nil)))) (pss_cons (ps_for PassesOwn.never rfl (pi_range3 (by rfl) T.b_range (pa_cons (pe_op op_sub (pv 1) (pv 2)) (pa_cons (pe_op op_sub (pv 1) (pv 3)) (pa_cons (pe_un un_neg pe_int) pa_nil)))) (pg_name (i := 4) sc__law_til.nd rfl (Or.inl rfl)) (pss_one (ps_if (pt_cmpR op_le (pe_call c__law_on.ok (hr.mono (by decide)) (by rfl) c__law_on.mgx c__law_on.kp c__law_on.bd .nil pass0 (pa_cons (pv 0) (pa_cons (pv 4) pa_nil))) (pv 1) (nomark _)) (pss_one (ps_ret (pv 4))) pss_nil))) (pss_one (ps_ret (pe_op op_sub (pv 1) (pv 3)))))), ?_⟩
    refine q_leads (m := m) (M := M) rfl hs g ld fun H1 e1 => ?_
    refine q_forR3B (lo := x - m) (n := x - M) (ea_cons (ev_op (ev_var rfl) (ev_var rfl) rv_I0) (ea_cons (ev_op (ev_var rfl) (ev_var rfl) rv_I0) (ea_cons (ev_un ev_c ru_neg) ea_nil))) ⟨by omega, by omega, by omega, by omega⟩ (fun i σ' H' => ∃ o, σ' = [some (.ref l), some (.int x), some (.int m), some (.int M), o] ∧ Ex H H' ∧ tilL ns x ≤ x - m - (i : Int)) (fun H2 e2 => ⟨none, rfl, e1.trans e2, by omega⟩) (fun i σ' H' hi h => ?_) (fun σ' H' h => ?_)
    · obtain ⟨o, rfl, e3, hb⟩ := h
      refine s_when (b := decide (onL ns (x - m - (i : Int)) ≤ x)) (et_test (ev_op (ev_call (ea_cons (ev_var rfl) (ea_cons (ev_var rfl) ea_nil)) (spv_lon (ex_l e3 hs) g)) (ev_var rfl) rv_I0)) (fun hb2 H4 e4 => ?_) (fun hb2 H4 e4 => ?_)
      · have h2 := of_decide_eq_true hb2
        have : x - m - (i : Int) ≤ tilL ns x := (til_le g).mpr h2
        have e9 : x - m - (i : Int) = tilL ns x := by omega
        exact s_ret (ev_is (ev_var rfl) (by rw [e9])) fun H5 e5 => k H5 ((e3.trans e4).trans e5)
      · have h2 : ¬ onL ns (x - m - (i : Int)) ≤ x := of_decide_eq_false hb2
        have : ¬ x - m - (i : Int) ≤ tilL ns x := fun z => h2 ((til_le g).mp z)
        exact ⟨_, rfl, e3.trans e4, by omega⟩
    · obtain ⟨o, rfl, e3, hb⟩ := h
      have e9 : x - M = tilL ns x := by omega
      exact s_ret (ev_is (ev_op (ev_var rfl) (ev_var rfl) rv_I0) (by rw [e9])) fun H5 e5 => k H5 (e3.trans e5)
end
end K25
end
section
set_option maxHeartbeats 4000000
namespace K25
open PySem L2 Evl G TM TD
structure Rise (ns : List Int) (f : Int) (d : Int) : Prop where
  pos : 1 ≤ ns.length
  fst : ns.getD 0 0 = f
  up : ∀ i j : Nat, i ≤ j → j < ns.length → ns.getD i 0 ≤ ns.getD j 0
  last : ns.getD (ns.length - 1) 0 - f = d
theorem rise_one (f : Int) : Rise [f] f 0 := ⟨by simp, by simp, fun i j h1 h2 => by
  have : j = 0 := by simpa using h2
  subst this
  have : i = 0 := by omega
  subst this
  exact Int.le_refl _, by simp⟩
theorem getD_app1 {ns : List Int} {v : Int} {i : Nat} (h : i < ns.length) : (ns ++ [v]).getD i 0 = ns.getD i 0 := by
  rw [List.getD_eq_getElem?_getD, List.getElem?_append_left h, ← List.getD_eq_getElem?_getD]
theorem getD_app2 {ns : List Int} {v : Int} : (ns ++ [v]).getD ns.length 0 = v := by
  rw [List.getD_eq_getElem?_getD, List.getElem?_append_right (Nat.le_refl _)]
  simp
theorem rise_app {ns : List Int} {f d s : Int} (r : Rise ns f d) (hs : 0 ≤ s) : Rise (ns ++ [ns.getD (ns.length - 1) 0 + s]) f (d + s) := by
  have hp := r.pos
  refine ⟨by simp, by rw [getD_app1 (by omega)]; exact r.fst, fun i j h1 h2 => ?_, ?_⟩
  · rw [List.length_append, List.length_singleton] at h2
    by_cases hj : j < ns.length
    · rw [getD_app1 hj, getD_app1 (by omega)]
      exact r.up i j h1 hj
    · have e : j = ns.length := by omega
      subst e
      rw [getD_app2]
      by_cases hi : i < ns.length
      · rw [getD_app1 hi]
        have := r.up i (ns.length - 1) (by omega) (by omega)
        omega
      · have e : i = ns.length := by omega
        subst e
        rw [getD_app2]
        omega
  · rw [List.length_append, List.length_singleton, Nat.add_sub_cancel, getD_app2]
    have := r.last
    omega
theorem rise_good {ns : List Int} {f d : Int} (r : Rise ns f d) (h : ns.length ≤ 600) (hd : d ≤ (ns.length : Int)) : Good ns := ⟨r.pos, h, r.up, by have := r.last; have := r.fst; omega⟩
theorem rise_bd {ns : List Int} {f d : Int} (r : Rise ns f d) {i : Nat} (h : i < ns.length) : f ≤ ns.getD i 0 ∧ ns.getD i 0 ≤ f + d := by
  have h1 := r.up 0 i (by omega) h
  have h2 := r.up i (ns.length - 1) (by omega) (by have := r.pos; omega)
  have := r.fst
  have := r.last
  omega
noncomputable def sp_table : Sp := fun vs H Q _ => ∃ (p : Addr), vs = [.ref p] ∧ PotAt H p ∧ ∀ l ns H2, H l = none → Ex (wo H p) H2 → PotAt H2 p → H2 l = some (.lst (ns.map V.int)) → Good ns → Near ns → ns.length ≤ 8 → Q (.ref l) H2
section
variable {K : PySem.W.Frag} {σ : L2.St} {H : Hp} {p : Addr} {i j : Nat} {tA : TA} {tz : TS} {D : Ends} {r : List V → Hp → VK → Prop} {Q : VK}
theorem par_k (h : tA σ H fun vs H1 => ∃ v w, vs = [v, w] ∧ tz D ((σ.set i (some v)).set j (some w)) H1) : tSeq (tPar i j tA) tz D σ H := h
theorem cb_k (h : tA σ H fun vs H1 => r vs H1 Q) : tCB r tA σ H Q := h
end
section
variable {P : Program} {w : World} {K : PySem.W.Frag} {mg : Str → Option Value} {base : Heap} {C SZ SY : Addr}
theorem ok_table {f f1 f2 : Addr} {fd fd1 fd2 : FuncData} (F : Fun K "_law_table" "_law_table" s__law_table f fd) (T : Txt P w K mg C SZ SY) (c__law_draw : Cal P w K mg base "_law_draw" f1 fd1 ["_law_pot_here", "_law_many_here"] 1 sp_draw) (c__law_pick : Cal P w K mg base "_law_pick" f2 fd2 ["_law_pot_here", "_law_some_here"] 2 (sp_pick K)) : FnOk P w K mg base CX0 3 f fd ["_law_pot_here"] sp_table := by
  refine F.ok sc__law_table (fun vs H Q E h => ?_) (fun cdv A outer s H vs Q E hr h => ?_)
  · obtain ⟨p, rfl, _⟩ := h
    rfl
  · obtain ⟨p, rfl, hp, k⟩ := h
    refine ⟨_, (pss_cons (ps_par (i := 1) (j := 2) (by rfl) sc__law_table.nd rfl rfl (by decide) rfl rfl (pa_cons (pe_op op_add pe_int (pe_call c__law_draw.ok (hr.mono (by decide)) (by rfl) c__law_draw.mgx c__law_draw.kp c__law_draw.bd .nil pass0 (pa_cons (pv 0) (pa_cons pe_int pa_nil)))) (pa_cons (pe_lst (pa_cons (pe_op op_sub (pe_call c__law_draw.ok (hr.mono (by decide)) (by rfl) c__law_draw.mgx c__law_draw.kp c__law_draw.bd .nil pass0 (pa_cons (pv 0) (pa_cons pe_int pa_nil))) pe_int) pa_nil)) pa_nil)) (by rfl)) (pss_cons (ps_for PassesOwn.never rfl (pi_range1 (by rfl) T.b_range (pa_cons (pe_op op_sub (pv 1) pe_int) pa_nil)) (pg_name (i := 3) sc__law_table.nd rfl (Or.inl rfl)) (pss_one (ps_expr (pe_bm PySem.F.plainAttrs_list PySem.F.slot_list_append PySem.F.type_list_append mt_append (pv 2) (pa_cons (pe_callB (call_min2 rfl) (by rfl) T.b_min (by decide +kernel) (pa_cons (pe_op op_add (pe_ix (ixL (K := K) rfl) (pv 2) pe_int (fun _ _ => rfl)) (pv 1)) (pa_cons (pe_op op_add (pe_ix (ixL (K := K) rfl) (pv 2) (pe_un un_neg pe_int) (fun _ _ => rfl)) (pe_call c__law_pick.ok (hr.mono (by decide)) (by rfl) c__law_pick.mgx c__law_pick.kp c__law_pick.bd .nil pass0 (pa_cons (pv 0) (pa_cons (pe_lst (pa_cons pe_int (pa_cons pe_int (pa_cons pe_int (pa_cons pe_int (pa_cons pe_int (pa_cons pe_int pa_nil))))))) pa_nil)))) pa_nil))) pa_nil))))) (pss_one (ps_ret (pv 2))))), ?_⟩
    obtain ⟨o, ho⟩ := hp.some
    refine par_k (ac_k (op_k (v_k ev_c fun H1 e1 => drawC (hp.mono e1) rfl ev_c (by decide) (by decide) fun m H2 m0 m8 e2 hp2 => ⟨1, m, rfl, rfl, ac_k (lst_k (ac_k (op_k (drawC hp2 rfl ev_c (by decide) (by decide) fun b H3 b0 b11 e3 hp3 => v_k ev_c fun H4 e4 => ⟨b, 5, rfl, rfl, ac_nil ⟨sz_of (by show 1 ≤ 100000; decide), fun l hl => ac_nil ⟨_, _, rfl, ?_⟩⟩⟩))))⟩)))
    have hp4 : PotAt H4 p := hp3.mono e4
    obtain ⟨o4, ho4⟩ := hp4.some
    have hlp : l ≠ p := (ne_of_none ho4 hl).symm
    have x4 : Ex (wo H p) H4 := wo_tr (wo_tr (wo_ex.trans e1) e2) (e3.trans e4)
    have hlH : H l = none := by
      cases q : H l with
      | none => rfl
      | some u => exact absurd (x4 l u (by rw [wo_ne hlp]; exact q)) (by rw [hl]; exact fun z => by cases z)
    have hwl : wo H p l = none := by rw [wo_ne hlp]; exact hlH
    obtain ⟨n, rfl⟩ : ∃ n : Nat, m = (n : Int) := ⟨m.toNat, by omega⟩
    refine q_forR1 (n := (n : Int)) (ea_cons (ev_is (ev_op (ev_var rfl) ev_c rv_I0) (by show V.int (1 + (n : Int) - 1) = _; congr 1; omega)) ea_nil) (by omega) (fun i σ' H' => ∃ (ns : List Int) (d : Int) (o1 : Option V), σ' = [some (.ref p), some (.int (1 + (n : Int))), some (.ref l), o1] ∧
      ns.length = i + 1 ∧ Rise ns (b - 5) d ∧ 0 ≤ d ∧ d ≤ 1 + (n : Int) ∧ Ex (wo H p) H' ∧ H' l = some (.lst (ns.map V.int)) ∧ PotAt H' p) (fun H5 e5 => ?_) (fun i σ' H' hi hpv => ?_) (fun σ' H' hpv => ?_)
    · exact ⟨[b - 5], 0, none, rfl, rfl, rise_one _, by omega, by omega, (x4.mut hwl).trans e5, e5 l _ upd_same, (show PotAt (upd H4 l (.lst [.int (b - 5)])) p from by obtain ⟨c, d, q1, q2⟩ := hp4; exact ⟨c, d, q1, by rw [upd_ne (Ne.symm hlp)]; exact q2⟩).mono e5⟩
    · obtain ⟨ns, d, o1, rfl, hlen, r, d0, dn, e5, h5, hp5⟩ := hpv
      have hpos := r.pos
      refine drop_k (bm_k (v_k (v := .ref l) (ev_var rfl) fun H6 e6 => ⟨Or.inl ⟨rfl, _, sq_of (e6 l _ h5)⟩, ac_k (cb_k (ac_v (v := .int (b - 5 + (1 + (n : Int)))) (ev_op (ev_op (ev_var rfl) ev_c (rv_ixL (v := .int (b - 5)) (sq_of (e6 l _ h5)) (by rw [← r.fst]; exact atI_nat (j := 0) (getI (by omega))))) (ev_var rfl) rv_I0) fun H7 e7 => ac_k (op_k (v_k (v := .int (ns.getD (ns.length - 1) 0)) (ev_op (ev_var rfl) (ev_un ev_c ru_neg) (rv_ixL (sq_of ((e6.trans e7) l _ h5)) (atI_m1 r.pos))) fun H8 e8 => pickC (xs := ([0, 0, 1, 1, 2, 3] : List Int).map V.int) (hp5.mono ((e6.trans e7).trans e8)) rfl (ea_cons ev_c (ea_cons ev_c (ea_cons ev_c (ea_cons ev_c (ea_cons ev_c (ea_cons ev_c ea_nil)))))) (by show 0 < 6; decide) (by show 6 ≤ 1000; decide) fun j v H9 hj e9 hp9 => ?_))))⟩))
      obtain ⟨st, hs0, hs3, rfl⟩ : ∃ st : Int, 0 ≤ st ∧ st ≤ 3 ∧ v = .int st := by
        rw [List.getElem?_map] at hj
        obtain ⟨st, hs, rfl⟩ := Option.map_eq_some_iff.mp hj
        have hm := List.mem_of_getElem? hs
        simp only [List.mem_cons, List.not_mem_nil, or_false] at hm
        exact ⟨st, by omega, by omega, rfl⟩
      have h9 : H9 l = some (.lst (ns.map V.int)) := e9 l _ (by rw [wo_ne hlp]; exact ((e6.trans e7).trans e8) l _ h5)
      have hlast := r.last
      have hst : ∃ s2 : Int, 0 ≤ s2 ∧ d + s2 ≤ 1 + (n : Int) ∧ (if ns.getD (ns.length - 1) 0 + st < b - 5 + (1 + (n : Int)) then ns.getD (ns.length - 1) 0 + st else b - 5 + (1 + (n : Int))) = ns.getD (ns.length - 1) 0 + s2 := by
        by_cases hc : ns.getD (ns.length - 1) 0 + st < b - 5 + (1 + (n : Int))
        · exact ⟨st, hs0, by omega, by rw [if_pos hc]⟩
        · exact ⟨1 + (n : Int) - d, by omega, by omega, by rw [if_neg hc]; omega⟩
      obtain ⟨s2, hs20, hs2d, hs2e⟩ := hst
      refine ⟨_, _, rfl, rfl, ac_nil ⟨_, _, rfl, ac_nil ⟨l, ns.map V.int, _, rfl, rfl, h9, sz_lt (by rw [List.length_map]; omega), ?_⟩⟩⟩
      refine ⟨ns ++ [ns.getD (ns.length - 1) 0 + s2], d + s2, some (.int (i : Int)), rfl, by rw [List.length_append, hlen] <;> rfl, rise_app r hs20, by omega, hs2d, ?_, ?_, ?_⟩
      · exact (wo_tr (e5.trans ((e6.trans e7).trans e8)) e9).mut hwl
      · rw [upd_same, hs2e, List.map_append] <;> rfl
      · obtain ⟨c, d, q1, q2⟩ := hp9
        exact ⟨c, d, q1, by rw [upd_ne (Ne.symm hlp)]; exact q2⟩
    · obtain ⟨ns, d, o1, rfl, hlen, r, d0, dn, e5, h5, hp5⟩ := hpv
      rw [Int.toNat_natCast] at hlen
      refine s_ret (ev_var rfl) fun H6 e6 => ?_
      exact k l ns H6 hlH (e5.trans e6) (hp5.mono e6) (e6 l _ h5) (rise_good r (by omega) (by omega)) (fun i hi => by have := rise_bd r hi; omega) (by omega)
end
end K25
end
section
set_option maxHeartbeats 4000000
namespace K25
open PySem L2 Evl G TM TD
/-! ### this law's own reckoning -/
/-- a dict from rules to lists of days -/
noncomputable def ListsAt (K : PySem.W.Frag) (H : Hp) (d : Addr) (ws : Ws) : Prop := H d = some (.dK (keyed wV ws)) ∧ (∀ p ∈ ws, p.1 ∈ ruleL ∧ Good p.2.2 ∧ Near p.2.2 ∧ SqL K H p.2.1 (p.2.2.map V.int)) ∧ ws.length ≤ 1000
theorem ListsAt.mono {K : PySem.W.Frag} {H H' : Hp} {d : Addr} {ws : Ws} (e : Ex H H') (h : ListsAt K H d ws) : ListsAt K H' d ws := ⟨e d _ h.1, fun p hp => let ⟨a, b, c, q⟩ := h.2.1 p hp; ⟨a, b, c, ex_l e q⟩, h.2.2⟩
/-- the days of the names are not far -/
noncomputable def DBd (ds : Ds) : Prop := ∀ p ∈ ds, -1000000000000 ≤ p.2 ∧ p.2 ≤ 1000000000000
noncomputable def GoodW (ws : Ws) : Prop := ∀ p ∈ ws, Good p.2.2 ∧ Near p.2.2
theorem near_on {ns : List Int} (g : Good ns) (b : Near ns) (x : Int) : x - 2000 ≤ onL ns x ∧ onL ns x ≤ x + 1000 := by
  obtain ⟨m, M, l⟩ := lead_ex g
  have := l.bd b g.most
  have := l.ge g x
  have := l.le g x
  omega
theorem near_by {ns : List Int} (g : Good ns) (b : Near ns) (x : Int) : x - 1000 ≤ byL ns x ∧ byL ns x ≤ x + 2000 := by
  obtain ⟨m, M, l⟩ := lead_ex g
  have := l.bd b g.most
  have := l.by_lo g x
  have := l.by_hi g x
  omega
theorem near_til {ns : List Int} (g : Good ns) (b : Near ns) (x : Int) : x - 1000 ≤ tilL ns x ∧ tilL ns x ≤ x + 2000 := by
  obtain ⟨m, M, l⟩ := lead_ex g
  have := l.bd b g.most
  have := l.til_lo g x
  have := l.til_hi g x
  omega
theorem look_dn {ds : Ds} (b : DBd ds) {n : Str} (h : n ∈ ds.map (·.1)) : -1000000000000 ≤ dnOf ds n ∧ dnOf ds n ≤ 1000000000000 := by
  obtain ⟨v, hv, hm⟩ := look_some h
  unfold dnOf
  rw [hv]
  exact b _ hm
theorem look_wd {ws : Ws} (g : GoodW ws) {r : Str} (h : r ∈ ws.map (·.1)) : Good (wdOf ws r) ∧ Near (wdOf ws r) := by
  obtain ⟨q, hq, hm⟩ := look_some h
  unfold wdOf
  rw [hq]
  exact g _ hm
theorem day_bd {ds : Ds} {ws : Ws} (b : DBd ds) (g : GoodW ws) : ∀ {t : Td}, IsF t → Has (ds.map (·.1)) (ws.map (·.1)) t → Small t →
    -1000000000000 - 3000 * ((pcs t).length : Int) ≤ dayOf (dnOf ds) (wdOf ws) t ∧ dayOf (dnOf ds) (wdOf ws) t ≤ 1000000000000 + 3000 * ((pcs t).length : Int)
  | .lf w v, hF, hh, sm => by
    rcases hF with ⟨_, n, _, rfl⟩ | ⟨_, i, rfl⟩
    · have := look_dn b (hh n rfl)
      show -1000000000000 - 3000 * (1 : Int) ≤ dnOf ds n ∧ dnOf ds n ≤ 1000000000000 + 3000 * (1 : Int)
      omega
    · have := sm i rfl
      show -1000000000000 - 3000 * (1 : Int) ≤ i ∧ i ≤ 1000000000000 + 3000 * (1 : Int)
      omega
  | .ov w v t, hF, hh, sm => by
    have ih := day_bd b g hF.2 hh.2 sm.2
    have hl : ((pcs (.ov w v t)).length : Int) = (pcs t).length + 1 := by show (((_ :: pcs t).length : Nat) : Int) = _; rw [List.length_cons]; omega
    rw [hl]
    rcases hF.1 with ⟨hw, r, _, rfl⟩ | ⟨hw, i, rfl⟩
    · obtain ⟨gg, nn⟩ := look_wd g (hh.1 r rfl)
      show _ ≤ (if w = "on" then onL (wdOf ws r) (dayOf (dnOf ds) (wdOf ws) t) else if w = "by" then byL (wdOf ws r) (dayOf (dnOf ds) (wdOf ws) t) else tilL (wdOf ws r) (dayOf (dnOf ds) (wdOf ws) t)) ∧ (if w = "on" then onL (wdOf ws r) (dayOf (dnOf ds) (wdOf ws) t) else if w = "by" then byL (wdOf ws r) (dayOf (dnOf ds) (wdOf ws) t) else tilL (wdOf ws r) (dayOf (dnOf ds) (wdOf ws) t)) ≤ _
      have h1 := near_on gg nn (dayOf (dnOf ds) (wdOf ws) t)
      have h2 := near_by gg nn (dayOf (dnOf ds) (wdOf ws) t)
      have h3 := near_til gg nn (dayOf (dnOf ds) (wdOf ws) t)
      split
      · omega
      · split <;> omega
    · have := sm.1 i rfl
      show _ ≤ dayOf (dnOf ds) (wdOf ws) t + i ∧ dayOf (dnOf ds) (wdOf ws) t + i ≤ _
      omega
  | .nt t, hF, _, _ => hF.elim
  | .bi w t u, hF, hh, sm => by
    have i1 := day_bd b g hF.2.1 hh.1 sm.1
    have i2 := day_bd b g hF.2.2 hh.2 sm.2
    have hl : ((pcs (.bi w t u)).length : Int) = (pcs t).length + (pcs u).length + 1 := by show (((_ :: (pcs t ++ pcs u)).length : Nat) : Int) = _; rw [List.length_cons, List.length_append]; omega
    rw [hl]
    show _ ≤ (if w = "late" then (if dayOf (dnOf ds) (wdOf ws) u > dayOf (dnOf ds) (wdOf ws) t then dayOf (dnOf ds) (wdOf ws) u else dayOf (dnOf ds) (wdOf ws) t) else (if dayOf (dnOf ds) (wdOf ws) u < dayOf (dnOf ds) (wdOf ws) t then dayOf (dnOf ds) (wdOf ws) u else dayOf (dnOf ds) (wdOf ws) t)) ∧
      (if w = "late" then (if dayOf (dnOf ds) (wdOf ws) u > dayOf (dnOf ds) (wdOf ws) t then dayOf (dnOf ds) (wdOf ws) u else dayOf (dnOf ds) (wdOf ws) t) else (if dayOf (dnOf ds) (wdOf ws) u < dayOf (dnOf ds) (wdOf ws) t then dayOf (dnOf ds) (wdOf ws) u else dayOf (dnOf ds) (wdOf ws) t)) ≤ _
    split <;> split <;> omega
noncomputable def sp_lday (K : PySem.W.Frag) (n : Nat) : Sp := fun vs H Q _ => ∃ x t d ds r ws, vs = [x, .ref d, .ref r] ∧ At H x t ∧ IsF t ∧ depth t < n ∧ (pcs t).length ≤ 1000 ∧ Small t ∧ DaysAt H d ds ∧ DBd ds ∧ ListsAt K H r ws ∧ Has (ds.map (·.1)) (ws.map (·.1)) t ∧ RetV (.int (dayOf (dnOf ds) (wdOf ws) t)) H Q
theorem spv_lday {K : PySem.W.Frag} {n : Nat} {x : V} {t : Td} {d r : Addr} {ds : Ds} {ws : Ws} {H : Hp} (h : At H x t) (k : IsF t) (hd : depth t < n) (hz : (pcs t).length ≤ 1000) (sm : Small t) (a : DaysAt H d ds) (b' : DBd ds) (b : ListsAt K H r ws) (c : Has (ds.map (·.1)) (ws.map (·.1)) t) :
    SpV (sp_lday K n) ([x, .ref d, .ref r] ++ []) H (.int (dayOf (dnOf ds) (wdOf ws) t)) := fun H1 e Q q E => ⟨x, t, d, ds, r, ws, rfl, h.mono (Tu.ex e), k, hd, hz, sm, a.mono e, b', b.mono e, c, q⟩
theorem ListsAt.goodW {K : PySem.W.Frag} {H : Hp} {d : Addr} {ws : Ws} (h : ListsAt K H d ws) : GoodW ws := fun p hp => ⟨(h.2.1 p hp).2.1, (h.2.1 p hp).2.2.1⟩
section
variable {P : Program} {w : World} {K : PySem.W.Frag} {mg : Str → Option Value} {base : Heap} {C SZ SY : Addr}
theorem ok_lday {f f1 f2 f3 : Addr} {fd fd1 fd2 fd3 : FuncData} (F : Fun K "_law_day" "_law_day" s__law_day f fd) (T : Txt P w K mg C SZ SY) (me : Me K mg "_law_day" f fd ["_law_formula_here", "_law_days_here", "_law_world_here"]) (c__law_on : Cal P w K mg base "_law_on" f1 fd1 ["_law_days_here", "_law_day_here"] 1 (sp_lon K)) (c__law_by : Cal P w K mg base "_law_by" f2 fd2 ["_law_days_here", "_law_day_here"] 2 (sp_lby K)) (c__law_til : Cal P w K mg base "_law_til" f3 fd3 ["_law_days_here", "_law_day_here"] 2 (sp_ltil K)) :
    ∀ n, FnOk P w K mg base CX0 (n + 3) f fd ["_law_formula_here", "_law_days_here", "_law_world_here"] (sp_lday K n) := by
  intro n
  induction n with
  | zero => exact ⟨fun vs H Q E h => by obtain ⟨x, t, d, ds, r, ws, _, _, _, hd, _⟩ := h; exact absurd hd (Nat.not_lt_zero _), fun A outer s H args us vs Q E _ _ _ _ h => by obtain ⟨x, t, d, ds, r, ws, _, _, _, hd, _⟩ := h; exact absurd hd (Nat.not_lt_zero _)⟩
  | succ n ih =>
  have c__law_day : Cal P w K mg base "_law_day" f fd ["_law_formula_here", "_law_days_here", "_law_world_here"] (n + 3) (sp_lday K n) := ⟨ih, me.mgx, me.kp, me.bd⟩
  refine F.ok (k := n + 3) sc__law_day (fun vs H Q E h => ?_) (fun cdv A outer s H vs Q E hr h => ?_)
  · obtain ⟨x, t, d, ds, r, ws, rfl, _⟩ := h
    rfl
  · obtain ⟨x, t, d, ds, r, ws, rfl, ht, hF, hdep, hz, sm, hds, db, hws, hh, k⟩ := h
    refine ⟨_, (pss_cons (ps_set (i := 3) sc__law_day.nd rfl (Or.inl rfl) (pe_ix (ixT (K := K) rfl) (pv 0) pe_int (fun _ _ => rfl))) (pss_cons (ps_if (pt_cmpR op_eq (pv 3) pe_str (nomark _)) (pss_one (ps_ret (pe_dgetR hr.units (pv 1) (pe_ix (ixT (K := K) rfl) (pv 0) pe_int (fun _ _ => rfl)) (fun _ _ => rfl)))) pss_nil) (pss_cons (ps_if (pt_cmpR op_eq (pv 3) pe_str (nomark _)) (pss_one (ps_ret (pe_ix (ixT (K := K) rfl) (pv 0) pe_int (fun _ _ => rfl)))) pss_nil) (pss_cons (ps_if (pt_cmpR op_eq (pv 3) pe_str (nomark _)) (pss_one (ps_ret (pe_callB (call_max2 rfl) (by rfl) T.b_max (by decide +kernel) (pa_cons (pe_call c__law_day.ok (hr.mono (by omega)) (by rfl) c__law_day.mgx c__law_day.kp c__law_day.bd .nil pass0 (pa_cons (pe_ix (ixT (K := K) rfl) (pv 0) pe_int (fun _ _ => rfl)) (pa_cons (pv 1) (pa_cons (pv 2) pa_nil)))) (pa_cons (pe_call c__law_day.ok (hr.mono (by omega)) (by rfl) c__law_day.mgx c__law_day.kp c__law_day.bd .nil pass0 (pa_cons (pe_ix (ixT (K := K) rfl) (pv 0) pe_int (fun _ _ => rfl)) (pa_cons (pv 1) (pa_cons (pv 2) pa_nil)))) pa_nil))))) pss_nil) (pss_cons (ps_if (pt_cmpR op_eq (pv 3) pe_str (nomark _)) (pss_one (ps_ret (pe_callB (call_min2 rfl) (by rfl) T.b_min (by decide +kernel) (pa_cons (pe_call c__law_day.ok (hr.mono (by omega)) (by rfl) c__law_day.mgx c__law_day.kp c__law_day.bd .nil pass0 (pa_cons (pe_ix (ixT (K := K) rfl) (pv 0) pe_int (fun _ _ => rfl)) (pa_cons (pv 1) (pa_cons (pv 2) pa_nil)))) (pa_cons (pe_call c__law_day.ok (hr.mono (by omega)) (by rfl) c__law_day.mgx c__law_day.kp c__law_day.bd .nil pass0 (pa_cons (pe_ix (ixT (K := K) rfl) (pv 0) pe_int (fun _ _ => rfl)) (pa_cons (pv 1) (pa_cons (pv 2) pa_nil)))) pa_nil))))) pss_nil) (pss_cons (ps_set (i := 4) sc__law_day.nd rfl (Or.inl rfl) (pe_call c__law_day.ok (hr.mono (by omega)) (by rfl) c__law_day.mgx c__law_day.kp c__law_day.bd .nil pass0 (pa_cons (pe_ix (ixT (K := K) rfl) (pv 0) pe_int (fun _ _ => rfl)) (pa_cons (pv 1) (pa_cons (pv 2) pa_nil))))) (pss_cons (ps_if (pt_cmpR op_eq (pv 3) pe_str (nomark _)) (pss_one (ps_ret (pe_op op_add (pv 4) (pe_ix (ixT (K := K) rfl) (pv 0) pe_int (fun _ _ => rfl))))) pss_nil) (pss_cons (ps_set (i := 5) sc__law_day.nd rfl (Or.inl rfl) (pe_dgetR hr.units (pv 2) (pe_ix (ixT (K := K) rfl) (pv 0) pe_int (fun _ _ => rfl)) (fun _ _ => rfl))) (pss_cons (ps_if (pt_cmpR op_eq (pv 3) pe_str (nomark _)) (pss_one (ps_ret (pe_call c__law_on.ok (hr.mono (by omega)) (by rfl) c__law_on.mgx c__law_on.kp c__law_on.bd .nil pass0 (pa_cons (pv 5) (pa_cons (pv 4) pa_nil))))) pss_nil) (pss_one (ps_ret (pe_ifExp (pt_cmpR op_eq (pv 3) pe_str (nomark _)) (pe_call c__law_by.ok (hr.mono (by omega)) (by rfl) c__law_by.mgx c__law_by.kp c__law_by.bd .nil pass0 (pa_cons (pv 5) (pa_cons (pv 4) pa_nil))) (pe_call c__law_til.ok (hr.mono (by omega)) (by rfl) c__law_til.mgx c__law_til.kp c__law_til.bd .nil pass0 (pa_cons (pv 5) (pa_cons (pv 4) pa_nil))))))))))))))), ?_⟩
    refine q_asg (ev_wordA (K := K) (ev_var rfl) ht) fun H1 e1 => ?_
    have a1 : At H1 x t := ht.mono (Tu.ex e1)
    have tw : ∀ (σ : L2.St) (H2 : Hp) (z : Str), σ[3]? = some (some (V.str (word t))) → EvT (tTest (tOp rEq (tVar 3) (tC (.str z)))) σ H2 (decide (word t = z)) := fun σ H2 z hv => et_is (et_test (ev_op (ev_var hv) ev_c (rv_eq rfl))) (dec_str _ _)
    cases t with
    | lf w v =>
      rcases hF with ⟨e, m, _, rfl⟩ | ⟨e, i, rfl⟩
      · subst e
        refine q_when (b := true) (tw _ _ _ rfl) (fun _ H2 e2 => ?_) (fun z => by cases z)
        exact s_ret (ev_dget (k := kS m) (ev_var rfl) (ev_ownA (K := K) (ev_var rfl) (a1.mono (Tu.ex e2)) rfl) ((hds.mono (e1.trans e2)).1) (valV_days (hh m rfl))) fun H3 e3 => k H3 ((e1.trans e2).trans e3)
      · subst e
        refine q_when (b := false) (tw _ _ _ rfl) (fun z => by cases z) (fun _ H2 e2 => ?_)
        refine q_when (b := true) (tw _ _ _ rfl) (fun _ H3 e3 => ?_) (fun z => by cases z)
        exact s_ret (ev_ownA (K := K) (ev_var rfl) (a1.mono (Tu.ex (e2.trans e3))) rfl) fun H4 e4 => k H4 (((e1.trans e2).trans e3).trans e4)
    | ov w v t =>
      have hk : IsF t := hF.2
      have hdt : depth t < n := Nat.lt_of_succ_lt_succ hdep
      have hzt : (pcs t).length ≤ 1000 := by have : (pcs (Td.ov w v t)).length = (pcs t).length + 1 := List.length_cons; omega
      have nn : ∀ z : Str, z ∈ (["day", "num", "late", "soon"] : List Str) → decide (w = z) = false := fun z hz' => decide_eq_false fun q => by
        rw [← q] at hz'
        rcases hF.1 with ⟨h, _⟩ | ⟨h, _⟩
        · rcases turn_cases h with e | e | e <;> (rw [e] at hz'; exact absurd hz' (by decide))
        · rw [h] at hz'; exact absurd hz' (by decide)
      refine q_when (b := decide (w = "day")) (tw _ _ _ rfl) (fun z => by rw [nn _ (by decide)] at z; cases z) (fun _ H2 e2 => ?_)
      refine q_when (b := decide (w = "num")) (tw _ _ _ rfl) (fun z => by rw [nn _ (by decide)] at z; cases z) (fun _ H3 e3 => ?_)
      refine q_when (b := decide (w = "late")) (tw _ _ _ rfl) (fun z => by rw [nn _ (by decide)] at z; cases z) (fun _ H4 e4 => ?_)
      refine q_when (b := decide (w = "soon")) (tw _ _ _ rfl) (fun z => by rw [nn _ (by decide)] at z; cases z) (fun _ H5 e5 => ?_)
      have e05 := (((e1.trans e2).trans e3).trans e4).trans e5
      obtain ⟨a, y, rfl, ha, hy⟩ := a1.mono (Tu.ex (((e2.trans e3).trans e4).trans e5))
      refine q_asg (ev_call (ea_cons (ev_at2 (K := K) (ev_var rfl) ha) (ea_cons (ev_var rfl) (ea_cons (ev_var rfl) ea_nil))) (spv_lday hy hk hdt hzt sm.2 (hds.mono e05) db (hws.mono e05) hh.2)) fun H6 e6 => ?_
      have e06 := e05.trans e6
      have hbd := day_bd db hws.goodW hk hh.2 sm.2
      have hfar : K25.Far (dayOf (dnOf ds) (wdOf ws) t) := ⟨by omega, by omega⟩
      rcases hF.1 with ⟨hw, rl, hrl, rfl⟩ | ⟨hw, i, rfl⟩
      · obtain ⟨q, hq, hv, hwd⟩ := valV_world (hh.1 rl rfl)
        obtain ⟨hr1, hg, hnr, hsq⟩ := hws.2.1 _ hq
        have sc : dayOf (dnOf ds) (wdOf ws) (.ov w (.str rl) t) = if w = "on" then onL q.2 (dayOf (dnOf ds) (wdOf ws) t) else if w = "by" then byL q.2 (dayOf (dnOf ds) (wdOf ws) t) else tilL q.2 (dayOf (dnOf ds) (wdOf ws) t) := by
          rw [← hwd] <;> rfl
        rw [sc] at k
        have n4 : decide (w = "add") = false := by rcases turn_cases hw with e | e | e <;> (subst e; decide)
        refine q_when (b := decide (w = "add")) (tw _ _ _ rfl) (fun z => by rw [n4] at z; cases z) (fun _ H7 e7 => ?_)
        refine q_asg (ev_dget (k := kS rl) (ev_var rfl) (ev_at1 (K := K) (ev_var rfl) ((e6.trans e7) a _ ha)) (hws.mono (e06.trans e7)).1 hv) fun H8 e8 => ?_
        have e08 := (e06.trans e7).trans e8
        rcases turn_cases hw with e | e | e
        · subst e
          refine q_when (b := true) (tw _ _ _ rfl) (fun _ H9 e9 => ?_) (fun z => by cases z)
          exact s_ret (ev_call (ea_cons (ev_var rfl) (ea_cons (ev_var rfl) ea_nil)) (spv_lon (ex_l (e08.trans e9) hsq) hg)) fun Ha ea => k Ha ((e08.trans e9).trans ea)
        · subst e
          refine q_when (b := false) (tw _ _ _ rfl) (fun z => by cases z) (fun _ H9 e9 => ?_)
          exact s_ret (ev_if (b := true) (tw _ _ _ rfl) (fun _ => ev_call (ea_cons (ev_var rfl) (ea_cons (ev_var rfl) ea_nil)) (spv_lby (ex_l (e08.trans e9) hsq) hg hnr hfar)) fun z => by cases z) fun Ha ea => k Ha ((e08.trans e9).trans ea)
        · subst e
          refine q_when (b := false) (tw _ _ _ rfl) (fun z => by cases z) (fun _ H9 e9 => ?_)
          exact s_ret (ev_if (b := false) (tw _ _ _ rfl) (fun z => by cases z) fun _ => ev_call (ea_cons (ev_var rfl) (ea_cons (ev_var rfl) ea_nil)) (spv_ltil (ex_l (e08.trans e9) hsq) hg hnr hfar)) fun Ha ea => k Ha ((e08.trans e9).trans ea)
      · subst hw
        refine q_when (b := true) (tw _ _ _ rfl) (fun _ H7 e7 => ?_) (fun z => by cases z)
        exact s_ret (ev_op (ev_var rfl) (ev_at1 (K := K) (ev_var rfl) ((e6.trans e7) a _ ha)) rv_I0) fun H8 e8 => k H8 ((e06.trans e7).trans e8)
    | nt t => exact hF.elim
    | bi w t u =>
      obtain ⟨hw, hk1, hk2⟩ := hF
      have hm := Nat.lt_of_succ_lt_succ hdep
      have hzb : (pcs (Td.bi w t u)).length = (pcs t ++ pcs u).length + 1 := List.length_cons
      rw [List.length_append] at hzb
      have nn : ∀ z : Str, z ∈ (["day", "num"] : List Str) → decide (w = z) = false := fun z hz' => decide_eq_false fun q => by
        rw [← q] at hz'
        rcases hw with e | e <;> (rw [e] at hz'; exact absurd hz' (by decide))
      refine q_when (b := decide (w = "day")) (tw _ _ _ rfl) (fun z => by rw [nn _ (by decide)] at z; cases z) (fun _ H2 e2 => ?_)
      refine q_when (b := decide (w = "num")) (tw _ _ _ rfl) (fun z => by rw [nn _ (by decide)] at z; cases z) (fun _ H3 e3 => ?_)
      have e03 := (e1.trans e2).trans e3
      obtain ⟨a, y, y2, rfl, ha, hy, hy2⟩ := a1.mono (Tu.ex (e2.trans e3))
      have c1 : ∀ H4, Ex H3 H4 → Ev (tCall (sp_lday K n) [] E0 (tCons (tOp (rIxT K) (tVar 0) (tC (.int 1))) (tCons (tVar 1) (tCons (tVar 2) tNil)))) [some (.ref a), some (.ref d), some (.ref r), some (.str w), none, none] H4 (.int (dayOf (dnOf ds) (wdOf ws) t)) := fun H4 e4 =>
        ev_call (ea_cons (ev_at1 (K := K) (ev_var rfl) (e4 a _ ha)) (ea_cons (ev_var rfl) (ea_cons (ev_var rfl) ea_nil))) (spv_lday (hy.mono (Tu.ex e4)) hk1 (by omega) (by omega) sm.1 (hds.mono (e03.trans e4)) db (hws.mono (e03.trans e4)) hh.1)
      have c2 : ∀ H4, Ex H3 H4 → Ev (tCall (sp_lday K n) [] E0 (tCons (tOp (rIxT K) (tVar 0) (tC (.int 2))) (tCons (tVar 1) (tCons (tVar 2) tNil)))) [some (.ref a), some (.ref d), some (.ref r), some (.str w), none, none] H4 (.int (dayOf (dnOf ds) (wdOf ws) u)) := fun H4 e4 =>
        ev_call (ea_cons (ev_at2 (K := K) (ev_var rfl) (e4 a _ ha)) (ea_cons (ev_var rfl) (ea_cons (ev_var rfl) ea_nil))) (spv_lday (hy2.mono (Tu.ex e4)) hk2 (by omega) (by omega) sm.2 (hds.mono (e03.trans e4)) db (hws.mono (e03.trans e4)) hh.2)
      rcases hw with e | e
      · subst e
        have sc : dayOf (dnOf ds) (wdOf ws) (.bi "late" t u) = if dayOf (dnOf ds) (wdOf ws) u > dayOf (dnOf ds) (wdOf ws) t then dayOf (dnOf ds) (wdOf ws) u else dayOf (dnOf ds) (wdOf ws) t := by
          show (if ("late" : Str) = "late" then _ else _) = _
          rw [if_pos rfl]
        rw [sc] at k
        refine q_when (b := true) (tw _ _ _ rfl) (fun _ H4 e4 => ?_) (fun z => by cases z)
        exact s_ret (ev_cb (ea_cons (c1 H4 e4) (ea_cons (c2 H4 e4) ea_nil)) rc_max2) fun H5 e5 => k H5 ((e03.trans e4).trans e5)
      · subst e
        have sc : dayOf (dnOf ds) (wdOf ws) (.bi "soon" t u) = if dayOf (dnOf ds) (wdOf ws) u < dayOf (dnOf ds) (wdOf ws) t then dayOf (dnOf ds) (wdOf ws) u else dayOf (dnOf ds) (wdOf ws) t := by
          show (if ("soon" : Str) = "late" then _ else _) = _
          rw [if_neg (by decide)]
        rw [sc] at k
        refine q_when (b := false) (tw _ _ _ rfl) (fun z => by cases z) (fun _ H4 e4 => ?_)
        refine q_when (b := true) (tw _ _ _ rfl) (fun _ H5 e5 => ?_) (fun z => by cases z)
        exact s_ret (ev_cb (ea_cons (c1 H5 (e4.trans e5)) (ea_cons (c2 H5 (e4.trans e5)) ea_nil)) rc_min2) fun H6 e6 => k H6 ((e03.trans (e4.trans e5)).trans e6)
end
end K25
end
section
set_option maxHeartbeats 4000000
namespace K25
open PySem L2 Evl G TM TD
noncomputable def sp_lso (K : PySem.W.Frag) (n : Nat) : Sp := fun vs H Q _ => ∃ x t d ds r ws, vs = [x, .ref d, .ref r] ∧ At H x t ∧ IsS t ∧ depth t < n ∧ depth t < 10 ∧ (pcs t).length ≤ 1000 ∧ Small t ∧ DaysAt H d ds ∧ DBd ds ∧ ListsAt K H r ws ∧ Has (ds.map (·.1)) (ws.map (·.1)) t ∧ RetV (.bl (soOf (dnOf ds) (wdOf ws) t)) H Q
theorem spv_lso {K : PySem.W.Frag} {n : Nat} {x : V} {t : Td} {d r : Addr} {ds : Ds} {ws : Ws} {H : Hp} (h : At H x t) (k : IsS t) (hd : depth t < n) (h10 : depth t < 10) (hz : (pcs t).length ≤ 1000) (sm : Small t) (a : DaysAt H d ds) (b' : DBd ds) (b : ListsAt K H r ws) (c : Has (ds.map (·.1)) (ws.map (·.1)) t) :
    SpV (sp_lso K n) ([x, .ref d, .ref r] ++ []) H (.bl (soOf (dnOf ds) (wdOf ws) t)) := fun H1 e Q q E => ⟨x, t, d, ds, r, ws, rfl, h.mono (Tu.ex e), k, hd, h10, hz, sm, a.mono e, b', b.mono e, c, q⟩
section
variable {P : Program} {w : World} {K : PySem.W.Frag} {mg : Str → Option Value} {base : Heap} {C SZ SY : Addr}
theorem ok_lso {f f1 : Addr} {fd fd1 : FuncData} (F : Fun K "_law_is_so" "_law_is_so" s__law_is_so f fd) (T : Txt P w K mg C SZ SY) (me : Me K mg "_law_is_so" f fd ["_law_saying_here", "_law_days_here", "_law_world_here"]) (c__law_day : Cal P w K mg base "_law_day" f1 fd1 ["_law_formula_here", "_law_days_here", "_law_world_here"] 13 (sp_lday K 10)) :
    ∀ n, FnOk P w K mg base CX0 (n + 14) f fd ["_law_saying_here", "_law_days_here", "_law_world_here"] (sp_lso K n) := by
  intro n
  induction n with
  | zero => exact ⟨fun vs H Q E h => by obtain ⟨x, t, d, ds, r, ws, _, _, _, hd, _⟩ := h; exact absurd hd (Nat.not_lt_zero _), fun A outer s H args us vs Q E _ _ _ _ h => by obtain ⟨x, t, d, ds, r, ws, _, _, _, hd, _⟩ := h; exact absurd hd (Nat.not_lt_zero _)⟩
  | succ n ih =>
  have c__law_is_so : Cal P w K mg base "_law_is_so" f fd ["_law_saying_here", "_law_days_here", "_law_world_here"] (n + 14) (sp_lso K n) := ⟨ih, me.mgx, me.kp, me.bd⟩
  refine F.ok (k := n + 14) sc__law_is_so (fun vs H Q E h => ?_) (fun cdv A outer s H vs Q E hr h => ?_)
  · obtain ⟨x, t, d, ds, r, ws, rfl, _⟩ := h
    rfl
  · obtain ⟨x, t, d, ds, r, ws, rfl, ht, hS, hdep, h10, hzz, sm, hds, db, hws, hh, k⟩ := h
    refine ⟨_, (pss_cons (ps_set (i := 3) sc__law_is_so.nd rfl (Or.inl rfl) (pe_ix (ixT (K := K) rfl) (pv 0) pe_int (fun _ _ => rfl))) (pss_cons (ps_if (pt_cmpR op_eq (pv 3) pe_str (nomark _)) (pss_one (ps_ret (pe_cmpR op_le (pe_call c__law_day.ok (hr.mono (by omega)) (by rfl) c__law_day.mgx c__law_day.kp c__law_day.bd .nil pass0 (pa_cons (pe_ix (ixT (K := K) rfl) (pv 0) pe_int (fun _ _ => rfl)) (pa_cons (pv 1) (pa_cons (pv 2) pa_nil)))) (pe_call c__law_day.ok (hr.mono (by omega)) (by rfl) c__law_day.mgx c__law_day.kp c__law_day.bd .nil pass0 (pa_cons (pe_ix (ixT (K := K) rfl) (pv 0) pe_int (fun _ _ => rfl)) (pa_cons (pv 1) (pa_cons (pv 2) pa_nil)))) (nomark _)))) pss_nil) (pss_cons (ps_if (pt_cmpR op_eq (pv 3) pe_str (nomark _)) (pss_one (ps_ret (pe_not (pe_call c__law_is_so.ok (hr.mono (by omega)) (by rfl) c__law_is_so.mgx c__law_is_so.kp c__law_is_so.bd .nil pass0 (pa_cons (pe_ix (ixT (K := K) rfl) (pv 0) pe_int (fun _ _ => rfl)) (pa_cons (pv 1) (pa_cons (pv 2) pa_nil))))))) pss_nil) (pss_cons (ps_par (i := 4) (j := 5) (by rfl) sc__law_is_so.nd rfl rfl (by decide) rfl rfl (pa_cons (pe_call c__law_is_so.ok (hr.mono (by omega)) (by rfl) c__law_is_so.mgx c__law_is_so.kp c__law_is_so.bd .nil pass0 (pa_cons (pe_ix (ixT (K := K) rfl) (pv 0) pe_int (fun _ _ => rfl)) (pa_cons (pv 1) (pa_cons (pv 2) pa_nil)))) (pa_cons (pe_call c__law_is_so.ok (hr.mono (by omega)) (by rfl) c__law_is_so.mgx c__law_is_so.kp c__law_is_so.bd .nil pass0 (pa_cons (pe_ix (ixT (K := K) rfl) (pv 0) pe_int (fun _ _ => rfl)) (pa_cons (pv 1) (pa_cons (pv 2) pa_nil)))) pa_nil)) (by rfl)) (pss_one (ps_ret (pe_ifExp (pt_cmpR op_eq (pv 3) pe_str (nomark _)) (pe_and (pv 4) (pe_one (pv 5))) (pe_or (pv 4) (pe_one (pv 5)))))))))), ?_⟩
    refine q_asg (ev_wordA (K := K) (ev_var rfl) ht) fun H1 e1 => ?_
    have a1 : At H1 x t := ht.mono (Tu.ex e1)
    have tw : ∀ (σ : L2.St) (H2 : Hp) (z : Str), σ[3]? = some (some (V.str (word t))) → EvT (tTest (tOp rEq (tVar 3) (tC (.str z)))) σ H2 (decide (word t = z)) := fun σ H2 z hv => et_is (et_test (ev_op (ev_var hv) ev_c (rv_eq rfl))) (dec_str _ _)
    cases t with
    | lf w v => exact hS.elim
    | ov w v t => exact hS.elim
    | nt t =>
      obtain ⟨a, y, rfl, ha, hy⟩ := a1
      have hdt : depth t < n := Nat.lt_of_succ_lt_succ hdep
      have hdt10 : depth t < 10 := Nat.lt_of_succ_lt h10
      have hzt : (pcs t).length ≤ 1000 := by have : (pcs (Td.nt t)).length = (pcs t).length + 1 := List.length_cons; omega
      have n1 : decide (("not" : Str) = "le") = false := by decide
      have n2 : decide (("not" : Str) = "not") = true := by decide
      refine q_when (b := decide (("not" : Str) = "le")) (tw _ _ _ rfl) (fun z => by rw [n1] at z; cases z) (fun _ H2 e2 => ?_)
      refine q_when (b := decide (("not" : Str) = "not")) (tw _ _ _ rfl) (fun _ H3 e3 => ?_) (fun z => by rw [n2] at z; cases z)
      have e03 := (e1.trans e2).trans e3
      exact s_ret (ev_notV (ev_call (ea_cons (ev_at1 (K := K) (ev_var rfl) ((e2.trans e3) a _ ha)) (ea_cons (ev_var rfl) (ea_cons (ev_var rfl) ea_nil))) (spv_lso (hy.mono (Tu.ex (e2.trans e3))) hS hdt hdt10 hzt sm (hds.mono e03) db (hws.mono e03) hh))) fun H4 e4 => k H4 (e03.trans e4)
    | bi w t u =>
      obtain ⟨a, y, z, rfl, ha, hy, hz⟩ := a1
      have hm := Nat.lt_of_succ_lt_succ hdep
      have hm10 : max (depth t) (depth u) + 1 < 10 := h10
      have hzb : (pcs (Td.bi w t u)).length = (pcs t ++ pcs u).length + 1 := List.length_cons
      rw [List.length_append] at hzb
      rcases hS with ⟨e, hF1, hF2⟩ | ⟨hw, hS1, hS2⟩
      · subst e
        have n1 : decide (("le" : Str) = "le") = true := by decide
        refine q_when (b := decide (("le" : Str) = "le")) (tw _ _ _ rfl) (fun _ H2 e2 => ?_) (fun z => by rw [n1] at z; cases z)
        have e02 := e1.trans e2
        refine s_ret (ev_is (ev_op (ev_call (ea_cons (ev_at1 (K := K) (ev_var rfl) (e2 a _ ha)) (ea_cons (ev_var rfl) (ea_cons (ev_var rfl) ea_nil))) (spv_lday (hy.mono (Tu.ex e2)) hF1 (by omega) (by omega) sm.1 (hds.mono e02) db (hws.mono e02) hh.1)) (ev_call (ea_cons (ev_at2 (K := K) (ev_var rfl) (e2 a _ ha)) (ea_cons (ev_var rfl) (ea_cons (ev_var rfl) ea_nil))) (spv_lday (hz.mono (Tu.ex e2)) hF2 (by omega) (by omega) sm.2 (hds.mono e02) db (hws.mono e02) hh.2)) rv_I0) (w := .bl (soOf (dnOf ds) (wdOf ws) (.bi "le" t u))) ?_) fun H3 e3 => k H3 (e02.trans e3)
        show V.bl _ = V.bl (if ("le" : Str) = "le" then _ else _)
        rw [if_pos rfl]
      · have n1 : decide (w = "le") = false := by rcases hw with e | e <;> (subst e; decide)
        have n2 : decide (w = "not") = false := by rcases hw with e | e <;> (subst e; decide)
        refine q_when (b := decide (w = "le")) (tw _ _ _ rfl) (fun z => by rw [n1] at z; cases z) (fun _ H2 e2 => ?_)
        refine q_when (b := decide (w = "not")) (tw _ _ _ rfl) (fun z => by rw [n2] at z; cases z) (fun _ H3 e3 => ?_)
        have e03 := (e1.trans e2).trans e3
        have nl : ¬ w = "le" := of_decide_eq_false n1
        refine q_par (v := .bl (soOf (dnOf ds) (wdOf ws) t)) (w := .bl (soOf (dnOf ds) (wdOf ws) u)) (ea_cons (ev_call (ea_cons (ev_at1 (K := K) (ev_var rfl) ((e2.trans e3) a _ ha)) (ea_cons (ev_var rfl) (ea_cons (ev_var rfl) ea_nil))) (spv_lso (hy.mono (Tu.ex (e2.trans e3))) hS1 (by omega) (by omega) (by omega) sm.1 (hds.mono e03) db (hws.mono e03) hh.1)) (ea_cons (ev_call (ea_cons (ev_at2 (K := K) (ev_var rfl) ((e2.trans e3) a _ ha)) (ea_cons (ev_var rfl) (ea_cons (ev_var rfl) ea_nil))) (spv_lso (hz.mono (Tu.ex (e2.trans e3))) hS2 (by omega) (by omega) (by omega) sm.2 (hds.mono e03) db (hws.mono e03) hh.2)) ea_nil)) fun H4 e4 => ?_
        refine s_ret (v := .bl (soOf (dnOf ds) (wdOf ws) (.bi w t u))) (ev_if (b := decide (w = "and")) (tw _ _ _ rfl) (fun hb => ?_) (fun hb => ?_)) fun H5 e5 => k H5 ((e03.trans e4).trans e5)
        · have e : w = "and" := of_decide_eq_true hb
          refine ev_is (ev_andV (ev_var rfl) fun _ => ev_var rfl) ?_
          show V.bl _ = V.bl (if w = "le" then _ else if w = "and" then _ else _)
          rw [if_neg nl, if_pos e]
        · have e : ¬ w = "and" := of_decide_eq_false hb
          refine ev_is (ev_orV (ev_var rfl) fun _ => ev_var rfl) ?_
          show V.bl _ = V.bl (if w = "le" then _ else if w = "and" then _ else _)
          rw [if_neg nl, if_neg e]
end
/-! ### comprehensions that draw -/
theorem wo_wo {H H' : Hp} {p q : Addr} (h : ∀ b o, b ≠ p → b ≠ q → H b = some o → H' b = some o) : Ex (wo (wo H p) q) (wo (wo H' p) q) := fun b o hb => by
  by_cases z : b = q
  · subst z; rw [wo_at] at hb; cases hb
  · rw [wo_ne z] at hb ⊢
    by_cases y : b = p
    · subst y; rw [wo_at] at hb; cases hb
    · rw [wo_ne y] at hb ⊢
      exact h b o y z hb
section
variable {K : PySem.W.Frag} {σ : L2.St} {H : Hp} {p a : Addr} {j : Nat} {vs : List Nat} {tl te : TE} {Q : VK} {L : List Str}
/-- [e for x in a list of texts], e draws: Z tells of each new thing, without the pot and without what stood there -/
theorem lc_pot (Z : Str → V → Hp → Prop) (zm : ∀ x v B B', Ex B B' → Z x v B → Z x v B') (hp : PotAt H p) (hl : Ev tl σ H (.ref a)) (hs : SqL K (wo H p) a (L.map V.str)) (hz : L.length ≤ 1000) (hw : ∀ x, wipe ((wipe σ vs).set j (some x)) vs = wipe σ vs)
    (he : ∀ x, x ∈ L → ∀ H1, Ex (wo H p) H1 → PotAt H1 p → ∀ Q' : VK, (∀ v H2, Ex (wo H1 p) H2 → PotAt H2 p → (∀ q, H1 q ≠ none → Z x v (wo (wo H2 p) q)) → Q' v H2) → te ((wipe σ vs).set j (some (.str x))) H1 Q')
    (k : ∀ (D : Addr) (us : List V) (H2 : Hp), H D = none → Ex (wo H p) H2 → PotAt H2 p → H2 D = some (.lst us) → us.length = L.length → (∀ (i : Nat) (x : Str) (v : V), L[i]? = some x → us[i]? = some v → Z x v (wo (wo H2 p) D)) → Q (.ref D) H2) : tLc (iList K tl) (gName j) tYes te vs σ H Q :=
  hl H (Ex.refl _) _ fun H1 e1 => ⟨a, rfl, ⟨_, ex_l (wo_ex.trans e1) hs⟩, fun Dl hD => by
    obtain ⟨o, ho⟩ := hp.some
    have hHD : H Dl = none := fresh_back e1 hD
    have hne : Dl ≠ p := (ne_of_none ho hHD).symm
    have hwD : wo H p Dl = none := by rw [wo_ne hne]; exact hHD
    refine lc_list (xs := L.map V.str) (fun i H' => ∃ acc : List V, Ex (wo H p) H' ∧ PotAt H' p ∧ H' Dl = some (.lst acc) ∧ acc.length = i ∧ ∀ (m : Nat) (x : Str) (v : V), L[m]? = some x → acc[m]? = some v → Z x v (wo (wo H' p) Dl))
      ⟨[], (wo_ex.trans e1).trans (Ex.new hD), (hp.mono e1).mono (Ex.new hD), upd_same, rfl, fun m x v _ h => by simp at h⟩ (fun i H' _ h => ?_) (fun i x H' hi h => ?_) (fun H' h => ?_)
    · obtain ⟨acc, x1, _⟩ := h
      exact ex_l x1 hs
    · obtain ⟨acc, x1, x2, x3, x4, x5⟩ := h
      rw [List.getElem?_map] at hi
      obtain ⟨s, hsx, rfl⟩ := Option.map_eq_some_iff.mp hi
      refine ⟨hw _, ?_⟩
      unfold tYes
      refine iteT ?_
      refine he s (List.mem_of_getElem? hsx) H' x1 x2 _ fun v H2 e2 hp2 z => ?_
      have h2D : H2 Dl = some (.lst acc) := e2 Dl _ (by rw [wo_ne hne]; exact x3)
      have hlt : i < L.length := (List.getElem?_eq_some_iff.mp hsx).1
      refine ⟨acc, h2D, sz_lt (by omega), acc ++ [v], (wo_tr x1 e2).mut hwD, ?_, upd_same, by rw [List.length_append, x4] <;> rfl, fun m x u hm hu => ?_⟩
      · obtain ⟨c, d, q1, q2⟩ := hp2
        exact ⟨c, d, q1, by rw [upd_ne (Ne.symm hne)]; exact q2⟩
      · by_cases hmi : m < acc.length
        · rw [List.getElem?_append_left hmi] at hu
          exact zm x u _ _ (wo_wo fun b o h1 h2 hb => by rw [upd_ne h2]; exact e2 b o (by rw [wo_ne h1]; exact hb)) (x5 m x u hm hu)
        · rw [List.getElem?_append_right (by omega)] at hu
          have hm0 : m - acc.length = 0 := by
            refine Classical.byContradiction fun q => ?_
            rw [List.getElem?_eq_none (by show 1 ≤ m - acc.length; omega)] at hu
            cases hu
          rw [hm0] at hu
          have hmeq : m = i := by omega
          subst hmeq
          rw [hsx] at hm
          cases hm
          cases hu
          exact zm _ _ _ _ (wo_wo fun b o h1 h2 hb => by rw [upd_ne h2]; exact hb) (z Dl (by rw [x3]; exact fun y => by cases y))
    · obtain ⟨acc, x1, x2, x3, x4, x5⟩ := h
      rw [List.length_map] at x4
      exact k Dl acc H' hHD x1 x2 x3 x4 x5⟩
end
end K25
end
section
set_option maxHeartbeats 4000000
namespace K25
open PySem L2 Evl G TM TD
/-! ### dicts of pairs -/
theorem valV_none {kvs : List (Key × V)} {k : Key} (h : k ∉ kvs.map (·.1)) : valV kvs k = none := by
  induction kvs with
  | nil => rfl
  | cons p kvs ih =>
    rw [List.map_cons, List.mem_cons, not_or] at h
    rw [valV_neg (fun z => h.1 z.symm)]
    exact ih h.2
theorem merge_new : ∀ (more kvs : List (Key × V)), (more.map (·.1)).Nodup → (∀ k ∈ more.map (·.1), k ∉ kvs.map (·.1)) → mergeK kvs more = kvs ++ more
  | [], kvs, _, _ => (List.append_nil _).symm
  | p :: more, kvs, hn, hd => by
    obtain ⟨h1, h2⟩ := List.nodup_cons.mp hn
    show mergeK (putK kvs p.1 p.2) more = _
    rw [putK_new p.2 (valV_none (hd p.1 List.mem_cons_self)), merge_new more _ h2 fun k hk => ?_]
    · simp
    · rw [List.map_append, List.mem_append, not_or]
      refine ⟨hd k (List.mem_cons_of_mem _ hk), fun z => ?_⟩
      rw [List.map_cons, List.map_nil, List.mem_singleton] at z
      subst z; exact h1 hk
theorem merge_nil {kvs : List (Key × V)} (h : (kvs.map (·.1)).Nodup) : mergeK [] kvs = kvs := by
  rw [merge_new kvs [] h fun k _ hk => by cases hk]
  rfl
theorem keyed_keys {α : Type} (g : α → V) (ds : List (Str × α)) : (keyed g ds).map (·.1) = ds.map fun p => kS p.1 := by unfold keyed; rw [List.map_map]; rfl
theorem keyed_nodup {α : Type} (g : α → V) {ds : List (Str × α)} (h : (ds.map (·.1)).Nodup) : ((keyed g ds).map (·.1)).Nodup := by
  rw [keyed_keys]
  have e : (ds.map fun p => kS p.1) = (ds.map (·.1)).map kS := by rw [List.map_map]; rfl
  rw [e]
  exact List.Pairwise.map _ (fun a b q z => q (Sum.inr.inj z)) h
/-- the pairs that a comprehension made -/
theorem pairs_ex {α : Type} {K : PySem.W.Frag} {H : Hp} {G : Str → α → Prop} {g : α → V} : ∀ (L : List Str) (us : List V), us.length = L.length → (∀ (i : Nat) (x : Str) (v : V), L[i]? = some x → us[i]? = some v → ∃ T c, v = .ref T ∧ H T = some (.tup [.str x, g c]) ∧ G x c) →
    ∃ (ps : List Addr) (ds : List (Str × α)), us = ps.map V.ref ∧ ds.map (·.1) = L ∧ Paired (fun p kv => SqT K H p [kV kv.1, kv.2]) ps (keyed g ds) ∧ ∀ p ∈ ds, G p.1 p.2
  | [], us, hl, _ => by
    cases us with
    | nil => exact ⟨[], [], rfl, rfl, .nil, fun p hp => by cases hp⟩
    | cons _ _ => cases hl
  | x :: L, us, hl, h => by
    cases us with
    | nil => cases hl
    | cons u us =>
      obtain ⟨T, c, rfl, hT, hG⟩ := h 0 x u rfl rfl
      obtain ⟨ps, ds, h1, h2, h3, h4⟩ := pairs_ex L us (by simpa using hl) fun i y v a b => h (i + 1) y v (by simpa using a) (by simpa using b)
      refine ⟨T :: ps, (x, c) :: ds, by rw [h1] <;> rfl, by rw [List.map_cons, h2], .cons (st_of hT) h3, fun p hp => ?_⟩
      rcases List.mem_cons.mp hp with e | hp
      · subst e; exact hG
      · exact h4 p hp
/-- days of a law's draw -/
noncomputable def DBs (ds : Ds) : Prop := ∀ p ∈ ds, -200000000000 ≤ p.2 ∧ p.2 ≤ 200000000000
theorem DBs.bd {ds : Ds} (h : DBs ds) : DBd ds := fun p hp => by have := h p hp; omega
noncomputable def sp_ldays : Sp := fun vs H Q _ => ∃ (p a : Addr) (N : List Str), vs = [.ref p, .ref a] ∧ PotAt H p ∧ wo H p a = some (.lst (N.map V.str)) ∧ N.length ≤ 1000 ∧ N.Nodup ∧ (∀ x ∈ N, x ∈ nameL) ∧
  ∀ d ds H2, H d = none → Ex (wo H p) H2 → PotAt H2 p → DaysAt H2 d ds → DBs ds → ds.map (·.1) = N → Q (.ref d) H2
noncomputable def sp_lworld (K : PySem.W.Frag) : Sp := fun vs H Q _ => ∃ (p a : Addr) (N : List Str), vs = [.ref p, .ref a] ∧ PotAt H p ∧ wo H p a = some (.lst (N.map V.str)) ∧ N.length ≤ 1000 ∧ N.Nodup ∧ (∀ x ∈ N, x ∈ ruleL) ∧
  ∀ d ws H2, H d = none → Ex (wo H p) H2 → PotAt H2 p → ListsAt K (wo H2 p) d ws → (∀ q ∈ ws, q.2.2.length ≤ 8 ∧ wo H2 p q.2.1 = some (.lst (q.2.2.map V.int))) → ws.map (·.1) = N → Q (.ref d) H2
section
variable {P : Program} {w : World} {K : PySem.W.Frag} {mg : Str → Option Value} {base : Heap} {C SZ SY : Addr}
theorem ok_days {f f1 : Addr} {fd fd1 : FuncData} (F : Fun K "_law_days" "_law_days" s__law_days f fd) (T : Txt P w K mg C SZ SY) (c__law_draw : Cal P w K mg base "_law_draw" f1 fd1 ["_law_pot_here", "_law_many_here"] 1 sp_draw) : FnOk P w K mg base CX0 3 f fd ["_law_pot_here", "_law_names"] sp_ldays := by
  refine F.ok sc__law_days (fun vs H Q E h => ?_) (fun cdv A outer s H vs Q E hr h => ?_)
  · obtain ⟨p, a, N, rfl, _⟩ := h
    rfl
  · obtain ⟨p, a, N, rfl, hp, ha, hz, hnd, hsub, k⟩ := h
    refine ⟨_, (pss_one (ps_ret (pe_callTy (call_dictP rfl) (by rfl) T.b_dict (by decide +kernel) (pa_cons (pe_lc (own := [("_law_name", 2)]) (g := (gName 2)) (by rfl) sc__law_days.nd (piL (K := K) rfl (pv 1)) (blkOk_by (own := [("_law_name", 2)]) (N := ["_law_pot_here", "_law_names", "_law_name"]) (sc := defScope s__law_days) (by decide +kernel)) (fun _ _ _ _ _ => (pg_name (i := 2) sc__law_days.nd rfl (Or.inl rfl))) (fun _ _ _ _ _ => pts_nil) (fun _ _ _ _ _ => (pe_tup (pa_cons (pv 2) (pa_cons (pe_op op_sub (pe_call c__law_draw.ok (hr.mono (by decide)) (by rfl) c__law_draw.mgx c__law_draw.kp c__law_draw.bd .nil pass0 (pa_cons (pv 0) (pa_cons pe_int pa_nil))) pe_int) pa_nil))))) pa_nil)))), ?_⟩
    refine ret_k (cb_k (ac_k (lc_pot (K := K) (L := N) (a := a) (p := p) (fun x v B => ∃ T i, v = .ref T ∧ B T = some (.tup [.str x, .int i]) ∧ -200000000000 ≤ i ∧ i ≤ 200000000000) (fun x v B B' e ⟨T, i, h1, h2, h3⟩ => ⟨T, i, h1, e T _ h2, h3⟩) hp (ev_var rfl) (sq_of ha) hz (fun _ => rfl) (fun x hx H1 e1 hp1 Q' q' => ?_) (fun D us H2 hD e2 hp2 h2 hl hZ => ?_))))
    · refine tup_k (ac_v (ev_var (i := 2) rfl) fun H2 e2 => ac_k (op_k (drawC (hp1.mono e2) rfl ev_c (by decide) (by decide) fun d H3 d0 d1 e3 hp3 => v_k ev_c fun H4 e4 => ⟨d, 6, rfl, rfl, ac_nil ⟨sz_of (by show 2 ≤ 100000; decide), fun T hT => ?_⟩⟩)))
      have e15 : Ex (wo H1 p) H4 := (wo_tr (wo_ex.trans e2) e3).trans e4
      have hp5 := hp3.mono e4
      obtain ⟨o5, ho5⟩ := hp5.some
      have hTp : T ≠ p := (ne_of_none ho5 hT).symm
      refine q' _ _ (e15.trans (Ex.new hT)) (hp5.mono (Ex.new hT)) fun q hq => ⟨T, (d : Int) - 6, rfl, ?_, by omega, by omega⟩
      have hTq : T ≠ q := by
        rintro rfl
        cases hh : H1 T with
        | none => exact hq hh
        | some u =>
          have := e15 T u (by rw [wo_ne hTp]; exact hh)
          rw [hT] at this
          cases this
      rw [wo_ne hTq, wo_ne hTp]
      exact upd_same
    · obtain ⟨ps, ds, rfl, hkeys, hpr, hG⟩ := pairs_ex (K := K) (H := H2) (g := V.int) (G := fun _ i => -200000000000 ≤ i ∧ i ≤ 200000000000) N us hl fun i x v a b => by
        obtain ⟨T, m, h1, h3, h4⟩ := hZ i x v a b
        exact ⟨T, m, h1, wo_ex T _ (wo_ex T _ h3), h4⟩
      refine ac_nil ⟨D, ps, keyed V.int ds, rfl, sq_of h2, hpr, fun d hd => ?_⟩
      rw [merge_nil (keyed_nodup _ (by rw [hkeys]; exact hnd))]
      have hdH : H d = none := by
        obtain ⟨o2, ho2⟩ := hp2.some
        have hdp : d ≠ p := (ne_of_none ho2 hd).symm
        cases q : H d with
        | none => rfl
        | some u => exact absurd (e2 d u (by rw [wo_ne hdp]; exact q)) (by rw [hd]; exact fun z => by cases z)
      exact k d ds _ hdH (e2.trans (Ex.new hd)) (hp2.mono (Ex.new hd)) ⟨upd_same, fun q hq => hsub _ (by rw [← hkeys]; exact List.mem_map.mpr ⟨q, hq, rfl⟩), by have := congrArg List.length hkeys; rw [List.length_map] at this; omega⟩ (fun q hq => hG q hq) hkeys
end
end K25
end
section
set_option maxHeartbeats 4000000
namespace K25
open PySem L2 Evl G TM TD
section
variable {P : Program} {w : World} {K : PySem.W.Frag} {mg : Str → Option Value} {base : Heap} {C SZ SY : Addr}
theorem ok_world {f f1 : Addr} {fd fd1 : FuncData} (F : Fun K "_law_world" "_law_world" s__law_world f fd) (T : Txt P w K mg C SZ SY) (c__law_table : Cal P w K mg base "_law_table" f1 fd1 ["_law_pot_here"] 3 sp_table) : FnOk P w K mg base CX0 4 f fd ["_law_pot_here", "_law_rules"] (sp_lworld K) := by
  refine F.ok sc__law_world (fun vs H Q E h => ?_) (fun cdv A outer s H vs Q E hr h => ?_)
  · obtain ⟨p, a, N, rfl, _⟩ := h
    rfl
  · obtain ⟨p, a, N, rfl, hp, ha, hz, hnd, hsub, k⟩ := h
    refine ⟨_, (pss_one (ps_ret (pe_callTy (call_dictP rfl) (by rfl) T.b_dict (by decide +kernel) (pa_cons (pe_lc (own := [("_law_rule", 2)]) (g := (gName 2)) (by rfl) sc__law_world.nd (piL (K := K) rfl (pv 1)) (blkOk_by (own := [("_law_rule", 2)]) (N := ["_law_pot_here", "_law_rules", "_law_rule"]) (sc := defScope s__law_world) (by decide +kernel)) (fun _ _ _ _ _ => (pg_name (i := 2) sc__law_world.nd rfl (Or.inl rfl))) (fun _ _ _ _ _ => pts_nil) (fun _ _ _ _ _ => (pe_tup (pa_cons (pv 2) (pa_cons (pe_call c__law_table.ok (hr.mono (by decide)) (by rfl) c__law_table.mgx c__law_table.kp c__law_table.bd .nil pass0 (pa_cons (pv 0) pa_nil)) pa_nil))))) pa_nil)))), ?_⟩
    refine ret_k (cb_k (ac_k (lc_pot (K := K) (L := N) (a := a) (p := p) (fun x v B => ∃ T l ns, v = .ref T ∧ B T = some (.tup [.str x, .ref l]) ∧ B l = some (.lst (ns.map V.int)) ∧ Good ns ∧ Near ns ∧ ns.length ≤ 8) (fun x v B B' e ⟨T, l, ns, h1, h2, h3, h4⟩ => ⟨T, l, ns, h1, e T (.tup [.str x, .ref l]) h2, e l (.lst (ns.map V.int)) h3, h4⟩) hp (ev_var rfl) (sq_of ha) hz (fun _ => rfl) (fun x hx H1 e1 hp1 Q' q' => ?_) (fun D us H2 hD e2 hp2 h2 hl hZ => ?_))))
    · refine tup_k (ac_v (ev_var (i := 2) rfl) fun H2 e2 => ac_k ⟨.ref p, rfl, p, rfl, hp1.mono e2, fun l ns H5 hl e5 hp5 h5 hg hn h8 => ?_⟩)
      refine ac_nil ⟨sz_of (by show 2 ≤ 100000; decide), fun T hT => ?_⟩
      have e15 : Ex (wo H1 p) H5 := wo_tr (wo_ex.trans e2) e5
      obtain ⟨o5, ho5⟩ := hp5.some
      have hTp : T ≠ p := (ne_of_none ho5 hT).symm
      have hTl : T ≠ l := (ne_of_none h5 hT).symm
      have hlH : H1 l = none := fresh_back e2 hl
      refine q' _ _ (e15.trans (Ex.new hT)) (hp5.mono (Ex.new hT)) fun q hq => ⟨T, l, ns, rfl, ?_, ?_, hg, hn, h8⟩
      · have hTq : T ≠ q := by
          rintro rfl
          cases hh : H1 T with
          | none => exact hq hh
          | some u =>
            have := e15 T u (by rw [wo_ne hTp]; exact hh)
            rw [hT] at this
            cases this
        rw [wo_ne hTq, wo_ne hTp]
        exact upd_same
      · have hlq : l ≠ q := by
          rintro rfl
          exact hq hlH
        have hlp : l ≠ p := by
          rintro rfl
          obtain ⟨o1, ho1⟩ := hp1.some
          rw [hlH] at ho1
          cases ho1
        rw [wo_ne hlq, wo_ne hlp]
        exact Ex.new hT l _ h5
    · obtain ⟨ps, ws, rfl, hkeys, hpr, hG⟩ := pairs_ex (K := K) (H := H2) (g := wV) (G := fun _ c => wo H2 p c.1 = some (.lst (c.2.map V.int)) ∧ Good c.2 ∧ Near c.2 ∧ c.2.length ≤ 8) N us hl fun i x v a b => by
        obtain ⟨T, l, ns, h1, h3, h5, h4⟩ := hZ i x v a b
        exact ⟨T, (l, ns), h1, wo_ex T _ (wo_ex T _ h3), wo_ex l _ h5, h4⟩
      refine ac_nil ⟨D, ps, keyed wV ws, rfl, sq_of h2, hpr, fun d hd => ?_⟩
      rw [merge_nil (keyed_nodup _ (by rw [hkeys]; exact hnd))]
      have hdp : d ≠ p := by
        obtain ⟨o2, ho2⟩ := hp2.some
        exact (ne_of_none ho2 hd).symm
      have hdH : H d = none := by
        cases q : H d with
        | none => rfl
        | some u => exact absurd (e2 d u (by rw [wo_ne hdp]; exact q)) (by rw [hd]; exact fun z => by cases z)
      exact k d ws _ hdH (e2.trans (Ex.new hd)) (hp2.mono (Ex.new hd)) ⟨by rw [wo_ne hdp]; exact upd_same, fun q hq => ⟨hsub _ (by rw [← hkeys]; exact List.mem_map.mpr ⟨q, hq, rfl⟩), (hG q hq).2.1, (hG q hq).2.2.1, sq_of (wo_mono (Ex.new hd) _ _ (hG q hq).1)⟩, by have := congrArg List.length hkeys; rw [List.length_map] at this; omega⟩ (fun q hq => ⟨(hG q hq).2.2.2, wo_mono (Ex.new hd) _ _ (hG q hq).1⟩) hkeys
/-- a whole number -/
noncomputable def sp_law_is_integer : Sp := fun vs H Q _ => ∃ n : Int, vs = [.int n] ∧ RetV (.bl true) H Q
end
end K25
end
section
set_option maxHeartbeats 4000000
namespace K25
open PySem L2 Evl G TM TD PyProof.Rows
section
variable {K : PySem.W.Frag} {σ : L2.St} {H : Hp} {a : Addr} {j : Nat} {vs : List Nat} {tl te ta : TE} {Q : VK} {L : List Str} {xs : List V}
/-- [e for x in a new list of texts], e makes new things -/
theorem lc_new (Z : Str → V → Hp → Prop) (zm : ∀ x v B B', Ex B B' → Z x v B → Z x v B') (hl : EvL tl σ H (L.map V.str)) (hz : L.length ≤ 1000) (hw : ∀ x, wipe ((wipe σ vs).set j (some x)) vs = wipe σ vs)
    (he : ∀ x, x ∈ L → ∀ H1, Ex H H1 → ∀ Q' : VK, (∀ v H2, Ex H1 H2 → (∀ q, H1 q ≠ none → Z x v (wo H2 q)) → Q' v H2) → te ((wipe σ vs).set j (some (.str x))) H1 Q')
    (k : ∀ (D : Addr) (us : List V) (H2 : Hp), H D = none → Ex H H2 → H2 D = some (.lst us) → us.length = L.length → (∀ (i : Nat) (x : Str) (v : V), L[i]? = some x → us[i]? = some v → Z x v (wo H2 D)) → Q (.ref D) H2) : tLc (iList K tl) (gName j) tYes te vs σ H Q :=
  hl H (Ex.refl _) _ fun a H1 ha e1 h1 => ⟨a, rfl, ⟨_, sq_of h1⟩, fun Dl hD => by
    refine lc_list (xs := L.map V.str) (fun i H' => ∃ acc : List V, Ex H1 H' ∧ H' Dl = some (.lst acc) ∧ acc.length = i ∧ ∀ (m : Nat) (x : Str) (v : V), L[m]? = some x → acc[m]? = some v → Z x v (wo H' Dl))
      ⟨[], Ex.new hD, upd_same, rfl, fun m x v _ h => by simp at h⟩ (fun i H' _ h => ?_) (fun i x H' hi h => ?_) (fun H' h => ?_)
    · obtain ⟨acc, x1, _⟩ := h
      exact sq_of (x1 a _ h1)
    · obtain ⟨acc, x1, x3, x4, x5⟩ := h
      rw [List.getElem?_map] at hi
      obtain ⟨s, hsx, rfl⟩ := Option.map_eq_some_iff.mp hi
      refine ⟨hw _, ?_⟩
      unfold tYes
      refine iteT ?_
      refine he s (List.mem_of_getElem? hsx) H' (e1.trans x1) _ fun v H2 e2 z => ?_
      have h2D : H2 Dl = some (.lst acc) := e2 Dl _ x3
      have hlt : i < L.length := (List.getElem?_eq_some_iff.mp hsx).1
      refine ⟨acc, h2D, sz_lt (by omega), acc ++ [v], (x1.trans e2).mut hD, upd_same, by rw [List.length_append, x4] <;> rfl, fun m x u hm hu => ?_⟩
      have keep : ∀ (B : Hp) (o : HO), Ex B H2 → Ex (wo B Dl) (wo (upd H2 Dl o) Dl) := fun B o e b u hb => by
        by_cases q : b = Dl
        · subst q; rw [wo_at] at hb; cases hb
        · rw [wo_ne q] at hb ⊢
          rw [upd_ne q]
          exact e b u hb
      by_cases hmi : m < acc.length
      · rw [List.getElem?_append_left hmi] at hu
        exact zm x u _ _ (keep _ _ e2) (x5 m x u hm hu)
      · rw [List.getElem?_append_right (by omega)] at hu
        have hm0 : m - acc.length = 0 := by
          refine Classical.byContradiction fun q => ?_
          rw [List.getElem?_eq_none (by show 1 ≤ m - acc.length; omega)] at hu
          cases hu
        rw [hm0] at hu
        have hmeq : m = i := by omega
        subst hmeq
        rw [hsx] at hm
        cases hm
        cases hu
        exact zm _ _ _ _ (keep _ _ (Ex.refl _)) (z Dl (by rw [x3]; exact fun y => by cases y))
    · obtain ⟨acc, x1, x3, x4, x5⟩ := h
      rw [List.length_map] at x4
      exact k Dl acc H' (fresh_back e1 hD) (e1.trans ((Ex.refl _).trans x1)) x3 x4 x5⟩
/-- sorted(d), d a dict by texts -/
theorem el_sortedD {kvs : List (Key × V)} {ks : List Str} (h : Ev te σ H (.ref a)) (ha : H a = some (.dK kvs)) (hk : kvs.map (·.1) = ks.map Sum.inr) (hn : ks.Nodup) (hz : ks.length < 64) :
    EvL (tCB (fun xs H Q => ∃ (a : Addr) (kvs : List (Key × V)) (ks : List Str), xs = [.ref a] ∧ Rd H a (.dK kvs) ∧ kvs.map (·.1) = ks.map Sum.inr ∧ ks.length < 64 ∧ ∀ ys p, ys.Perm ks → sortedS ys = true → H p = none → Q (.ref p) (upd H p (.lst (ys.map V.str)))) (tCons te tNil)) σ H ((nrm ks).map V.str) := fun H1 e Q q =>
  h H1 e _ fun H2 e2 => ⟨a, kvs, ks, rfl, .inl ((e.trans e2) a _ ha), hk, hz, fun ys p pm hs hp => by
    have hN : IsNrm ks ys := ⟨hs, pm.nodup_iff.mpr hn, fun k => pm.mem_iff⟩
    rw [nrm_eq hN] at q
    exact q p _ (fresh_back e2 hp) (e2.trans (Ex.new hp)) upd_same⟩
end
theorem pair_uniq {α : Type} : ∀ {ds : List (Str × α)} {x : Str} {c c' : α}, (ds.map (·.1)).Nodup → (x, c) ∈ ds → (x, c') ∈ ds → c' = c
  | [], _, _, _, _, h, _ => by cases h
  | p :: ds, x, c, c', hn, h, h' => by
    obtain ⟨h1, h2⟩ := List.nodup_cons.mp hn
    rcases List.mem_cons.mp h with e | k
    · subst e
      rcases List.mem_cons.mp h' with e | k'
      · cases e; rfl
      · exact absurd (List.mem_map.mpr ⟨_, k', rfl⟩) h1
    · rcases List.mem_cons.mp h' with e | k'
      · subst e
        exact absurd (List.mem_map.mpr ⟨(x, c), k, rfl⟩ : x ∈ ds.map (·.1)) h1
      · exact pair_uniq h2 k k'
theorem look_nodup {α : Type} {ds : List (Str × α)} {x : Str} {c : α} (hn : (ds.map (·.1)).Nodup) (h : (x, c) ∈ ds) : look ds x = some c := by
  obtain ⟨v, hv, hm⟩ := look_some (List.mem_map.mpr ⟨(x, c), h, rfl⟩)
  rw [hv]
  have := pair_uniq hn h hm
  rw [this]
/-- as sp_turned: the same pairs, in another order -/
noncomputable def sp_turned : Sp := fun vs H Q _ => ∃ (α : Type) (g : α → V) (d : Addr) (ds : List (Str × α)), vs = [.ref d] ∧ H d = some (.dK (keyed g ds)) ∧ (ds.map (·.1)).Nodup ∧ ds.length < 64 ∧
  ∀ d' ds' H2, H d' = none → Ex H H2 → H2 d' = some (.dK (keyed g ds')) → ds'.Perm ds → Q (.ref d') H2
section
variable {P : Program} {w : World} {K : PySem.W.Frag} {mg : Str → Option Value} {base : Heap} {C SZ SY : Addr}
end
end K25
end
section
set_option maxHeartbeats 4000000
namespace K25
open PySem L2 Evl G TM TD PyProof.Rows
section
variable {K : PySem.W.Frag} {σ : L2.St} {H : Hp} {p C : Addr} {tA : TA} {ta : TE} {Q : VK} {E : XK} {ns : List Int}
/-- Table(s) -/
theorem make_tab {s : Addr} (ha : Ev ta σ H (.ref s)) (hs : SeqT K H s (ns.map V.int)) (g : Good ns) (k : ∀ (x l dx : Addr) (H2 : Hp), H x = none → H l = none → Ex H H2 → H2 x = some (.ins C dx [("_days", .ref l)]) → H2 l = some (.lst (ns.map V.int)) → Q (.ref x) H2) :
    tMake C (sp_init K C) [] E (tCons ta tNil) σ H Q := ha H (Ex.refl H) _ fun H1 e1 => fun x dx hx hdx hne => by
  have hsx : s ≠ x := by rcases hs with h | h <;> exact ne_of_none (e1 s _ h) hx
  have hsd : s ≠ dx := by rcases hs with h | h <;> exact ne_of_none (e1 s _ h) hdx
  refine ⟨x, dx, s, ns, rfl, upd_same, (hs.mono e1).imp (fun h => by rw [upd_ne hsx, upd_ne hsd]; exact h) (fun h => by rw [upd_ne hsx, upd_ne hsd]; exact h), g, fun l H' hk h1 h2 hl => ⟨rfl, ?_⟩⟩
  have hlx : l ≠ x := (ne_of h1 h2 (fun z => by cases z)).symm
  refine k x l dx H' (fresh_back e1 hx) ?_ (fun b o hb => ?_) h1 h2
  · rw [upd_ne hlx] at hl
    by_cases q : l = dx
    · subst q; rw [upd_same] at hl; cases hl
    · rw [upd_ne q] at hl; exact fresh_back e1 hl
  · have hb1 := e1 b _ hb
    have hbx : b ≠ x := ne_of_none hb1 hx
    exact hk b o (by rw [upd_ne hbx, upd_ne (ne_of_none hb1 hdx)]; exact hb1) hbx
end
theorem wdOf_mem {ws : Ws} {x : Str} {c : Addr × List Int} (hn : (ws.map (·.1)).Nodup) (h : (x, c) ∈ ws) : wdOf ws x = c.2 := by
  unfold wdOf
  rw [look_nodup hn h] <;> rfl
/-- a dict of Tables, one for each list, all new -/
noncomputable def sp_tables (K : PySem.W.Frag) (C : Addr) : Sp := fun vs H Q _ => ∃ (r : Addr) (ws : Ws), vs = [.ref r] ∧ ListsAt K H r ws ∧ (∀ q ∈ ws, H q.2.1 = some (.lst (q.2.2.map V.int))) ∧ (ws.map (·.1)).Nodup ∧ ws.length < 64 ∧
  ∀ d ws' H2, H d = none → Ex H H2 → (∀ p, H p ≠ none → WorldAt K C (wo H2 p) d ws') → (ws'.map (·.1)).Nodup → (∀ x, x ∈ ws'.map (·.1) ↔ x ∈ ws.map (·.1)) → (∀ x ∈ ws.map (·.1), wdOf ws' x = wdOf ws x) → ws'.length ≤ ws.length → Q (.ref d) H2
section
variable {P : Program} {w : World} {K : PySem.W.Frag} {mg : Str → Option Value} {base : Heap} {C SZ SY : Addr}
theorem ok_tables {f f1 : Addr} {fd fd1 : FuncData} (F : Fun K "_law_tables" "_law_tables" s__law_tables f fd) (T : Txt P w K mg C SZ SY) (mkI : Mk K C f1) (m_init : Ini P w K mg base C f1 fd1) : FnOk P w K mg base CX0 5 f fd ["_law_world_here"] (sp_tables K C) := by
  refine F.ok sc__law_tables (fun vs H Q E h => ?_) (fun cdv A outer s H vs Q E hr h => ?_)
  · obtain ⟨r, ws, rfl, _⟩ := h
    rfl
  · obtain ⟨r, ws, rfl, hw, hraw, hn, hz, k⟩ := h
    refine ⟨_, (pss_one (ps_ret (pe_callTy (call_dictP rfl) (by rfl) T.b_dict (by decide +kernel) (pa_cons (pe_lc (own := [("_law_rule", 1)]) (g := (gName 1)) (by rfl) sc__law_tables.nd (piL (K := K) rfl (pe_callB (call_sortedD rfl) (by rfl) T.b_sorted (by decide +kernel) (pa_cons (pv 0) pa_nil))) (blkOk_by (own := [("_law_rule", 1)]) (N := ["_law_world_here", "_law_rule"]) (sc := defScope s__law_tables) (by decide +kernel)) (fun _ _ _ _ _ => (pg_name (i := 1) sc__law_tables.nd rfl (Or.inl rfl))) (fun _ _ _ _ _ => pts_nil) (fun _ _ _ _ _ => (pe_tup (pa_cons (pv 1) (pa_cons (pe_make mkI m_init.ok (hr.mono (by decide)) (by rfl) T.mg_Table m_init.bd .nil pass0 (pa_cons (pe_dgetR hr.units (pv 0) (pv 1) (fun _ _ => rfl)) pa_nil)) pa_nil))))) pa_nil)))), ?_⟩
    have hlen : (nrm (ws.map (·.1))).length ≤ 1000 := by have := nrm_len (ws.map (·.1)); rw [List.length_map] at this; omega
    refine ret_k (cb_k (ac_k (lc_new (K := K) (L := nrm (ws.map (·.1))) (fun x v B => ∃ T c, v = .ref T ∧ (∀ p, H p ≠ none → wo B p T = some (.tup [.str x, wV c]) ∧ Tab K C (wo B p) c.1 c.2) ∧ Good c.2 ∧ c.2 = wdOf ws x) (fun x v B B' e ⟨T, c, h1, h2, h3⟩ => ⟨T, c, h1, fun p hp => ⟨wo_mono e _ _ (h2 p hp).1, (h2 p hp).2.mono (wo_mono e)⟩, h3⟩)
      (el_sortedD (ev_var rfl) hw.1 (by rw [keyed_keys, List.map_map]; rfl) hn (by rw [List.length_map]; exact hz)) hlen (fun _ => rfl) (fun x hx H1 e1 Q' q' => ?_) (fun D us H2 hD e2 h2 hl hZ => ?_))))
    · obtain ⟨c, hc, hm⟩ := look_some (mem_nrm.mp hx)
      obtain ⟨_, hg, _, _⟩ := hw.2.1 _ hm
      have hs := hraw _ hm
      refine tup_k (ac_v (ev_var (i := 1) rfl) fun H2 e2 => ac_k (make_tab (ns := c.2) (ev_dget (k := kS x) (ev_var rfl) (ev_var rfl) ((e1.trans e2) r _ hw.1) (by rw [valV_keyed, hc] <;> rfl)) (.inl ((e1.trans e2) _ _ hs)) hg fun y l dx H3 hy hl e3 h3 h3l => ac_nil ⟨sz_of (by show 2 ≤ 100000; decide), fun T hT => ?_⟩))
      have e13 := e2.trans e3
      refine q' _ _ (e13.trans (Ex.new hT)) fun q hq => ⟨T, (y, c.2), rfl, fun p hp => ?_, hg, (wdOf_mem hn hm).symm⟩
      have new : ∀ (b : Addr) (o : HO), H2 b = none → upd H3 T (.tup [.str x, .ref y]) b = some o → wo (wo (upd H3 T (.tup [.str x, .ref y])) q) p b = some o := fun b o hb ho => by
        have h1b := fresh_back e2 hb
        have hbq : b ≠ q := fun z => by subst z; exact hq h1b
        have hbp : b ≠ p := fun z => by subst z; exact hp (fresh_back e1 h1b)
        rw [wo_ne hbp, wo_ne hbq]
        exact ho
      have hyT : y ≠ T := ne_of_none h3 hT
      have hlT : l ≠ T := ne_of_none h3l hT
      exact ⟨new T _ (fresh_back e3 hT) upd_same, dx, l, new y _ hy (by rw [upd_ne hyT]; exact h3), sq_of (new l _ hl (by rw [upd_ne hlT]; exact h3l))⟩
    · have hr0 : H r ≠ none := by rw [hw.1]; exact fun z => by cases z
      obtain ⟨ps, ws', rfl, hkeys, hpr, hG⟩ := pairs_ex (K := K) (H := H2) (g := wV) (G := fun x c => (∀ p, H p ≠ none → Tab K C (wo H2 p) c.1 c.2) ∧ Good c.2 ∧ c.2 = wdOf ws x) _ us hl fun i x v a b => by
        obtain ⟨T, c, h1, h3, h4⟩ := hZ i x v a b
        exact ⟨T, c, h1, wo_ex T _ (wo_ex T _ (h3 r hr0).1), fun p hp => (h3 p hp).2.mono (wo_mono wo_ex), h4⟩
      have hn' : (ws'.map (·.1)).Nodup := by rw [hkeys]; exact nrm_nodup _
      refine ac_nil ⟨D, ps, keyed wV ws', rfl, sq_of h2, hpr, fun d hd => ?_⟩
      rw [merge_nil (keyed_nodup _ hn')]
      have hl' : ws'.length ≤ ws.length := by have h1 := congrArg List.length hkeys; have h2 := nrm_len (ws.map (·.1)); rw [List.length_map] at h1 h2; omega
      have hmem : ∀ x, x ∈ ws'.map (·.1) ↔ x ∈ ws.map (·.1) := fun x => by rw [hkeys]; exact mem_nrm
      refine k d ws' _ (fresh_back e2 hd) (e2.trans (Ex.new hd)) (fun p hp => ⟨?_, fun q hq => ⟨?_, (hG q hq).2.1, ((hG q hq).1 p hp).mono (wo_mono (Ex.new hd))⟩, by have := hw.2.2; omega⟩) hn' hmem (fun x hx => ?_) hl'
      · rw [wo_ne (fun z => by subst z; exact hp (fresh_back e2 hd))]
        exact upd_same
      · obtain ⟨q', h1, h2⟩ := List.mem_map.mp ((hmem q.1).mp (List.mem_map.mpr ⟨q, hq, rfl⟩))
        rw [← h2]
        exact (hw.2.1 q' h1).1
      · obtain ⟨q, h1, h2⟩ := List.mem_map.mp ((hmem x).mpr hx)
        subst h2
        rw [wdOf_mem hn' (x := q.1) (c := q.2) h1]
        exact (hG q h1).2.2
end
end K25
end
section
set_option maxHeartbeats 4000000
namespace K25
open PySem L2 Evl G TM TD
/-! ### pushed in -/
noncomputable def flipW (w : Str) : Str := if w = "and" then "or" else "and"
noncomputable def push : Td → Bool → Td
  | .nt u, b => push u (!b)
  | .bi w t u, b => if w = "le" then (if b = true then .bi w t u else .nt (.bi w t u)) else .bi (if b = true then w else flipW w) (push t b) (push u b)
  | t, _ => t
/-- not stands ahead of le alone -/
noncomputable def Pu : Td → Prop
  | .bi w t u => (w = "le" ∧ IsF t ∧ IsF u) ∨ ((w = "and" ∨ w = "or") ∧ Pu t ∧ Pu u)
  | .nt (.bi w t u) => w = "le" ∧ IsF t ∧ IsF u
  | _ => False
theorem push_pu : ∀ {t : Td} {b : Bool}, IsS t → Pu (push t b)
  | .lf _ _, _, h => h.elim
  | .ov _ _ _, _, h => h.elim
  | .nt u, b, h => push_pu (t := u) (b := !b) h
  | .bi w t u, b, h => by
    rcases h with ⟨rfl, h1, h2⟩ | ⟨hw, h1, h2⟩
    · unfold push
      rw [if_pos rfl]
      cases b with
      | true => rw [if_pos rfl]; exact .inl ⟨rfl, h1, h2⟩
      | false => rw [if_neg (by decide)]; exact ⟨rfl, h1, h2⟩
    · have hne : w ≠ "le" := by rcases hw with e | e <;> (rw [e]; decide)
      unfold push
      rw [if_neg hne]
      refine .inr ⟨?_, push_pu h1, push_pu h2⟩
      cases b with
      | true => rw [if_pos rfl]; exact hw
      | false =>
        rw [if_neg (by decide)]
        unfold flipW
        split
        · exact .inr rfl
        · exact .inl rfl
theorem Pu.s : ∀ {t : Td}, Pu t → IsS t
  | .lf _ _, h => h.elim
  | .ov _ _ _, h => h.elim
  | .nt (.lf _ _), h => h.elim
  | .nt (.ov _ _ _), h => h.elim
  | .nt (.nt _), h => h.elim
  | .nt (.bi w t u), h => .inl h
  | .bi w t u, h => h.imp id fun ⟨a, b, c⟩ => ⟨a, b.s, c.s⟩
section
variable {dn : Str → Int} {wd : Str → List Int}
theorem push_so : ∀ {t : Td} {b : Bool}, IsS t → soOf dn wd (push t b) = (if b = true then soOf dn wd t else !soOf dn wd t)
  | .lf _ _, _, h => h.elim
  | .ov _ _ _, _, h => h.elim
  | .nt u, b, h => by
    have ih := push_so (t := u) (b := !b) h
    show soOf dn wd (push u (!b)) = (if b = true then !soOf dn wd u else !(!soOf dn wd u))
    rw [ih]
    cases b <;> simp
  | .bi w t u, b, h => by
    rcases h with ⟨rfl, h1, h2⟩ | ⟨hw, h1, h2⟩
    · unfold push
      rw [if_pos rfl]
      cases b with
      | true => rw [if_pos rfl, if_pos rfl]
      | false => rw [if_neg (by decide), if_neg (by decide)]; rfl
    · have hne : w ≠ "le" := by rcases hw with e | e <;> (rw [e]; decide)
      have i1 := push_so (t := t) (b := b) h1
      have i2 := push_so (t := u) (b := b) h2
      unfold push
      rw [if_neg hne]
      cases b with
      | true =>
        rw [if_pos rfl, if_pos rfl]
        rw [if_pos rfl] at i1 i2
        unfold soOf
        rw [if_neg hne, if_neg hne, i1, i2]
      | false =>
        rw [if_neg (by decide), if_neg (by decide)]
        rw [if_neg (by decide)] at i1 i2
        have hf : flipW w ≠ "le" := by unfold flipW; split <;> decide
        unfold soOf
        rw [if_neg hf, if_neg hne, i1, i2]
        rcases hw with e | e
        · subst e
          rw [if_neg (show ¬ flipW "and" = "and" by decide), if_pos rfl]
          cases soOf dn wd t <;> cases soOf dn wd u <;> rfl
        · subst e
          rw [if_pos (show flipW "or" = "and" by decide), if_neg (by decide)]
          cases soOf dn wd t <;> cases soOf dn wd u <;> rfl
end
/-! ### ways -/
noncomputable def manyW : Td → Nat
  | .bi w t u => if w = "le" then 1 else if w = "or" then manyW t + manyW u else manyW t * manyW u
  | _ => 1
noncomputable def waysT : Td → List (List Td)
  | .bi w t u => if w = "le" then [[.bi w t u]] else if w = "or" then waysT t ++ waysT u else (waysT t).flatMap fun x => (waysT u).map fun y => x ++ y
  | t => [[t]]
theorem len_flat {α β : Type} (f : α → List β) {n : Nat} (h : ∀ x, (f x).length = n) : ∀ l : List α, (l.flatMap f).length = l.length * n
  | [] => by simp
  | x :: l => by rw [List.flatMap_cons, List.length_append, h, len_flat f h l, List.length_cons, Nat.succ_mul]; omega
theorem ways_len : ∀ t : Td, (waysT t).length = manyW t
  | .lf _ _ => rfl
  | .ov _ _ _ => rfl
  | .nt _ => rfl
  | .bi w t u => by
    unfold waysT manyW
    split
    · rfl
    · split
      · rw [List.length_append, ways_len t, ways_len u]
      · rw [len_flat _ (n := manyW u) fun x => by rw [List.length_map, ways_len u], ways_len t]
section
variable {dn : Str → Int} {wd : Str → List Int}
theorem ways_so : ∀ {t : Td}, Pu t → ((waysT t).any fun w => w.all fun l => soOf dn wd l) = soOf dn wd t
  | .lf _ _, h => h.elim
  | .ov _ _ _, h => h.elim
  | .nt t, h => by simp [waysT]
  | .bi w t u, h => by
    rcases h with ⟨rfl, h1, h2⟩ | ⟨hw, h1, h2⟩
    · unfold waysT
      rw [if_pos rfl]
      simp
    · have hne : w ≠ "le" := by rcases hw with e | e <;> (rw [e]; decide)
      have i1 := ways_so h1
      have i2 := ways_so h2
      unfold waysT
      rw [if_neg hne]
      rcases hw with e | e
      · subst e
        rw [if_neg (by decide)]
        have e1 : soOf dn wd (.bi "and" t u) = (soOf dn wd t && soOf dn wd u) := by
          show (if ("and" : Str) = "le" then _ else if ("and" : Str) = "and" then _ else _) = _
          rw [if_neg (by decide), if_pos rfl]
        rw [e1, ← i1, ← i2, Bool.eq_iff_iff]
        simp only [List.any_eq_true, List.mem_flatMap, List.mem_map, Bool.and_eq_true, List.all_eq_true]
        constructor
        · rintro ⟨_, ⟨x, hx, y, hy, rfl⟩, hall⟩
          exact ⟨⟨x, hx, fun l hl => hall l (List.mem_append.mpr (.inl hl))⟩, ⟨y, hy, fun l hl => hall l (List.mem_append.mpr (.inr hl))⟩⟩
        · rintro ⟨⟨x, hx, h3⟩, ⟨y, hy, h4⟩⟩
          exact ⟨x ++ y, ⟨x, hx, y, hy, rfl⟩, fun l hl => (List.mem_append.mp hl).elim (h3 l) (h4 l)⟩
      · subst e
        rw [if_pos rfl, List.any_append, i1, i2]
        show _ = (if ("or" : Str) = "le" then _ else if ("or" : Str) = "and" then _ else _)
        rw [if_neg (by decide), if_neg (by decide)]
end
/-! ### without doubles -/
open Classical in
noncomputable def stepD (acc : List Td) (l : Td) : List Td := if l ∈ acc then acc else acc ++ [l]
noncomputable def dedup (l : List Td) : List Td := l.foldl stepD []
theorem mem_step {acc : List Td} {l x : Td} : x ∈ stepD acc l ↔ x ∈ acc ∨ x = l := by
  unfold stepD
  split
  · rename_i h
    exact ⟨.inl, fun q => q.elim id fun e => by rw [e]; exact h⟩
  · rw [List.mem_append, List.mem_singleton]
theorem mem_fold : ∀ {ys acc : List Td} {x : Td}, x ∈ ys.foldl stepD acc ↔ x ∈ acc ∨ x ∈ ys
  | [], acc, x => by simp
  | y :: ys, acc, x => by
    rw [List.foldl_cons, mem_fold, mem_step, List.mem_cons]
    constructor
    · rintro ((h | h) | h)
      · exact .inl h
      · exact .inr (.inl h)
      · exact .inr (.inr h)
    · rintro (h | h | h)
      · exact .inl (.inl h)
      · exact .inl (.inr h)
      · exact .inr h
theorem mem_dedup {l : List Td} {x : Td} : x ∈ dedup l ↔ x ∈ l := by unfold dedup; rw [mem_fold]; simp
theorem step_mem {acc : List Td} {l : Td} (h : l ∈ acc) : stepD acc l = acc := by unfold stepD; rw [if_pos h]
theorem step_new {acc : List Td} {l : Td} (h : l ∉ acc) : stepD acc l = acc ++ [l] := by unfold stepD; rw [if_neg h]
theorem fold_dedup (acc : List Td) (ys : List Td) : ys.foldl stepD acc = (dedup ys).foldl stepD acc := by
  have key : ∀ n (ys : List Td), ys.length = n → ys.foldl stepD acc = (dedup ys).foldl stepD acc := by
    intro n
    induction n with
    | zero => intro ys h; cases List.length_eq_zero_iff.mp h; rfl
    | succ n ih =>
      intro ys h
      have hne : ys ≠ [] := fun z => by rw [z] at h; cases h
      obtain ⟨zs, l, rfl⟩ : ∃ zs l, ys = zs ++ [l] := ⟨ys.dropLast, ys.getLast hne, (List.dropLast_concat_getLast hne).symm⟩
      have hz : zs.length = n := by rw [List.length_append, List.length_singleton] at h; omega
      have e1 : dedup (zs ++ [l]) = stepD (dedup zs) l := by unfold dedup; rw [List.foldl_append]; rfl
      rw [List.foldl_append, e1]
      show stepD (zs.foldl stepD acc) l = _
      by_cases hl : l ∈ zs
      · rw [step_mem (mem_dedup.mpr hl), step_mem (mem_fold.mpr (.inr hl))]
        exact ih zs hz
      · rw [step_new (fun z => hl (mem_dedup.mp z)), List.foldl_append, ih zs hz]
        rfl
  exact key _ ys rfl
theorem dedup_app (x y : List Td) : dedup (x ++ y) = (dedup y).foldl stepD (dedup x) := by
  rw [← fold_dedup]
  unfold dedup
  rw [List.foldl_append]
noncomputable def lawW : Td → List (List Td)
  | .bi w t u => if w = "le" then [[.bi w t u]] else if w = "or" then lawW t ++ lawW u else (lawW t).flatMap fun x => (lawW u).map fun y => y.foldl stepD x
  | t => [[t]]
theorem dedup_one (t : Td) : dedup [t] = [t] := by
  unfold dedup
  rw [List.foldl_cons, step_new (by simp)]
  rfl
theorem law_ways : ∀ t : Td, lawW t = (waysT t).map dedup
  | .lf _ _ => by simp [lawW, waysT, dedup_one]
  | .ov _ _ _ => by simp [lawW, waysT, dedup_one]
  | .nt _ => by simp [lawW, waysT, dedup_one]
  | .bi w t u => by
    unfold lawW waysT
    split
    · simp [dedup_one]
    · split
      · rw [List.map_append, law_ways t, law_ways u]
      · rw [law_ways t, law_ways u, List.map_flatMap, List.flatMap_map]
        congr 1
        funext x
        rw [List.map_map, List.map_map]
        apply List.map_congr_left
        intro y _
        exact (dedup_app x y).symm
end K25
end
section
set_option maxHeartbeats 4000000
namespace K25
open PySem L2 Evl G TM TD
/-! ### what is told, as data -/
theorem depth_all {ds : List PyData} {k : Nat} (h : ∀ d, d ∈ ds → d.depth ≤ k) : PyData.depthAll ds ≤ k := by
  induction ds with
  | nil => simp [PyData.depthAll]
  | cons d ds ih =>
    have h1 := h d (List.mem_cons_self ..)
    have h2 := ih fun x hx => h x (List.mem_cons_of_mem _ hx)
    simp only [PyData.depthAll]
    omega
theorem shaped_of {d : PyData} (h : d.canLay0 = true) (hd : d.depth ≤ 64) : SeqAt.shaped d = true := by
  unfold SeqAt.shaped
  rw [h, decide_eq_true hd] <;> rfl
noncomputable def dV : V → PyData
  | .str s => .str s
  | .int i => .int i
  | _ => .none
noncomputable def dTd : Td → PyData
  | .lf w v => .tuple [.str w, dV v]
  | .ov w v t => .tuple [.str w, dV v, dTd t]
  | .nt t => .tuple [.str "not", dTd t]
  | .bi w t u => .tuple [.str w, dTd t, dTd u]
theorem dp_td {K : PySem.W.Frag} {H : Hp} : ∀ {t : Td} {x : V}, IsF t → At H x t → Dp K H x (dTd t)
  | .lf w v, _, h, ⟨a, e, ha⟩ => by
    subst e
    rcases h with ⟨rfl, n, _, rfl⟩ | ⟨rfl, i, rfl⟩
    · exact .tup (st_of ha) (.cons (.str _) (.cons (.str _) .nil))
    · exact .tup (st_of ha) (.cons (.str _) (.cons (.int _) .nil))
  | .ov w v t, _, h, ⟨a, y, e, ha, hy⟩ => by
    subst e
    rcases h.1 with ⟨_, n, _, rfl⟩ | ⟨rfl, i, rfl⟩
    · exact .tup (st_of ha) (.cons (.str _) (.cons (.str _) (.cons (dp_td h.2 hy) .nil)))
    · exact .tup (st_of ha) (.cons (.str _) (.cons (.int _) (.cons (dp_td h.2 hy) .nil)))
  | .nt t, _, h, _ => h.elim
  | .bi w t u, _, h, ⟨a, y, z, e, ha, hy, hz⟩ => by
    subst e
    exact .tup (st_of ha) (.cons (.str _) (.cons (dp_td h.2.1 hy) (.cons (dp_td h.2.2 hz) .nil)))
theorem dp_ts {K : PySem.W.Frag} {H : Hp} : ∀ {t : Td} {x : V}, IsS t → At H x t → Dp K H x (dTd t)
  | .lf w v, _, h, _ => h.elim
  | .ov w v t, _, h, _ => h.elim
  | .nt t, _, h, ⟨a, y, e, ha, hy⟩ => by
    subst e
    exact .tup (st_of ha) (.cons (.str _) (.cons (dp_ts (t := t) h hy) .nil))
  | .bi w t u, _, h, ⟨a, y, z, e, ha, hy, hz⟩ => by
    subst e
    rcases h with ⟨_, h1, h2⟩ | ⟨_, h1, h2⟩
    · exact .tup (st_of ha) (.cons (.str _) (.cons (dp_td h1 hy) (.cons (dp_td h2 hz) .nil)))
    · exact .tup (st_of ha) (.cons (.str _) (.cons (dp_ts h1 hy) (.cons (dp_ts h2 hz) .nil)))
theorem dp_told {K : PySem.W.Frag} {H : Hp} {t : Td} {x : V} (h : Told t) (k : At H x t) : Dp K H x (dTd t) := h.elim (fun h => dp_td h k) (fun h => dp_ts h k)
theorem depth_dV (v : V) : (dV v).depth = 0 := by cases v <;> simp [dV, PyData.depth]
theorem depth_td : ∀ t : Td, (dTd t).depth ≤ depth t + 1
  | .lf w v => by simp only [dTd, PyData.depth, PyData.depthAll, depth_dV]; show _ ≤ 0 + 1; omega
  | .ov w v t => by
    have := depth_td t
    simp only [dTd, PyData.depth, PyData.depthAll, depth_dV]
    show _ ≤ depth t + 1 + 1
    omega
  | .nt t => by
    have := depth_td t
    simp only [dTd, PyData.depth, PyData.depthAll]
    show _ ≤ depth t + 1 + 1
    omega
  | .bi w t u => by
    have := depth_td t
    have := depth_td u
    simp only [dTd, PyData.depth, PyData.depthAll]
    show _ ≤ max (depth t) (depth u) + 1 + 1
    omega
theorem ok_words : ∀ x ∈ (["day", "num", "add", "late", "soon", "le", "and", "or", "not"] : List Str), PyData.strOk x = true := by decide +kernel
theorem ok_turn : ∀ x ∈ turnL, PyData.strOk x = true := by decide +kernel
theorem ok_name : ∀ x ∈ nameL, PyData.strOk x = true := by decide +kernel
theorem ok_rule : ∀ x ∈ ruleL, PyData.strOk x = true := by decide +kernel
theorem can_tf : ∀ {t : Td}, IsF t → (dTd t).canLay0 = true
  | .lf w v, h => by
    rcases h with ⟨rfl, n, hn, rfl⟩ | ⟨rfl, i, rfl⟩
    · simp [dTd, dV, PyData.canLay0, PyData.canLayAll0, ok_name n hn, ok_words "day" (by simp)]
    · simp [dTd, dV, PyData.canLay0, PyData.canLayAll0, ok_words "num" (by simp)]
  | .ov w v t, h => by
    have ih := can_tf h.2
    rcases h.1 with ⟨hw, n, hn, rfl⟩ | ⟨rfl, i, rfl⟩
    · simp [dTd, dV, PyData.canLay0, PyData.canLayAll0, ok_rule n hn, ok_turn w hw, ih]
    · simp [dTd, dV, PyData.canLay0, PyData.canLayAll0, ok_words "add" (by simp), ih]
  | .nt t, h => h.elim
  | .bi w t u, h => by
    have i1 := can_tf h.2.1
    have i2 := can_tf h.2.2
    have hw : PyData.strOk w = true := by
      rcases h.1 with e | e
      · rw [e]; exact ok_words "late" (by simp)
      · rw [e]; exact ok_words "soon" (by simp)
    simp [dTd, PyData.canLay0, PyData.canLayAll0, hw, i1, i2]
theorem can_ts : ∀ {t : Td}, IsS t → (dTd t).canLay0 = true
  | .lf w v, h => h.elim
  | .ov w v t, h => h.elim
  | .nt t, h => by
    have ih := can_ts (t := t) h
    simp [dTd, PyData.canLay0, PyData.canLayAll0, ok_words "not" (by simp), ih]
  | .bi w t u, h => by
    rcases h with ⟨rfl, h1, h2⟩ | ⟨hw, h1, h2⟩
    · have i1 := can_tf h1
      have i2 := can_tf h2
      simp [dTd, PyData.canLay0, PyData.canLayAll0, ok_words "le" (by simp), i1, i2]
    · have i1 := can_ts h1
      have i2 := can_ts h2
      have hw' : PyData.strOk w = true := by
        rcases hw with e | e
        · rw [e]; exact ok_words "and" (by simp)
        · rw [e]; exact ok_words "or" (by simp)
      simp [dTd, PyData.canLay0, PyData.canLayAll0, hw', i1, i2]
/-! ### alike as data: the same -/
mutual
noncomputable def flatD : PyData → Bool
  | .int _ => true
  | .str _ => true
  | .tuple xs => flatAll xs
  | _ => false
noncomputable def flatAll : List PyData → Bool
  | [] => true
  | x :: xs => flatD x && flatAll xs
end
mutual
theorem eqv_flat : ∀ {d e : PyData}, flatD d = true → flatD e = true → (PyData.eqv d e = true ↔ d = e)
  | .int i, .int j, _, _ => by simp [PyData.eqv]
  | .int i, .str y, _, _ => by simp [PyData.eqv]
  | .int i, .tuple ys, _, _ => by simp [PyData.eqv]
  | .str x, .int j, _, _ => by simp [PyData.eqv]
  | .str x, .str y, _, _ => by simp [PyData.eqv]
  | .str x, .tuple ys, _, _ => by simp [PyData.eqv]
  | .tuple xs, .int j, _, _ => by simp [PyData.eqv]
  | .tuple xs, .str y, _, _ => by simp [PyData.eqv]
  | .tuple xs, .tuple ys, h, k => by
    rw [PyData.eqv, eqv_flatAll (by simpa [flatD] using h) (by simpa [flatD] using k)]
    simp
  | .none, _, h, _ => by simp [flatD] at h
  | .bool _, _, h, _ => by simp [flatD] at h
  | .list _, _, h, _ => by simp [flatD] at h
  | .dict _, _, h, _ => by simp [flatD] at h
  | _, .none, _, k => by simp [flatD] at k
  | _, .bool _, _, k => by simp [flatD] at k
  | _, .list _, _, k => by simp [flatD] at k
  | _, .dict _, _, k => by simp [flatD] at k
theorem eqv_flatAll : ∀ {xs ys : List PyData}, flatAll xs = true → flatAll ys = true → (PyData.eqvAll xs ys = true ↔ xs = ys)
  | [], [], _, _ => by simp [PyData.eqvAll]
  | [], _ :: _, _, _ => by simp [PyData.eqvAll]
  | _ :: _, [], _, _ => by simp [PyData.eqvAll]
  | x :: xs, y :: ys, h, k => by
    simp only [flatAll, Bool.and_eq_true] at h k
    rw [PyData.eqvAll, Bool.and_eq_true, eqv_flat h.1 k.1, eqv_flatAll h.2 k.2]
    simp
end
theorem flat_dV {v : V} (h : (∃ x, v = V.str x) ∨ ∃ i, v = V.int i) : flatD (dV v) = true := by rcases h with ⟨x, rfl⟩ | ⟨i, rfl⟩ <;> simp [dV, flatD]
theorem flat_td : ∀ {t : Td}, Told t → flatD (dTd t) = true
  | .lf w v, h => by
    have h1 := flat_dV (h.flat v (by simp [own]))
    simp [dTd, flatD, flatAll, h1]
  | .ov w v t, h => by
    have h1 := flat_dV (h.flat v (by simp [own]))
    have ih := flat_td (h.kid (u := t) (by simp [kids]))
    simp [dTd, flatD, flatAll, h1, ih]
  | .nt t, h => by
    have ih := flat_td (h.kid (u := t) (by simp [kids]))
    simp [dTd, flatD, flatAll, ih]
  | .bi w t u, h => by
    have i1 := flat_td (h.kid (u := t) (by simp [kids]))
    have i2 := flat_td (h.kid (u := u) (by simp [kids]))
    simp [dTd, flatD, flatAll, i1, i2]
theorem dV_inj {v v' : V} (h : (∃ x, v = V.str x) ∨ ∃ i, v = V.int i) (h' : (∃ x, v' = V.str x) ∨ ∃ i, v' = V.int i) (e : dV v = dV v') : v = v' := by
  rcases h with ⟨x, rfl⟩ | ⟨i, rfl⟩ <;> rcases h' with ⟨y, rfl⟩ | ⟨j, rfl⟩ <;> simp [dV] at e ⊢ <;> exact e
theorem dV_td {v : V} (h : (∃ x, v = V.str x) ∨ ∃ i, v = V.int i) (t : Td) : dV v ≠ dTd t := by
  rcases h with ⟨x, rfl⟩ | ⟨i, rfl⟩ <;> cases t <;> simp [dV, dTd]
theorem dTd_inj : ∀ {t u : Td}, Told t → Told u → dTd t = dTd u → t = u
  | .lf w v, .lf w' v', h, k, e => by
    simp only [dTd, PyData.tuple.injEq, List.cons.injEq, PyData.str.injEq, and_true] at e
    rw [e.1, dV_inj (h.flat v (by simp [own])) (k.flat v' (by simp [own])) e.2]
  | .lf w v, .ov w' v' t', h, k, e => by simp [dTd] at e
  | .lf w v, .nt t', h, k, e => by
    simp only [dTd, PyData.tuple.injEq, List.cons.injEq, PyData.str.injEq, and_true] at e
    exact absurd e.2 (dV_td (h.flat v (by simp [own])) t')
  | .lf w v, .bi w' t' u', h, k, e => by simp [dTd] at e
  | .ov w v t, .lf w' v', h, k, e => by simp [dTd] at e
  | .ov w v t, .ov w' v' t', h, k, e => by
    simp only [dTd, PyData.tuple.injEq, List.cons.injEq, PyData.str.injEq, and_true] at e
    rw [e.1, dV_inj (h.flat v (by simp [own])) (k.flat v' (by simp [own])) e.2.1, dTd_inj (h.kid (u := t) (by simp [kids])) (k.kid (u := t') (by simp [kids])) e.2.2]
  | .ov w v t, .nt t', h, k, e => by simp [dTd] at e
  | .ov w v t, .bi w' t' u', h, k, e => by
    simp only [dTd, PyData.tuple.injEq, List.cons.injEq, PyData.str.injEq, and_true] at e
    exact absurd e.2.1 (dV_td (h.flat v (by simp [own])) t')
  | .nt t, .lf w' v', h, k, e => by
    simp only [dTd, PyData.tuple.injEq, List.cons.injEq, PyData.str.injEq, and_true] at e
    exact absurd e.2.symm (dV_td (k.flat v' (by simp [own])) t)
  | .nt t, .ov w' v' t', h, k, e => by simp [dTd] at e
  | .nt t, .nt t', h, k, e => by
    simp only [dTd, PyData.tuple.injEq, List.cons.injEq, true_and, and_true] at e
    rw [dTd_inj (h.kid (u := t) (by simp [kids])) (k.kid (u := t') (by simp [kids])) e]
  | .nt t, .bi w' t' u', h, k, e => by simp [dTd] at e
  | .bi w t u, .lf w' v', h, k, e => by simp [dTd] at e
  | .bi w t u, .ov w' v' t', h, k, e => by
    simp only [dTd, PyData.tuple.injEq, List.cons.injEq, PyData.str.injEq, and_true] at e
    exact absurd e.2.1.symm (dV_td (k.flat v' (by simp [own])) t)
  | .bi w t u, .nt t', h, k, e => by simp [dTd] at e
  | .bi w t u, .bi w' t' u', h, k, e => by
    simp only [dTd, PyData.tuple.injEq, List.cons.injEq, PyData.str.injEq, and_true] at e
    rw [e.1, dTd_inj (h.kid (u := t) (by simp [kids])) (k.kid (u := t') (by simp [kids])) e.2.1, dTd_inj (h.kid (u := u) (by simp [kids])) (k.kid (u := u') (by simp [kids])) e.2.2]
open Classical in
theorem eqv_td {t u : Td} (h : Told t) (k : Told u) : PyData.eqv (dTd t) (dTd u) = decide (t = u) := by
  by_cases e : t = u
  · rw [decide_eq_true e, (eqv_flat (flat_td h) (flat_td k)).mpr (by rw [e])]
  · rw [decide_eq_false e]
    cases q : PyData.eqv (dTd t) (dTd u) with
    | false => rfl
    | true => exact absurd (dTd_inj h k ((eqv_flat (flat_td h) (flat_td k)).mp q)) e
end K25
end
section
set_option maxHeartbeats 4000000
namespace K25
open PySem L2 Evl G TM TD
section
variable {P : Program} {w : World} {K : PySem.W.Frag} {mg : Str → Option Value} {base : Heap} {C SZ SY : Addr}
/-! ### how many ways -/
theorem many_pos : ∀ {t : Td}, 1 ≤ manyW t
  | .lf _ _ => by simp [manyW]
  | .ov _ _ _ => by simp [manyW]
  | .nt _ => by simp [manyW]
  | .bi w t u => by
    have h1 := many_pos (t := t)
    have h2 := many_pos (t := u)
    unfold manyW
    split
    · exact Nat.le_refl _
    · split
      · omega
      · exact Nat.mul_le_mul h1 h2
theorem many_bi {w : Str} {t u : Td} (hw : w = "and" ∨ w = "or") : manyW (.bi w t u) = if w = "or" then manyW t + manyW u else manyW t * manyW u := by
  have hne : w ≠ "le" := by rcases hw with e | e <;> (rw [e]; decide)
  show (if w = "le" then 1 else if w = "or" then manyW t + manyW u else manyW t * manyW u) = _
  rw [if_neg hne]
theorem many_le {w : Str} {t u : Td} (hw : w = "and" ∨ w = "or") : manyW t ≤ manyW (.bi w t u) ∧ manyW u ≤ manyW (.bi w t u) := by
  have h1 := many_pos (t := t)
  have h2 := many_pos (t := u)
  rw [many_bi hw]
  split
  · exact ⟨Nat.le_add_right _ _, Nat.le_add_left _ _⟩
  · exact ⟨Nat.le_mul_of_pos_right _ h2, Nat.le_mul_of_pos_left _ h1⟩
noncomputable def sp_mw (n : Nat) : Sp := fun vs H Q _ => ∃ x t, vs = [x] ∧ At H x t ∧ Pu t ∧ depth t < n ∧ manyW t < 2 ^ 64 ∧ RetV (.int (manyW t : Int)) H Q
theorem spv_mw {n : Nat} {H : Hp} {x : V} {t : Td} (h : At H x t) (hs : Pu t) (hd : depth t < n) (hb : manyW t < 2 ^ 64) : SpV (sp_mw n) [x] H (.int (manyW t : Int)) := fun H1 e Q q E => ⟨x, t, rfl, h.mono (Tu.ex e), hs, hd, hb, q⟩
theorem ok__many_ways {f : Addr} {fd : FuncData} (F : Fun K "_many_ways" "_many_ways" s__many_ways f fd) (T : Txt P w K mg C SZ SY) (me : Me K mg "_many_ways" f fd ["saying"]) :
    ∀ n, FnOk P w K mg base CX0 (n + 2) f fd ["saying"] (sp_mw n) := by
  intro n
  induction n with
  | zero => exact ⟨fun vs H Q E h => by obtain ⟨x, t, _, _, _, hd, _, _⟩ := h; exact absurd hd (Nat.not_lt_zero _), fun A outer s H args us vs Q E _ _ _ _ h => by obtain ⟨x, t, _, _, _, hd, _, _⟩ := h; exact absurd hd (Nat.not_lt_zero _)⟩
  | succ n ih =>
  have c__many_ways : Cal P w K mg base "_many_ways" f fd ["saying"] (n + 2) (sp_mw n) := ⟨ih, me.mgx, me.kp, me.bd⟩
  refine F.ok (k := n + 2) sc__many_ways (fun vs H Q E h => ?_) (fun cdv A outer s H vs Q E hr h => ?_)
  · obtain ⟨x, t, rfl, _⟩ := h
    rfl
  · obtain ⟨x, t, rfl, ht, hP, hdep, hb, k⟩ := h
    refine ⟨_, (pss_cons (ps_if (pt_cmpR (inS (K := K) rfl) (pe_ix (ixT (K := K) rfl) (pv 0) pe_int (fun _ _ => rfl)) (pe_tup (pa_cons pe_str (pa_cons pe_str pa_nil))) (by rfl)) (pss_one (ps_ret pe_int)) pss_nil) (pss_cons (ps_par (i := 1) (j := 2) (by rfl) sc__many_ways.nd rfl rfl (by decide) rfl rfl (pa_cons (pe_call c__many_ways.ok (hr.mono (by omega)) (by rfl) c__many_ways.mgx c__many_ways.kp c__many_ways.bd .nil pass0 (pa_cons (pe_ix (ixT (K := K) rfl) (pv 0) pe_int (fun _ _ => rfl)) pa_nil)) (pa_cons (pe_call c__many_ways.ok (hr.mono (by omega)) (by rfl) c__many_ways.mgx c__many_ways.kp c__many_ways.bd .nil pass0 (pa_cons (pe_ix (ixT (K := K) rfl) (pv 0) pe_int (fun _ _ => rfl)) pa_nil)) pa_nil)) (by rfl)) (pss_one (ps_ret (pe_ifExp (pt_cmpR op_eq (pe_ix (ixT (K := K) rfl) (pv 0) pe_int (fun _ _ => rfl)) pe_str (nomark _)) (pe_op op_add (pv 1) (pv 2)) (pe_op op_mul (pv 1) (pv 2))))))), ?_⟩
    have one : decide (word t ∈ (["le", "not"] : List Str)) = true → manyW t = 1 := by
      intro z
      cases t with
      | lf _ _ => exact hP.elim
      | ov _ _ _ => exact hP.elim
      | nt t => rfl
      | bi w t u =>
        rcases hP with ⟨e, _⟩ | ⟨e | e, _⟩
        · subst e; rfl
        · subst e; exact absurd z (show ¬ decide (("and" : Str) ∈ (["le", "not"] : List Str)) = _ by decide)
        · subst e; exact absurd z (show ¬ decide (("or" : Str) ∈ (["le", "not"] : List Str)) = _ by decide)
    refine q_when (b := decide (word t ∈ (["le", "not"] : List Str))) (et_test (ev_inW (K := K) (x := word t) ["le", "not"] (ev_wordA (K := K) (ev_var rfl) ht) (ea_cons ev_c (ea_cons ev_c ea_nil)) (by decide))) (fun z H1 e1 => ?_) (fun z H1 e1 => ?_)
    · exact s_ret (v := .int (manyW t : Int)) (ev_is ev_c (by rw [one z]; rfl)) fun H2 e2 => k H2 (e1.trans e2)
    · cases t with
      | lf _ _ => exact hP.elim
      | ov _ _ _ => exact hP.elim
      | nt t => exact absurd z (show ¬ decide (("not" : Str) ∈ (["le", "not"] : List Str)) = _ by decide)
      | bi w t u =>
        rcases hP with ⟨e, _⟩ | ⟨hw, h1, h2⟩
        · subst e; exact absurd z (show ¬ decide (("le" : Str) ∈ (["le", "not"] : List Str)) = _ by decide)
        · have hm := Nat.lt_of_succ_lt_succ hdep
          obtain ⟨a, y, y2, rfl, ha, hy, hz⟩ := ht
          refine q_par (v := .int (manyW t : Int)) (w := .int (manyW u : Int)) (ea_cons (ev_call (ea_cons (ev_at1 (K := K) (ev_var rfl) (e1 a _ ha)) ea_nil) (spv_mw (hy.mono (Tu.ex e1)) h1 (by omega) (Nat.lt_of_le_of_lt (many_le hw).1 hb))) (ea_cons (ev_call (ea_cons (ev_at2 (K := K) (ev_var rfl) (e1 a _ ha)) ea_nil) (spv_mw (hz.mono (Tu.ex e1)) h2 (by omega) (Nat.lt_of_le_of_lt (many_le hw).2 hb))) ea_nil)) fun H2 e2 => ?_
          have a2 : At H2 (.ref a) (.bi w t u) := ⟨a, y, y2, rfl, (e1.trans e2) a _ ha, hy.mono (Tu.ex (e1.trans e2)), hz.mono (Tu.ex (e1.trans e2))⟩
          refine s_ret (v := .int (manyW (.bi w t u) : Int)) (ev_if (b := decide (w = "or")) (et_is (et_test (ev_op (ev_wordA (K := K) (ev_var rfl) a2) ev_c (rv_eq rfl))) (dec_str _ _)) (fun z => ?_) (fun z => ?_)) fun H3 e3 => k H3 ((e1.trans e2).trans e3)
          · have e := of_decide_eq_true z
            subst e
            exact ev_is (ev_op (ev_var rfl) (ev_var rfl) rv_I0) (by show V.int _ = V.int _; rw [show manyW (.bi "or" t u) = manyW t + manyW u from rfl]; rfl)
          · have e := of_decide_eq_false z
            have hle : w ≠ "le" := by rcases hw with e | e <;> (subst e; decide)
            exact ev_is (ev_op (ev_var rfl) (ev_var rfl) (rv_I (.inl ⟨by omega, by have := Nat.lt_of_le_of_lt (many_le hw).1 hb; omega⟩))) (by show V.int _ = V.int _; rw [many_bi hw, if_neg e, Int.natCast_mul])
theorem ok_lmany {f : Addr} {fd : FuncData} (F : Fun K "_law_many" "_law_many" s__law_many f fd) (T : Txt P w K mg C SZ SY) (me : Me K mg "_law_many" f fd ["_law_saying_here"]) :
    ∀ n, FnOk P w K mg base CX0 (n + 2) f fd ["_law_saying_here"] (sp_mw n) := by
  intro n
  induction n with
  | zero => exact ⟨fun vs H Q E h => by obtain ⟨x, t, _, _, _, hd, _, _⟩ := h; exact absurd hd (Nat.not_lt_zero _), fun A outer s H args us vs Q E _ _ _ _ h => by obtain ⟨x, t, _, _, _, hd, _, _⟩ := h; exact absurd hd (Nat.not_lt_zero _)⟩
  | succ n ih =>
  have c__law_many : Cal P w K mg base "_law_many" f fd ["_law_saying_here"] (n + 2) (sp_mw n) := ⟨ih, me.mgx, me.kp, me.bd⟩
  refine F.ok (k := n + 2) sc__law_many (fun vs H Q E h => ?_) (fun cdv A outer s H vs Q E hr h => ?_)
  · obtain ⟨x, t, rfl, _⟩ := h
    rfl
  · obtain ⟨x, t, rfl, ht, hP, hdep, hb, k⟩ := h
    refine ⟨_, (pss_cons (ps_if (pt_cmpR (inS (K := K) rfl) (pe_ix (ixT (K := K) rfl) (pv 0) pe_int (fun _ _ => rfl)) (pe_tup (pa_cons pe_str (pa_cons pe_str pa_nil))) (by rfl)) (pss_one (ps_ret pe_int)) pss_nil) (pss_cons (ps_par (i := 1) (j := 2) (by rfl) sc__law_many.nd rfl rfl (by decide) rfl rfl (pa_cons (pe_call c__law_many.ok (hr.mono (by omega)) (by rfl) c__law_many.mgx c__law_many.kp c__law_many.bd .nil pass0 (pa_cons (pe_ix (ixT (K := K) rfl) (pv 0) pe_int (fun _ _ => rfl)) pa_nil)) (pa_cons (pe_call c__law_many.ok (hr.mono (by omega)) (by rfl) c__law_many.mgx c__law_many.kp c__law_many.bd .nil pass0 (pa_cons (pe_ix (ixT (K := K) rfl) (pv 0) pe_int (fun _ _ => rfl)) pa_nil)) pa_nil)) (by rfl)) (pss_one (ps_ret (pe_ifExp (pt_cmpR op_eq (pe_ix (ixT (K := K) rfl) (pv 0) pe_int (fun _ _ => rfl)) pe_str (nomark _)) (pe_op op_add (pv 1) (pv 2)) (pe_op op_mul (pv 1) (pv 2))))))), ?_⟩
    have one : decide (word t ∈ (["le", "not"] : List Str)) = true → manyW t = 1 := by
      intro z
      cases t with
      | lf _ _ => exact hP.elim
      | ov _ _ _ => exact hP.elim
      | nt t => rfl
      | bi w t u =>
        rcases hP with ⟨e, _⟩ | ⟨e | e, _⟩
        · subst e; rfl
        · subst e; exact absurd z (show ¬ decide (("and" : Str) ∈ (["le", "not"] : List Str)) = _ by decide)
        · subst e; exact absurd z (show ¬ decide (("or" : Str) ∈ (["le", "not"] : List Str)) = _ by decide)
    refine q_when (b := decide (word t ∈ (["le", "not"] : List Str))) (et_test (ev_inW (K := K) (x := word t) ["le", "not"] (ev_wordA (K := K) (ev_var rfl) ht) (ea_cons ev_c (ea_cons ev_c ea_nil)) (by decide))) (fun z H1 e1 => ?_) (fun z H1 e1 => ?_)
    · exact s_ret (v := .int (manyW t : Int)) (ev_is ev_c (by rw [one z]; rfl)) fun H2 e2 => k H2 (e1.trans e2)
    · cases t with
      | lf _ _ => exact hP.elim
      | ov _ _ _ => exact hP.elim
      | nt t => exact absurd z (show ¬ decide (("not" : Str) ∈ (["le", "not"] : List Str)) = _ by decide)
      | bi w t u =>
        rcases hP with ⟨e, _⟩ | ⟨hw, h1, h2⟩
        · subst e; exact absurd z (show ¬ decide (("le" : Str) ∈ (["le", "not"] : List Str)) = _ by decide)
        · have hm := Nat.lt_of_succ_lt_succ hdep
          obtain ⟨a, y, y2, rfl, ha, hy, hz⟩ := ht
          refine q_par (v := .int (manyW t : Int)) (w := .int (manyW u : Int)) (ea_cons (ev_call (ea_cons (ev_at1 (K := K) (ev_var rfl) (e1 a _ ha)) ea_nil) (spv_mw (hy.mono (Tu.ex e1)) h1 (by omega) (Nat.lt_of_le_of_lt (many_le hw).1 hb))) (ea_cons (ev_call (ea_cons (ev_at2 (K := K) (ev_var rfl) (e1 a _ ha)) ea_nil) (spv_mw (hz.mono (Tu.ex e1)) h2 (by omega) (Nat.lt_of_le_of_lt (many_le hw).2 hb))) ea_nil)) fun H2 e2 => ?_
          have a2 : At H2 (.ref a) (.bi w t u) := ⟨a, y, y2, rfl, (e1.trans e2) a _ ha, hy.mono (Tu.ex (e1.trans e2)), hz.mono (Tu.ex (e1.trans e2))⟩
          refine s_ret (v := .int (manyW (.bi w t u) : Int)) (ev_if (b := decide (w = "or")) (et_is (et_test (ev_op (ev_wordA (K := K) (ev_var rfl) a2) ev_c (rv_eq rfl))) (dec_str _ _)) (fun z => ?_) (fun z => ?_)) fun H3 e3 => k H3 ((e1.trans e2).trans e3)
          · have e := of_decide_eq_true z
            subst e
            exact ev_is (ev_op (ev_var rfl) (ev_var rfl) rv_I0) (by show V.int _ = V.int _; rw [show manyW (.bi "or" t u) = manyW t + manyW u from rfl]; rfl)
          · have e := of_decide_eq_false z
            have hle : w ≠ "le" := by rcases hw with e | e <;> (subst e; decide)
            exact ev_is (ev_op (ev_var rfl) (ev_var rfl) (rv_I (.inl ⟨by omega, by have := Nat.lt_of_le_of_lt (many_le hw).1 hb; omega⟩))) (by show V.int _ = V.int _; rw [many_bi hw, if_neg e, Int.natCast_mul])
end
end K25
end
section
set_option maxHeartbeats 4000000
namespace K25
open PySem L2 Evl G TM TD
section
variable {P : Program} {w : World} {K : PySem.W.Frag} {mg : Str → Option Value} {base : Heap} {C SZ SY : Addr}
/-! ### pushed in, by the law's own way -/
theorem push_bi {w : Str} {t u : Td} {b : Bool} (h : w ≠ "le") : push (.bi w t u) b = .bi (if b = true then w else flipW w) (push t b) (push u b) := by
  show (if w = "le" then (if b = true then Td.bi w t u else .nt (.bi w t u)) else .bi (if b = true then w else flipW w) (push t b) (push u b)) = _
  rw [if_neg h]
theorem s_rtd {σ : L2.St} {H : Hp} {te : TE} {t : Td} {D : Ends} (h : EvTd te σ H t) (k : RetTd t H D.rt) : tRet te D σ H := h H (Ex.refl H) _ k
theorem etd_if {σ : L2.St} {H : Hp} {tt : TT} {ta tb : TE} {u : Td} {b : Bool} (h : EvT tt σ H b) (h1 : b = true → EvTd ta σ H u) (h2 : b = false → EvTd tb σ H u) : EvTd (tIf tt ta tb) σ H u := fun H1 e Q q => h H1 e _ fun H2 e2 => by
  cases b with
  | true => exact h1 rfl H2 (e.trans e2) Q fun v H3 e3 a => q v H3 (e2.trans e3) a
  | false => exact h2 rfl H2 (e.trans e2) Q fun v H3 e3 a => q v H3 (e2.trans e3) a
theorem RetTd.mono {t : Td} {H H1 : Hp} {Q : VK} (e : Ex H H1) (k : RetTd t H Q) : RetTd t H1 Q := fun v H2 e2 a => k v H2 (e.trans e2) a
/-- {a: b, c: d}[x] -/
theorem ev_dispget {σ : L2.St} {H : Hp} {tx : TE} {a b c d r : Str} {x : Str} (hk : Ev tx σ H (.str x)) (hv : valV (mergeK [] [(kS a, .str b), (kS c, .str d)]) (kS x) = some (.str r)) :
    Ev (tDGet (tDisp [(tC (.str a), tC (.str b)), (tC (.str c), tC (.str d))]) tx) σ H (.str r) := fun H1 e Q q => by
  intro p hp
  refine ⟨upd_same, [(kS a, .str b), (kS c, .str d)], rfl, (show 2 ≤ 15 by decide), ?_⟩
  have ex : Ex H1 (upd (upd H1 p (.dK [])) p (.dK (mergeK [] [(kS a, .str b), (kS c, .str d)]))) := fun y o hy => by
    have hne : y ≠ p := fun z => by rw [z, hp] at hy; cases hy
    unfold upd
    rw [if_neg hne, if_neg hne]
    exact hy
  exact hk _ (e.trans ex) _ fun H3 e3 => ⟨p, _, rfl, hv ▸ DGet.k (k := kS x) (e3 p _ upd_same), q H3 (ex.trans e3)⟩
noncomputable def sp_lpush (n : Nat) : Sp := fun vs H Q _ => ∃ x t b, vs = [x, .bl b] ∧ At H x t ∧ IsS t ∧ depth t < n ∧ RetTd (push t b) H Q
theorem etd_lpush {n : Nat} {H : Hp} {x : V} {t : Td} {b : Bool} (h : At H x t) (hs : IsS t) (hd : depth t < n) : SpTd (sp_lpush n) [x, .bl b] H (push t b) := fun H1 e Q q E => ⟨x, t, b, rfl, h.mono (Tu.ex e), hs, hd, q⟩
theorem ok_lpush {f : Addr} {fd : FuncData} (F : Fun K "_law_pushed" "_law_pushed" s__law_pushed f fd) (T : Txt P w K mg C SZ SY) (me : Me K mg "_law_pushed" f fd ["_law_saying_here", "_law_is_so_here"]) :
    ∀ n, FnOk P w K mg base CX0 (n + 2) f fd ["_law_saying_here", "_law_is_so_here"] (sp_lpush n) := by
  intro n
  induction n with
  | zero => exact ⟨fun vs H Q E h => by obtain ⟨x, t, _, _, _, _, hd, _⟩ := h; exact absurd hd (Nat.not_lt_zero _), fun A outer s H args us vs Q E _ _ _ _ h => by obtain ⟨x, t, _, _, _, _, hd, _⟩ := h; exact absurd hd (Nat.not_lt_zero _)⟩
  | succ n ih =>
  have c__law_pushed : Cal P w K mg base "_law_pushed" f fd ["_law_saying_here", "_law_is_so_here"] (n + 2) (sp_lpush n) := ⟨ih, me.mgx, me.kp, me.bd⟩
  refine F.ok (k := n + 2) sc__law_pushed (fun vs H Q E h => ?_) (fun cdv A outer s H vs Q E hr h => ?_)
  · obtain ⟨x, t, b, rfl, _⟩ := h
    rfl
  · obtain ⟨x, t, b, rfl, ht, hS, hdep, k⟩ := h
    refine ⟨_, (pss_cons (ps_set (i := 2) sc__law_pushed.nd rfl (Or.inl rfl) (pe_ix (ixT (K := K) rfl) (pv 0) pe_int (fun _ _ => rfl))) (pss_cons (ps_if (pt_cmpR op_eq (pv 2) pe_str (nomark _)) (pss_one (ps_ret (pe_ifExp (pt_val (pv 1)) (pv 0) (pe_tup (pa_cons pe_str (pa_cons (pv 0) pa_nil)))))) pss_nil) (pss_cons (ps_if (pt_cmpR op_eq (pv 2) pe_str (nomark _)) (pss_one (ps_ret (pe_call c__law_pushed.ok (hr.mono (by omega)) (by rfl) c__law_pushed.mgx c__law_pushed.kp c__law_pushed.bd .nil pass0 (pa_cons (pe_ix (ixT (K := K) rfl) (pv 0) pe_int (fun _ _ => rfl)) (pa_cons (pe_not (pv 1)) pa_nil))))) pss_nil) (pss_cons (ps_set (i := 2) sc__law_pushed.nd rfl (Or.inl rfl) (pe_ifExp (pt_val (pv 1)) (pv 2) (pe_dgetR hr.units (pe_disp (pps_cons pe_str pe_str (pps_cons pe_str pe_str pps_nil)) rfl rfl (by intro z; cases z) (by decide)) (pv 2) (fun _ _ => rfl)))) (pss_one (ps_ret (pe_tup (pa_cons (pv 2) (pa_cons (pe_call c__law_pushed.ok (hr.mono (by omega)) (by rfl) c__law_pushed.mgx c__law_pushed.kp c__law_pushed.bd .nil pass0 (pa_cons (pe_ix (ixT (K := K) rfl) (pv 0) pe_int (fun _ _ => rfl)) (pa_cons (pv 1) pa_nil))) (pa_cons (pe_call c__law_pushed.ok (hr.mono (by omega)) (by rfl) c__law_pushed.mgx c__law_pushed.kp c__law_pushed.bd .nil pass0 (pa_cons (pe_ix (ixT (K := K) rfl) (pv 0) pe_int (fun _ _ => rfl)) (pa_cons (pv 1) pa_nil))) pa_nil)))))))))), ?_⟩
    refine q_asg (ev_wordA (K := K) (ev_var rfl) ht) fun H1 e1 => ?_
    have tw : ∀ (σ : L2.St) (H2 : Hp) (z : Str), σ[2]? = some (some (V.str (word t))) → EvT (tTest (tOp rEq (tVar 2) (tC (.str z)))) σ H2 (decide (word t = z)) := fun σ H2 z hv => et_is (et_test (ev_op (ev_var hv) ev_c (rv_eq rfl))) (dec_str _ _)
    have a1 : At H1 x t := ht.mono (Tu.ex e1)
    cases t with
    | lf w v => exact hS.elim
    | ov w v t => exact hS.elim
    | nt t =>
      obtain ⟨a, y, rfl, ha, hy⟩ := a1
      have n1 : decide (("not" : Str) = "le") = false := by decide
      have n2 : decide (("not" : Str) = "not") = true := by decide
      refine q_when (b := decide (("not" : Str) = "le")) (tw _ _ _ rfl) (fun z => by rw [n1] at z; cases z) (fun _ H2 e2 => ?_)
      refine q_when (b := decide (("not" : Str) = "not")) (tw _ _ _ rfl) (fun _ H3 e3 => ?_) (fun z => by rw [n2] at z; cases z)
      exact s_rtd (etd_call (ea_cons (ev_at1 (K := K) (ev_var rfl) ((e2.trans e3) a _ ha)) (ea_cons (ev_notV (ev_var rfl)) ea_nil)) (etd_lpush (hy.mono (Tu.ex (e2.trans e3))) hS (Nat.lt_of_succ_lt_succ hdep))) (RetTd.mono ((e1.trans e2).trans e3) k)
    | bi w t u =>
      have hm := Nat.lt_of_succ_lt_succ hdep
      rcases hS with ⟨e, hF1, hF2⟩ | ⟨hw, hS1, hS2⟩
      · subst e
        have n1 : decide (("le" : Str) = "le") = true := by decide
        refine q_when (b := decide (("le" : Str) = "le")) (tw _ _ _ rfl) (fun _ H2 e2 => ?_) (fun z => by rw [n1] at z; cases z)
        have a2 := a1.mono (Tu.ex e2)
        refine s_rtd (t := push (.bi "le" t u) b) (etd_if (b := b) (et_B (ev_var rfl)) (fun z => ?_) (fun z => ?_)) (RetTd.mono (e1.trans e2) k)
        · subst z
          exact etd_ref (ev_var rfl) a2
        · subst z
          exact etd_nt ev_c (etd_ref (ev_var rfl) a2)
      · have hne : w ≠ "le" := by rcases hw with e | e <;> (rw [e]; decide)
        have n1 : decide (w = "le") = false := decide_eq_false hne
        have n2 : decide (w = "not") = false := by rcases hw with e | e <;> (subst e; decide)
        refine q_when (b := decide (w = "le")) (tw _ _ _ rfl) (fun z => by rw [n1] at z; cases z) (fun _ H2 e2 => ?_)
        refine q_when (b := decide (w = "not")) (tw _ _ _ rfl) (fun z => by rw [n2] at z; cases z) (fun _ H3 e3 => ?_)
        refine q_asg (v := .str (if b = true then w else flipW w)) (ev_if (b := b) (et_B (ev_var rfl)) (fun z => ?_) (fun z => ?_)) fun H4 e4 => ?_
        · subst z
          exact ev_var rfl
        · subst z
          exact ev_dispget (x := w) (ev_var rfl) (by rcases hw with e | e <;> (subst e; rfl))
        · obtain ⟨a, y, y2, rfl, ha, hy, hz⟩ := a1
          have e24 := (e2.trans e3).trans e4
          refine s_rtd (t := push (.bi w t u) b) ?_ (RetTd.mono (e1.trans e24) k)
          rw [push_bi hne]
          exact etd_bi (ev_var rfl) (etd_call (ea_cons (ev_at1 (K := K) (ev_var rfl) (e24 a _ ha)) (ea_cons (ev_var rfl) ea_nil)) (etd_lpush (hy.mono (Tu.ex e24)) hS1 (by omega))) (etd_call (ea_cons (ev_at2 (K := K) (ev_var rfl) (e24 a _ ha)) (ea_cons (ev_var rfl) ea_nil)) (etd_lpush (hz.mono (Tu.ex e24)) hS2 (by omega)))
end
end K25
end
section
set_option maxHeartbeats 4000000
namespace K25
open PySem L2 Evl G TM TD
section
variable {P : Program} {w : World} {K : PySem.W.Frag} {mg : Str → Option Value} {base : Heap} {C SZ SY CJ : Addr}
/-! ### pushed in, by the program's own way -/
/-- what else stands at the top -/
structure Tj (w : World) (K : PySem.W.Frag) (mg : Str → Option Value) (CJ : Addr) : Prop where
  mg_CJ : mg "CONTRARY_JOINTS" = some (.ref CJ)
  an : KDct K w CJ "and" (.str "or")
  oa : KDct K w CJ "or" (.str "and")
  mg_MW : ∃ tk, mg "MOST_WAYS" = some (.int 60 tk)
noncomputable def sp_pu (b : Bool) (n : Nat) : Sp := fun vs H Q _ => ∃ x t, vs = [x] ∧ At H x t ∧ IsS t ∧ depth t < n ∧ RetTd (push t b) H Q
theorem etd_pu {n : Nat} {H : Hp} {x : V} {t : Td} {b : Bool} (h : At H x t) (hs : IsS t) (hd : depth t < n) : SpTd (sp_pu b n) [x] H (push t b) := fun H1 e Q q E => ⟨x, t, rfl, h.mono (Tu.ex e), hs, hd, q⟩
theorem pu_zero {b : Bool} {k : Nat} {f : Addr} {fd : FuncData} {ps : List Str} : FnOk P w K mg base CX0 k f fd ps (sp_pu b 0) := ⟨fun vs H Q E h => by obtain ⟨x, t, _, _, _, hd, _⟩ := h; exact absurd hd (Nat.not_lt_zero _), fun A outer s H args us vs Q E _ _ _ _ h => by obtain ⟨x, t, _, _, _, hd, _⟩ := h; exact absurd hd (Nat.not_lt_zero _)⟩
theorem pushed_both {f f1 : Addr} {fd fd1 : FuncData} (F : Fun K "_pushed_in" "_pushed_in" s__pushed_in f fd) (F1 : Fun K "contrary_of" "contrary_of" s_contrary_of f1 fd1) (T : Txt P w K mg C SZ SY) (TJ : Tj w K mg CJ) (me : Me K mg "_pushed_in" f fd ["saying"]) (me1 : Me K mg "contrary_of" f1 fd1 ["saying"]) :
    ∀ n, FnOk P w K mg base CX0 (n + 2) f fd ["saying"] (sp_pu true n) ∧ FnOk P w K mg base CX0 (n + 2) f1 fd1 ["saying"] (sp_pu false n) := by
  intro n
  induction n with
  | zero => exact ⟨pu_zero, pu_zero⟩
  | succ n ih =>
  have c__pushed_in : Cal P w K mg base "_pushed_in" f fd ["saying"] (n + 2) (sp_pu true n) := ⟨ih.1, me.mgx, me.kp, me.bd⟩
  have c_contrary_of : Cal P w K mg base "contrary_of" f1 fd1 ["saying"] (n + 2) (sp_pu false n) := ⟨ih.2, me1.mgx, me1.kp, me1.bd⟩
  have tw : ∀ (σ : L2.St) (H2 : Hp) (x : V) (t : Td) (z : Str), σ[0]? = some (some x) → At H2 x t → EvT (tTest (tOp rEq (tOp (rIxT K) (tVar 0) (tC (.int 0))) (tC (.str z)))) σ H2 (decide (word t = z)) := fun σ H2 x t z hv ha => et_is (et_test (ev_op (ev_wordA (K := K) (ev_var hv) ha) ev_c (rv_eq rfl))) (dec_str _ _)
  have nn1 : decide (("not" : Str) = "le") = false := by decide
  have nn2 : decide (("not" : Str) = "not") = true := by decide
  have nl : decide (("le" : Str) = "le") = true := by decide
  refine ⟨F.ok (k := n + 2) sc__pushed_in (fun vs H Q E h => ?_) (fun cdv A outer s H vs Q E hr h => ?_), F1.ok (k := n + 2) sc_contrary_of (fun vs H Q E h => ?_) (fun cdv A outer s H vs Q E hr h => ?_)⟩
  · obtain ⟨x, t, rfl, _⟩ := h
    rfl
  · obtain ⟨x, t, rfl, ht, hS, hdep, k⟩ := h
    refine ⟨_, (pss_cons (ps_if (pt_cmpR op_eq (pe_ix (ixT (K := K) rfl) (pv 0) pe_int (fun _ _ => rfl)) pe_str (nomark _)) (pss_one (ps_ret (pv 0))) pss_nil) (pss_cons (ps_if (pt_cmpR op_eq (pe_ix (ixT (K := K) rfl) (pv 0) pe_int (fun _ _ => rfl)) pe_str (nomark _)) (pss_one (ps_ret (pe_call c_contrary_of.ok (hr.mono (by omega)) (by rfl) c_contrary_of.mgx c_contrary_of.kp c_contrary_of.bd .nil pass0 (pa_cons (pe_ix (ixT (K := K) rfl) (pv 0) pe_int (fun _ _ => rfl)) pa_nil)))) pss_nil) (pss_one (ps_ret (pe_tup (pa_cons (pe_ix (ixT (K := K) rfl) (pv 0) pe_int (fun _ _ => rfl)) (pa_cons (pe_call c__pushed_in.ok (hr.mono (by omega)) (by rfl) c__pushed_in.mgx c__pushed_in.kp c__pushed_in.bd .nil pass0 (pa_cons (pe_ix (ixT (K := K) rfl) (pv 0) pe_int (fun _ _ => rfl)) pa_nil)) (pa_cons (pe_call c__pushed_in.ok (hr.mono (by omega)) (by rfl) c__pushed_in.mgx c__pushed_in.kp c__pushed_in.bd .nil pass0 (pa_cons (pe_ix (ixT (K := K) rfl) (pv 0) pe_int (fun _ _ => rfl)) pa_nil)) pa_nil)))))))), ?_⟩
    cases t with
    | lf w v => exact hS.elim
    | ov w v t => exact hS.elim
    | nt t =>
      refine q_when (b := decide (("not" : Str) = "le")) (tw _ _ _ _ _ rfl ht) (fun z => by rw [nn1] at z; cases z) (fun _ H2 e2 => ?_)
      refine q_when (b := decide (("not" : Str) = "not")) (tw _ _ _ _ _ rfl (ht.mono (Tu.ex e2))) (fun _ H3 e3 => ?_) (fun z => by rw [nn2] at z; cases z)
      obtain ⟨a, y, rfl, ha, hy⟩ := ht
      exact s_rtd (etd_call (ea_cons (ev_at1 (K := K) (ev_var rfl) ((e2.trans e3) a _ ha)) ea_nil) (etd_pu (hy.mono (Tu.ex (e2.trans e3))) hS (Nat.lt_of_succ_lt_succ hdep))) (RetTd.mono (e2.trans e3) k)
    | bi w t u =>
      have hm := Nat.lt_of_succ_lt_succ hdep
      rcases hS with ⟨e, hF1, hF2⟩ | ⟨hw, hS1, hS2⟩
      · subst e
        refine q_when (b := decide (("le" : Str) = "le")) (tw _ _ _ _ _ rfl ht) (fun _ H2 e2 => ?_) (fun z => by rw [nl] at z; cases z)
        exact s_rtd (t := push (.bi "le" t u) true) (etd_ref (ev_var rfl) (ht.mono (Tu.ex e2))) (RetTd.mono e2 k)
      · have hne : w ≠ "le" := by rcases hw with e | e <;> (rw [e]; decide)
        have n1 : decide (w = "le") = false := decide_eq_false hne
        have n2 : decide (w = "not") = false := by rcases hw with e | e <;> (subst e; decide)
        refine q_when (b := decide (w = "le")) (tw _ _ _ _ _ rfl ht) (fun z => by rw [n1] at z; cases z) (fun _ H2 e2 => ?_)
        refine q_when (b := decide (w = "not")) (tw _ _ _ _ _ rfl (ht.mono (Tu.ex e2))) (fun z => by rw [n2] at z; cases z) (fun _ H3 e3 => ?_)
        have a3 := ht.mono (Tu.ex (e2.trans e3))
        obtain ⟨a, y, y2, rfl, ha, hy, hz⟩ := ht
        have e23 := e2.trans e3
        refine s_rtd (t := push (.bi w t u) true) ?_ (RetTd.mono e23 k)
        rw [push_bi hne]
        exact etd_bi (ev_wordA (K := K) (ev_var rfl) a3) (etd_call (ea_cons (ev_at1 (K := K) (ev_var rfl) (e23 a _ ha)) ea_nil) (etd_pu (hy.mono (Tu.ex e23)) hS1 (by omega))) (etd_call (ea_cons (ev_at2 (K := K) (ev_var rfl) (e23 a _ ha)) ea_nil) (etd_pu (hz.mono (Tu.ex e23)) hS2 (by omega)))
  · obtain ⟨x, t, rfl, _⟩ := h
    rfl
  · obtain ⟨x, t, rfl, ht, hS, hdep, k⟩ := h
    refine ⟨_, (pss_cons (ps_if (pt_cmpR op_eq (pe_ix (ixT (K := K) rfl) (pv 0) pe_int (fun _ _ => rfl)) pe_str (nomark _)) (pss_one (ps_ret (pe_tup (pa_cons pe_str (pa_cons (pv 0) pa_nil))))) pss_nil) (pss_cons (ps_if (pt_cmpR op_eq (pe_ix (ixT (K := K) rfl) (pv 0) pe_int (fun _ _ => rfl)) pe_str (nomark _)) (pss_one (ps_ret (pe_call c__pushed_in.ok (hr.mono (by omega)) (by rfl) c__pushed_in.mgx c__pushed_in.kp c__pushed_in.bd .nil pass0 (pa_cons (pe_ix (ixT (K := K) rfl) (pv 0) pe_int (fun _ _ => rfl)) pa_nil)))) pss_nil) (pss_one (ps_ret (pe_tup (pa_cons (pe_ix ix_kdict (pe_glob (v := .ref CJ) rfl TJ.mg_CJ rfl) (pe_ix (ixT (K := K) rfl) (pv 0) pe_int (fun _ _ => rfl)) (fun _ _ => rfl)) (pa_cons (pe_call c_contrary_of.ok (hr.mono (by omega)) (by rfl) c_contrary_of.mgx c_contrary_of.kp c_contrary_of.bd .nil pass0 (pa_cons (pe_ix (ixT (K := K) rfl) (pv 0) pe_int (fun _ _ => rfl)) pa_nil)) (pa_cons (pe_call c_contrary_of.ok (hr.mono (by omega)) (by rfl) c_contrary_of.mgx c_contrary_of.kp c_contrary_of.bd .nil pass0 (pa_cons (pe_ix (ixT (K := K) rfl) (pv 0) pe_int (fun _ _ => rfl)) pa_nil)) pa_nil)))))))), ?_⟩
    cases t with
    | lf w v => exact hS.elim
    | ov w v t => exact hS.elim
    | nt t =>
      refine q_when (b := decide (("not" : Str) = "le")) (tw _ _ _ _ _ rfl ht) (fun z => by rw [nn1] at z; cases z) (fun _ H2 e2 => ?_)
      refine q_when (b := decide (("not" : Str) = "not")) (tw _ _ _ _ _ rfl (ht.mono (Tu.ex e2))) (fun _ H3 e3 => ?_) (fun z => by rw [nn2] at z; cases z)
      obtain ⟨a, y, rfl, ha, hy⟩ := ht
      exact s_rtd (etd_call (ea_cons (ev_at1 (K := K) (ev_var rfl) ((e2.trans e3) a _ ha)) ea_nil) (etd_pu (hy.mono (Tu.ex (e2.trans e3))) hS (Nat.lt_of_succ_lt_succ hdep))) (RetTd.mono (e2.trans e3) k)
    | bi w t u =>
      have hm := Nat.lt_of_succ_lt_succ hdep
      rcases hS with ⟨e, hF1, hF2⟩ | ⟨hw, hS1, hS2⟩
      · subst e
        refine q_when (b := decide (("le" : Str) = "le")) (tw _ _ _ _ _ rfl ht) (fun _ H2 e2 => ?_) (fun z => by rw [nl] at z; cases z)
        exact s_rtd (t := push (.bi "le" t u) false) (etd_nt ev_c (etd_ref (ev_var rfl) (ht.mono (Tu.ex e2)))) (RetTd.mono e2 k)
      · have hne : w ≠ "le" := by rcases hw with e | e <;> (rw [e]; decide)
        have n1 : decide (w = "le") = false := decide_eq_false hne
        have n2 : decide (w = "not") = false := by rcases hw with e | e <;> (subst e; decide)
        refine q_when (b := decide (w = "le")) (tw _ _ _ _ _ rfl ht) (fun z => by rw [n1] at z; cases z) (fun _ H2 e2 => ?_)
        refine q_when (b := decide (w = "not")) (tw _ _ _ _ _ rfl (ht.mono (Tu.ex e2))) (fun z => by rw [n2] at z; cases z) (fun _ H3 e3 => ?_)
        have a3 := ht.mono (Tu.ex (e2.trans e3))
        obtain ⟨a, y, y2, rfl, ha, hy, hz⟩ := ht
        have e23 := e2.trans e3
        refine s_rtd (t := push (.bi w t u) false) ?_ (RetTd.mono e23 k)
        rw [push_bi hne]
        exact etd_bi (ev_ixKD (d := CJ) ev_c (ev_wordA (K := K) (ev_var rfl) a3) (by rcases hw with e | e <;> (subst e); exact TJ.an; exact TJ.oa)) (etd_call (ea_cons (ev_at1 (K := K) (ev_var rfl) (e23 a _ ha)) ea_nil) (etd_pu (hy.mono (Tu.ex e23)) hS1 (by omega))) (etd_call (ea_cons (ev_at2 (K := K) (ev_var rfl) (e23 a _ ha)) ea_nil) (etd_pu (hz.mono (Tu.ex e23)) hS2 (by omega)))
theorem ok__pushed_in {f f1 : Addr} {fd fd1 : FuncData} (F : Fun K "_pushed_in" "_pushed_in" s__pushed_in f fd) (F_contrary_of : Fun K "contrary_of" "contrary_of" s_contrary_of f1 fd1) (T : Txt P w K mg C SZ SY) (TJ : Tj w K mg CJ) (me : Me K mg "_pushed_in" f fd ["saying"]) (me_contrary_of : Me K mg "contrary_of" f1 fd1 ["saying"]) :
    ∀ n, FnOk P w K mg base CX0 (n + 2) f fd ["saying"] (sp_pu true n) := fun n => (pushed_both (P := P) (w := w) (base := base) F F_contrary_of T TJ me me_contrary_of n).1
end
end K25
end
section
set_option maxHeartbeats 4000000
namespace K25
open PySem L2 Evl G TM TD
open Classical
/-! ### without doubles -/
theorem u65 {k : Nat} {A : Around} (r : Room k A) : A.units + 65 < cLine := by have := r.un; omega
theorem dpall_told {K : PySem.W.Frag} {H : Hp} {ys : List V} : ∀ {ts : List Td}, Ats H ys ts → (∀ t ∈ ts, Told t) → DpAll K H ys (ts.map dTd) := by
  induction ys with
  | nil =>
    intro ts h _
    have e := h.len
    cases ts with
    | nil => exact .nil
    | cons _ _ => cases e
  | cons y ys ih =>
    intro ts h ht
    cases ts with
    | nil => have e := h.len; cases e
    | cons t ts =>
      cases h with
      | cons h1 h2 => exact .cons (dp_told (ht t (by simp)) h1) (ih h2 fun u hu => ht u (by simp [hu]))
theorem any_told {t : Td} {ts : List Td} (h : Told t) (hs : ∀ u ∈ ts, Told u) : ((ts.map dTd).any fun z => PyData.eqv z (dTd t)) = decide (t ∈ ts) := by
  induction ts with
  | nil => rfl
  | cons u ts ih =>
    rw [List.map_cons, List.any_cons, ih fun x hx => hs x (by simp [hx]), eqv_td (hs u (by simp)) h]
    by_cases e : u = t
    · subst e; simp
    · have e2 : ¬ t = u := fun z => e z.symm
      simp [e, e2]
theorem can_told {t : Td} (h : Told t) : (dTd t).canLay0 = true := h.elim can_tf can_ts
theorem shaped_td {t : Td} (h : Told t) (hd : depth t ≤ 50) : SeqAt.shaped (dTd t) = true := shaped_of (can_told h) (by have := depth_td t; omega)
theorem can_all {ts : List Td} (h : ∀ t ∈ ts, Told t) : PyData.canLayAll0 (ts.map dTd) = true := by
  induction ts with
  | nil => rfl
  | cons t ts ih =>
    rw [List.map_cons, PyData.canLayAll0, can_told (h t (by simp)), ih fun u hu => h u (by simp [hu])]
    rfl
theorem shaped_tds {ts : List Td} (h : ∀ t ∈ ts, Told t ∧ depth t ≤ 50) : SeqAt.shaped (.list (ts.map dTd)) = true := by
  refine shaped_of (by rw [PyData.canLay0]; exact can_all fun t ht => (h t ht).1) ?_
  have : PyData.depthAll (ts.map dTd) ≤ 51 := depth_all fun d hd => by
    obtain ⟨t, ht, rfl⟩ := List.mem_map.mp hd
    have := depth_td t
    have := (h t ht).2
    omega
  rw [PyData.depth]
  omega
section
variable {P : Program} {w : World} {K : PySem.W.Frag} {mg : Str → Option Value} {base : Heap} {C SZ SY : Addr}
theorem ev_niTd {σ : L2.St} {H : Hp} {ta tb : TE} {x : V} {l : Addr} {zs : List V} {t : Td} {ts : List Td} (h : Ev ta σ H x) (k : Ev tb σ H (.ref l)) (hx : At H x t) (hl : H l = some (.lst zs)) (hz : Ats H zs ts) (ht : Told t ∧ depth t ≤ 50) (hs : ∀ u ∈ ts, Told u ∧ depth u ≤ 50) :
    Ev (tOp (rNotInD K) ta tb) σ H (.bl (!decide (t ∈ ts))) := ev_op h k fun H1 e Q q => ⟨dTd t, ts.map dTd, dp_told ht.1 (hx.mono (Tu.ex e)), .lst (sq_of (e l _ hl)) (dpall_told (hz.mono (Tu.ex e)) fun u hu => (hs u hu).1), shaped_td ht.1 ht.2, shaped_tds hs, by rw [any_told ht.1 fun u hu => (hs u hu).1]; exact q H1 (Ex.refl H1)⟩
noncomputable def sp_wd : Sp := fun vs H Q _ => ∃ a ys ts, vs = [.ref a] ∧ H a = some (.lst ys) ∧ Ats H ys ts ∧ (∀ t ∈ ts, Told t ∧ depth t ≤ 50) ∧ ts.length ≤ 1000 ∧ RetLs (dedup ts) H Q
theorem spl_wd {H : Hp} {a : Addr} {ys : List V} {ts : List Td} (h : H a = some (.lst ys)) (k : Ats H ys ts) (hs : ∀ t ∈ ts, Told t ∧ depth t ≤ 50) (hl : ts.length ≤ 1000) : SpLs sp_wd [.ref a] H (dedup ts) := fun H1 e Q q E => ⟨a, ys, ts, rfl, e a _ h, k.mono (Tu.ex e), hs, hl, q⟩
theorem fold_len (acc ts : List Td) : (ts.foldl stepD acc).length ≤ acc.length + ts.length := by
  induction ts generalizing acc with
  | nil => simp
  | cons t ts ih =>
    have := ih (stepD acc t)
    have h2 : (stepD acc t).length ≤ acc.length + 1 := by unfold stepD; split <;> simp
    simp only [List.foldl_cons, List.length_cons]
    omega
theorem ok_without_doubles {f : Addr} {fd : FuncData} (F : Fun K "without_doubles" "without_doubles" s_without_doubles f fd) (T : Txt P w K mg C SZ SY) :
    FnOk P w K mg base CX0 2 f fd ["things"] sp_wd := by
  refine F.ok sc_without_doubles (fun vs H Q E h => ?_) (fun cdv A outer s H vs Q E hr h => ?_)
  · obtain ⟨x, _, t, rfl, _⟩ := h
    rfl
  · obtain ⟨a, ys, ts, rfl, ha, hk, hs, hlen, k⟩ := h
    refine ⟨_, (pss_cons (ps_set (i := 1) sc_without_doubles.nd rfl (Or.inl rfl) (pe_lst pa_nil)) (pss_cons (ps_for PassesOwn.never rfl (piL (K := K) rfl (pv 0)) (pg_name (i := 2) sc_without_doubles.nd rfl (Or.inl rfl)) (pss_one (ps_if (pt_cmpR (op_notInD (u65 hr)) (pv 2) (pv 1) (by rfl)) (pss_one (ps_expr (pe_bm PySem.F.plainAttrs_list PySem.F.slot_list_append PySem.F.type_list_append mt_append (pv 1) (pa_cons (pv 2) pa_nil)))) pss_nil))) (pss_one (ps_ret (pv 1))))), ?_⟩
    refine q_asgL (el_lst ea_nil (by show 0 ≤ 100000; decide)) fun fo H1 hfo e1 h1 => ?_
    refine q_forL (ev_var rfl) (sq_of (e1 a _ ha)) (fun i σ' H' => ∃ (zs : List V) (o : Option V), σ' = [some (.ref a), some (.ref fo), o] ∧ Ex H H' ∧ H' fo = some (.lst zs) ∧ Ats H' zs ((ts.take i).foldl stepD []) ∧ Ats H' ys ts)
      (fun H2 e2 => ⟨[], none, rfl, e1.trans e2, e2 fo _ h1, by rw [List.take_zero]; exact .nil, hk.mono (Tu.ex (e1.trans e2))⟩) (fun i σ' H' _ h => by obtain ⟨_, _, _, e, _⟩ := h; exact sq_of (e a _ ha)) (fun i y σ' H' hi h => ?_) (fun σ' H' h => ?_)
    · obtain ⟨zs, o, rfl, e2, h2, k2, k3⟩ := h
      obtain ⟨u, hu, hyu⟩ := k3.get hi
      have hmu := List.mem_of_getElem? hu
      have et : (ts.take (i + 1)).foldl stepD [] = stepD ((ts.take i).foldl stepD []) u := by
        have : ts.take (i + 1) = ts.take i ++ [u] := by rw [List.take_add_one, hu] <;> rfl
        rw [this, List.foldl_append]
        rfl
      have hsub : ∀ x ∈ (ts.take i).foldl stepD [], Told x ∧ depth x ≤ 50 := fun x hx => hs x (by
        rcases mem_fold.mp hx with h | h
        · cases h
        · exact List.mem_of_mem_take h)
      refine s_when (b := !decide (u ∈ (ts.take i).foldl stepD [])) (et_test (ev_niTd (K := K) (ev_var rfl) (ev_var rfl) hyu h2 k2 (hs u hmu) hsub)) (fun z H3 e3 => ?_) (fun z H3 e3 => ?_)
      · have hn : u ∉ (ts.take i).foldl stepD [] := by simpa using z
        have hl1 : zs.length ≤ 1000 := by
          rw [k2.len]
          have := fold_len [] (ts.take i)
          simp only [List.length_nil, List.length_take] at this
          omega
        refine s_app (e3 fo _ h2) (ev_var rfl) (ev_var rfl) (by omega) fun H4 e4 => ?_
        have f4 := e4 fo _ (e3 fo _ h2)
        have t4 : Tu H' (upd H4 fo (.lst (zs ++ [y]))) := (Tu.ex (e3.trans e4)).trans (Tu.lst f4)
        refine ⟨zs ++ [y], some y, rfl, ((e2.trans e3).trans e4).mut hfo, upd_same, ?_, k3.mono t4⟩
        rw [et, step_new hn]
        exact (k2.mono t4).app (.one (hyu.mono t4))
      · have hn : u ∈ (ts.take i).foldl stepD [] := by simpa using z
        refine ⟨zs, some y, rfl, e2.trans e3, e3 fo _ h2, ?_, k3.mono (Tu.ex e3)⟩
        rw [et, step_mem hn]
        exact k2.mono (Tu.ex e3)
    · obtain ⟨zs, o, rfl, e2, h2, k2, _⟩ := h
      rw [hk.len, List.take_length] at k2
      exact s_ret (ev_var (i := 1) rfl) fun H3 e3 => k fo zs H3 hfo (e2.trans e3) (e3 fo _ h2) (k2.mono (Tu.ex e3))
end
end K25
end
section
set_option maxHeartbeats 4000000
namespace K25
open PySem L2 Evl G TM TD
/-! ### lists of lists of told things -/
inductive Lss (H : Hp) : List V → List (List Td) → Prop
  | nil : Lss H [] []
  | cons {q : Addr} {zs : List V} {w : List Td} {vs : List V} {W : List (List Td)} : H q = some (.lst zs) → Ats H zs w → Lss H vs W → Lss H (.ref q :: vs) (w :: W)
theorem Lss.mono {H H' : Hp} (e : Ex H H') {vs : List V} {W : List (List Td)} (h : Lss H vs W) : Lss H' vs W := by
  induction h with
  | nil => exact .nil
  | cons a b _ ih => exact .cons (e _ _ a) (b.mono (Tu.ex e)) ih
theorem Lss.app {H : Hp} {vs us : List V} {W U : List (List Td)} (h : Lss H vs W) (k : Lss H us U) : Lss H (vs ++ us) (W ++ U) := by
  induction h with
  | nil => exact k
  | cons a b _ ih => exact .cons a b ih
theorem Lss.len {H : Hp} {vs : List V} {W : List (List Td)} (h : Lss H vs W) : vs.length = W.length := by
  induction h with
  | nil => rfl
  | cons _ _ _ ih => simp [ih]
theorem Lss.get {H : Hp} {vs : List V} {W : List (List Td)} (h : Lss H vs W) {i : Nat} {v : V} (hv : vs[i]? = some v) : ∃ q zs w, v = .ref q ∧ W[i]? = some w ∧ H q = some (.lst zs) ∧ Ats H zs w := by
  induction h generalizing i with
  | nil => cases hv
  | @cons q zs w vs W a b _ ih =>
    cases i with
    | zero => cases hv; exact ⟨q, zs, w, rfl, rfl, a, b⟩
    | succ i => exact ih hv
noncomputable def RetLw (W : List (List Td)) (H : Hp) (Q : VK) : Prop := ∀ p vs H2, H p = none → Ex H H2 → H2 p = some (.lst vs) → Lss H2 vs W → Q (.ref p) H2
noncomputable def EvLw (te : TE) (σ : L2.St) (H : Hp) (W : List (List Td)) : Prop := ∀ H1, Ex H H1 → ∀ Q : VK, RetLw W H1 Q → te σ H1 Q
noncomputable def SpLw (sp : Sp) (vs : List V) (H : Hp) (W : List (List Td)) : Prop := ∀ H1, Ex H H1 → ∀ Q : VK, RetLw W H1 Q → ∀ E : XK, sp vs H1 Q E
theorem elw_call {σ : L2.St} {H : Hp} {tA : TA} {vs dvs : List V} {sp : Sp} {E : XK} {W : List (List Td)} (h : EvA tA σ H vs) (hs : SpLw sp (vs ++ dvs) H W) : EvLw (tCall sp dvs E tA) σ H W := fun H1 e Q q =>
  h H1 e _ fun H2 e2 => hs H2 (e.trans e2) Q (fun p us H3 hp e3 h3 k3 => q p us H3 (fresh_back e2 hp) (e2.trans e3) h3 k3) E
noncomputable def leafs : Td → Nat
  | .bi w t u => if w = "le" then 1 else leafs t + leafs u
  | _ => 1
theorem way_len : ∀ {t : Td} {w : List Td}, w ∈ waysT t → w.length ≤ leafs t
  | .lf _ _, w, h => by simp [waysT] at h; subst h; simp [leafs]
  | .ov _ _ _, w, h => by simp [waysT] at h; subst h; simp [leafs]
  | .nt _, w, h => by simp [waysT] at h; subst h; simp [leafs]
  | .bi v t u, w, h => by
    have i1 := fun w h => way_len (t := t) (w := w) h
    have i2 := fun w h => way_len (t := u) (w := w) h
    unfold waysT at h
    unfold leafs
    split at h
    · rename_i e
      rw [if_pos e]
      simp at h
      subst h
      simp
    · rename_i e
      rw [if_neg e]
      split at h
      · rcases List.mem_append.mp h with h | h
        · have := i1 _ h; omega
        · have := i2 _ h; omega
      · obtain ⟨x, hx, h⟩ := List.mem_flatMap.mp h
        obtain ⟨y, hy, rfl⟩ := List.mem_map.mp h
        have := i1 _ hx
        have := i2 _ hy
        rw [List.length_append]
        omega
/-- a loop over a list, whatever is done at a turn -/
theorem lp_list {K : PySem.W.Frag} {a : Addr} {xs : List V} {Bd : V → Hp → (Hp → Prop) → Prop} {H1 : Hp} {Qd : Hp → Prop} (Pv : Nat → Hp → Prop) (h0 : Pv 0 H1) (hl : ∀ i H, i ≤ xs.length → Pv i H → SqL K H a xs)
    (hs : ∀ i x H, xs[i]? = some x → Pv i H → Bd x H (Pv (i + 1))) (hd : ∀ H, Pv xs.length H → Qd H) :
    ∃ W : Nat → Nat → Hp → Prop, (∃ m, W 0 m H1) ∧ ∀ i m H, W i m H →
      ((Itl K a).stop i H ∧ Qd H) ∨ ((Itl K a).go i H ∧ ∃ Nx : Hp → Prop, (∀ H', Nx H' → ∃ m', m' < m ∧ W (i + 1) m' H') ∧ ∀ x H', (Itl K a).yld i H x H' → Bd x H' Nx) := by
  refine ⟨fun i m H => m = xs.length - i ∧ i ≤ xs.length ∧ Pv i H, ⟨xs.length, by simp, Nat.zero_le _, h0⟩, ?_⟩
  rintro i m H ⟨rfl, hi, p⟩
  have q := hl i H hi p
  by_cases hlt : i < xs.length
  · refine .inr ⟨⟨xs, xs[i], q, by simp [hlt]⟩, Pv (i + 1), fun H' p' => ⟨xs.length - (i + 1), by omega, rfl, hlt, p'⟩, fun x H' y => ?_⟩
    obtain ⟨e, y⟩ := y
    subst e
    exact hs i x _ (y xs q) p
  · have e : i = xs.length := by omega
    subst e
    exact .inl ⟨⟨xs, q, Nat.le_refl _⟩, hd H p⟩
theorem el_cat2 {σ : L2.St} {H : Hp} {ta tb : TE} {a b : Addr} {xs ys : List V} (ha : Ev ta σ H (.ref a)) (hb : Ev tb σ H (.ref b)) (hs : H a = some (.lst xs)) (ht : H b = some (.lst ys)) (hz : xs.length + ys.length ≤ 100000) : EvL (tOp rCat ta tb) σ H (xs ++ ys) := fun H1 e Q q => ha H1 e _ fun H2 e2 => hb H2 (e.trans e2) _ fun H3 e3 =>
  ⟨a, b, xs, ys, rfl, rfl, ((e.trans e2).trans e3) a _ hs, ((e.trans e2).trans e3) b _ ht, sz_of hz, fun p hp => q p _ (fresh_back (e2.trans e3) hp) ((e2.trans e3).trans (Ex.new hp)) upd_same⟩
noncomputable def wod (H : Hp) (D : Addr) : Hp := fun b => if b = D then none else H b
theorem wod_ex {H : Hp} {D : Addr} : Ex (wod H D) H := fun b o h => by
  unfold wod at h
  split at h
  · cases h
  · exact h
theorem wod_mono {H H' : Hp} {D : Addr} (e : Ex H H') : Ex (wod H D) (wod H' D) := fun b o h => by
  unfold wod at h ⊢
  split at h
  · cases h
  · rename_i hn
    rw [if_neg hn]
    exact e b o h
theorem wod_upd {H : Hp} {D : Addr} {o : HO} : wod (upd H D o) D = wod H D := by
  funext b
  unfold wod
  split
  · rfl
  · rename_i hn
    unfold upd
    rw [if_neg hn]
theorem wod_tu {H : Hp} {D : Addr} {xs : List V} (h : H D = some (.lst xs)) : Tu H (wod H D) := fun b ys hb => by
  unfold wod
  rw [if_neg fun z => by rw [z, h] at hb; cases hb]
  exact hb
theorem yes_of {σ : L2.St} {H : Hp} {A B : Hp → Prop} (h : A H) : tYes σ H fun b H3 => if b = true then A H3 else B H3 := by
  show (if (true : Bool) = true then A H else B H)
  rw [if_pos rfl]
  exact h
theorem elw_lc2 {K : PySem.W.Frag} {H : Hp} {o0 o3 o4 : Option V} {a b : Addr} {vs us : List V} {W U : List (List Td)} (ha : H a = some (.lst vs)) (hb : H b = some (.lst us)) (kv : Lss H vs W) (ku : Lss H us U)
    (hlen : ∀ x ∈ W, ∀ y ∈ U, x.length + y.length ≤ 100000) (hz : W.length * U.length < 100000) :
    EvLw (tLc2 (iList K (tVar 1)) (gName 3) tYes (iList K (tVar 2)) (gName 4) tYes (tOp rCat (tVar 3) (tVar 4)) [3, 4] [4]) [o0, some (.ref a), some (.ref b), o3, o4] H (W.flatMap fun x => U.map fun y => x ++ y) := by
  intro H0 e Q q
  unfold tLc2
  show tVar 1 _ H0 _
  refine (ev_var (i := 1) rfl : Ev (tVar 1) [o0, some (.ref a), some (.ref b), o3, o4] H (.ref a)) H0 e _ fun H1 e1 => ⟨a, rfl, ⟨vs, sq_of ((e.trans e1) a _ ha)⟩, fun D hD => ?_⟩
  have e01 := e.trans e1
  have flen : ∀ (n : Nat), ((W.take n).flatMap fun x => U.map fun y => x ++ y).length = (W.take n).length * U.length := fun n => len_flat (fun x => U.map fun y => x ++ y) (n := U.length) (fun x => by rw [List.length_map]) _
  refine lp_list (xs := vs) (H1 := upd H1 D (.lst [])) (Qd := fun H => Q (.ref D) H) (fun i H' => i ≤ W.length ∧ ∃ acc, Ex H1 H' ∧ H' D = some (.lst acc) ∧ Lss (wod H' D) acc ((W.take i).flatMap fun x => U.map fun y => x ++ y)) ⟨Nat.zero_le _, [], Ex.new hD, upd_same, by rw [List.take_zero]; exact .nil⟩ (fun i H' _ h => by obtain ⟨_, _, e', _⟩ := h; exact sq_of (e' a _ (e01 a _ ha))) (fun i v H' hv h => ?_) (fun H' h => ?_)
  · obtain ⟨hi, acc, e', hD', k'⟩ := h
    have eH := e01.trans e'
    obtain ⟨qa, zs, wv, rfl, hw, hqa, kz⟩ := (kv.mono eH).get hv
    refine ⟨rfl, ?_⟩
    refine yes_of ?_
    show tVar 2 _ H' _
    refine (ev_var (i := 2) rfl : Ev (tVar 2) [o0, some (.ref a), some (.ref b), some (.ref qa), none] H' (.ref b)) H' (Ex.refl _) _ fun H4 e4 => ⟨b, rfl, ⟨us, sq_of ((eH.trans e4) b _ hb)⟩, ?_⟩
    have hi1 : i < W.length := (List.getElem?_eq_some_iff.mp hw).1
    have et : (W.take (i + 1)).flatMap (fun x => U.map fun y => x ++ y) = ((W.take i).flatMap fun x => U.map fun y => x ++ y) ++ U.map fun y => wv ++ y := by
      have : W.take (i + 1) = W.take i ++ [wv] := by rw [List.take_add_one, hw] <;> rfl
      rw [this, List.flatMap_append]
      simp
    refine lp_list (xs := us) (H1 := H4) (fun j H5 => j ≤ U.length ∧ ∃ acc', Ex H1 H5 ∧ H5 D = some (.lst acc') ∧ Lss (wod H5 D) acc' (((W.take i).flatMap fun x => U.map fun y => x ++ y) ++ (U.take j).map fun y => wv ++ y)) ⟨Nat.zero_le _, acc, e'.trans e4, e4 D _ hD', by rw [List.take_zero, List.map_nil, List.append_nil]; exact k'.mono (wod_mono e4)⟩ (fun j H5 _ h => by obtain ⟨_, _, e5, _⟩ := h; exact sq_of (e5 b _ (e01 b _ hb))) (fun j y H5 hy h => ?_) (fun H5 h => ?_)
    · obtain ⟨hj, acc', e5, hD5, k5⟩ := h
      have eH5 := e01.trans e5
      obtain ⟨qb, ws, wu, rfl, hu, hqb, kw⟩ := (ku.mono eH5).get hy
      obtain ⟨qa2, zs2, wv2, eqa, hw2, hqa5, kz5⟩ := (kv.mono eH5).get hv
      cases eqa
      rw [hw] at hw2
      cases hw2
      have hj1 : j < U.length := (List.getElem?_eq_some_iff.mp hu).1
      refine ⟨rfl, ?_⟩
      refine yes_of ?_
      refine el_cat2 (σ := [o0, some (.ref a), some (.ref b), some (.ref qa), some (.ref qb)]) (ev_var (i := 3) rfl) (ev_var (i := 4) rfl) hqa5 hqb (by rw [kz5.len, kw.len]; exact hlen _ (List.mem_of_getElem? hw) _ (List.mem_of_getElem? hu)) H5 (Ex.refl _) _ fun p H6 hp e6 h6 => ⟨acc', e6 D _ hD5, ?_, hj1, acc' ++ [.ref p], (e5.trans e6).mut hD, upd_same, ?_⟩
      · refine Nat.lt_of_lt_of_le (m := 100000) ?_ (sz_of (Nat.le_refl _))
        rw [k5.len, List.length_append, flen, List.length_map, List.length_take, List.length_take]
        have h1 : min i W.length * U.length + min j U.length < (i + 1) * U.length := by
          rw [Nat.min_eq_left (by omega), Nat.min_eq_left (by omega), Nat.succ_mul]
          omega
        have h2 : (i + 1) * U.length ≤ W.length * U.length := Nat.mul_le_mul_right _ hi1
        omega
      · have t6 : Tu H6 (wod H6 D) := wod_tu (e6 D _ hD5)
        have hpD : p ≠ D := fun z => by rw [z, hD5] at hp; cases hp
        have ew : (U.take (j + 1)).map (fun y => wv ++ y) = (U.take j).map (fun y => wv ++ y) ++ [wv ++ wu] := by
          rw [show U.take (j + 1) = U.take j ++ [wu] from by rw [List.take_add_one, hu] <;> rfl, List.map_append]
          rfl
        rw [wod_upd, ew, ← List.append_assoc]
        refine (k5.mono (wod_mono e6)).app (.cons (zs := zs2 ++ ws) ?_ ?_ .nil)
        · unfold wod
          rw [if_neg hpD]
          exact h6
        · exact (kz5.mono ((Tu.ex e6).trans t6)).app (kw.mono ((Tu.ex e6).trans t6))
    · obtain ⟨_, acc', e5, hD5, k5⟩ := h
      refine ⟨hi1, acc', e5, hD5, ?_⟩
      rw [et]
      have hl : us.length = U.length := ku.len
      rw [hl, List.take_length] at k5
      exact k5
  · obtain ⟨_, acc, e', hD', k'⟩ := h
    rw [kv.len, List.take_length] at k'
    exact q D acc H' (fresh_back e1 hD) (e1.trans e') hD' (k'.mono wod_ex)
section
variable {P : Program} {w : World} {K : PySem.W.Frag} {mg : Str → Option Value} {base : Heap} {C SZ SY : Addr}
noncomputable def sp_aw (n : Nat) : Sp := fun vs H Q _ => ∃ x t, vs = [x] ∧ At H x t ∧ Pu t ∧ depth t < n ∧ manyW t ≤ 1000 ∧ leafs t ≤ 1000 ∧ RetLw (waysT t) H Q
theorem elw_aw {n : Nat} {H : Hp} {x : V} {t : Td} (h : At H x t) (hs : Pu t) (hd : depth t < n) (hm : manyW t ≤ 1000) (hl : leafs t ≤ 1000) : SpLw (sp_aw n) [x] H (waysT t) := fun H1 e Q q E => ⟨x, t, rfl, h.mono (Tu.ex e), hs, hd, hm, hl, q⟩
end
end K25
end
section
set_option maxHeartbeats 4000000
namespace K25
open PySem L2 Evl G TM TD
theorem q_lw2 {K : PySem.W.Frag} {σ : L2.St} {H : Hp} {D : Ends} {tz : TS} {ta tb : TE} {i j : Nat} {W U : List (List Td)} (h1 : EvLw ta σ H W) (h2 : EvLw tb σ H U)
    (k : ∀ p q vs us H2, Ex H H2 → H2 p = some (.lst vs) → Lss H2 vs W → H2 q = some (.lst us) → Lss H2 us U → tz D ((σ.set i (some (.ref p))).set j (some (.ref q))) H2) :
    tSeq (tAsg (tTup (tCons ta (tCons tb tNil))) (gTup K 2 (gCons (gName i) (gCons (gName j) gNil)))) tz D σ H := by
  refine h1 H (Ex.refl H) _ fun p vs H1 hp e1 a1 b1 => h2 H1 e1 _ fun q us H2 hq e2 a2 b2 => ⟨sz_of (by show 2 ≤ 100000; decide), fun u hu => ?_⟩
  have eu := Ex.new (o := .tup [.ref p, .ref q]) hu
  exact ⟨u, [.ref p, .ref q], rfl, st_of upd_same, rfl, _, _, rfl, _, _, rfl, rfl, k p q vs us _ ((e1.trans e2).trans eu) ((e2.trans eu) p _ a1) (b1.mono (e2.trans eu)) (eu q _ a2) (b2.mono eu)⟩
theorem elw_of {σ : L2.St} {H : Hp} {ti : TE} {ys : List V} {ts : List Td} (h : EvL ti σ H ys) (k : Ats H ys ts) : EvLw (tLst (tCons ti tNil)) σ H [ts] := fun H1 e Q q =>
  h H1 e _ fun q0 H2 _ e2 h2 => ⟨sz_of (by show 1 ≤ 100000; decide), fun p hp =>
    q p [.ref q0] _ (fresh_back e2 hp) (e2.trans (Ex.new hp)) upd_same (.cons ((Ex.new hp) q0 _ h2) (k.mono (Tu.ex ((e.trans e2).trans (Ex.new hp)))) .nil)⟩
theorem elw_one {σ : L2.St} {H : Hp} {te : TE} {v : V} {t : Td} (h : Ev te σ H v) (k : At H v t) : EvLw (tLst (tCons (tLst (tCons te tNil)) tNil)) σ H [[t]] := elw_of (el_lst (ea_cons h ea_nil) (by show 1 ≤ 100000; decide)) (.one k)
theorem len_ways {t : Td} : (waysT t).length = manyW t := ways_len t
theorem leaf_le {w : Str} {t u : Td} (hw : w = "and" ∨ w = "or") : leafs (.bi w t u) = leafs t + leafs u := by
  have hne : w ≠ "le" := by rcases hw with e | e <;> (rw [e]; decide)
  show (if w = "le" then 1 else leafs t + leafs u) = _
  rw [if_neg hne]
theorem ways_bi {w : Str} {t u : Td} (hw : w = "and" ∨ w = "or") : waysT (.bi w t u) = if w = "or" then waysT t ++ waysT u else (waysT t).flatMap fun x => (waysT u).map fun y => x ++ y := by
  have hne : w ≠ "le" := by rcases hw with e | e <;> (rw [e]; decide)
  show (if w = "le" then [[Td.bi w t u]] else if w = "or" then waysT t ++ waysT u else (waysT t).flatMap fun x => (waysT u).map fun y => x ++ y) = _
  rw [if_neg hne]
section
variable {P : Program} {w : World} {K : PySem.W.Frag} {mg : Str → Option Value} {base : Heap} {C SZ SY : Addr}
theorem ok__all_ways {f : Addr} {fd : FuncData} (F : Fun K "_all_ways" "_all_ways" s__all_ways f fd) (T : Txt P w K mg C SZ SY) (me : Me K mg "_all_ways" f fd ["saying"]) :
    ∀ n, FnOk P w K mg base CX0 (n + 2) f fd ["saying"] (sp_aw n) := by
  intro n
  induction n with
  | zero => exact ⟨fun vs H Q E h => by obtain ⟨x, t, _, _, _, hd, _⟩ := h; exact absurd hd (Nat.not_lt_zero _), fun A outer s H args us vs Q E _ _ _ _ h => by obtain ⟨x, t, _, _, _, hd, _⟩ := h; exact absurd hd (Nat.not_lt_zero _)⟩
  | succ n ih =>
  have c__all_ways : Cal P w K mg base "_all_ways" f fd ["saying"] (n + 2) (sp_aw n) := ⟨ih, me.mgx, me.kp, me.bd⟩
  refine F.ok (k := n + 2) sc__all_ways (fun vs H Q E h => ?_) (fun cdv A outer s H vs Q E hr h => ?_)
  · obtain ⟨x, t, rfl, _⟩ := h
    rfl
  · obtain ⟨x, t, rfl, ht, hP, hdep, hmw, hlf, k⟩ := h
    refine ⟨_, (pss_cons (ps_if (pt_cmpR (inS (K := K) rfl) (pe_ix (ixT (K := K) rfl) (pv 0) pe_int (fun _ _ => rfl)) (pe_tup (pa_cons pe_str (pa_cons pe_str pa_nil))) (by rfl)) (pss_one (ps_ret (pe_lst (pa_cons (pe_lst (pa_cons (pv 0) pa_nil)) pa_nil)))) pss_nil) (pss_cons (ps_asg (pe_tup (pa_cons (pe_call c__all_ways.ok (hr.mono (by omega)) (by rfl) c__all_ways.mgx c__all_ways.kp c__all_ways.bd .nil pass0 (pa_cons (pe_ix (ixT (K := K) rfl) (pv 0) pe_int (fun _ _ => rfl)) pa_nil)) (pa_cons (pe_call c__all_ways.ok (hr.mono (by omega)) (by rfl) c__all_ways.mgx c__all_ways.kp c__all_ways.bd .nil pass0 (pa_cons (pe_ix (ixT (K := K) rfl) (pv 0) pe_int (fun _ _ => rfl)) pa_nil)) pa_nil))) (pg_tup (by rfl) (pgs_cons (pg_name (i := 1) sc__all_ways.nd rfl (Or.inl rfl)) (pgs_cons (pg_name (i := 2) sc__all_ways.nd rfl (Or.inr rfl)) pgs_nil)))) (pss_cons (ps_if (pt_cmpR op_eq (pe_ix (ixT (K := K) rfl) (pv 0) pe_int (fun _ _ => rfl)) pe_str (nomark _)) (pss_one (ps_ret (pe_op op_cat (pv 1) (pv 2)))) pss_nil) (pss_one (ps_ret (pe_lc2 (own := [("way", 3), ("other", 4)]) (vs1 := [4]) (g := (gName 3)) (g1 := (gName 4)) (by rfl) sc__all_ways.nd (piL (K := K) rfl (pv 1)) (blkOk_by (own := [("way", 3), ("other", 4)]) (N := ["saying", "first", "second", "way", "other"]) (sc := defScope s__all_ways) (by decide +kernel)) (by decide) (fun _ _ _ _ _ => (pg_name (i := 3) sc__all_ways.nd rfl (Or.inl rfl))) (fun _ _ _ _ _ => pts_nil) (fun _ _ _ _ _ => (piL (K := K) rfl (pv 2))) (fun _ _ _ _ _ => (pg_name (i := 4) sc__all_ways.nd rfl (Or.inl rfl))) (fun _ _ _ _ _ => pts_nil) (fun _ _ _ _ _ => (pe_op op_cat (pv 3) (pv 4))))))))), ?_⟩
    have one : decide (word t ∈ (["le", "not"] : List Str)) = true → waysT t = [[t]] := by
      intro z
      cases t with
      | lf _ _ => exact hP.elim
      | ov _ _ _ => exact hP.elim
      | nt t => rfl
      | bi w t u =>
        rcases hP with ⟨e, _⟩ | ⟨e | e, _⟩
        · subst e; rfl
        · subst e; exact absurd z (show ¬ decide (("and" : Str) ∈ (["le", "not"] : List Str)) = _ by decide)
        · subst e; exact absurd z (show ¬ decide (("or" : Str) ∈ (["le", "not"] : List Str)) = _ by decide)
    refine q_when (b := decide (word t ∈ (["le", "not"] : List Str))) (et_test (ev_inW (K := K) (x := word t) ["le", "not"] (ev_wordA (K := K) (ev_var rfl) ht) (ea_cons ev_c (ea_cons ev_c ea_nil)) (by decide))) (fun z H1 e1 => ?_) (fun z H1 e1 => ?_)
    · rw [one z] at k
      exact elw_one (ev_var (i := 0) rfl) (ht.mono (Tu.ex e1)) H1 (Ex.refl _) _ fun p vs H2 hp e2 h2 k2 => k p vs H2 (fresh_back e1 hp) (e1.trans e2) h2 k2
    · cases t with
      | lf _ _ => exact hP.elim
      | ov _ _ _ => exact hP.elim
      | nt t => exact absurd z (show ¬ decide (("not" : Str) ∈ (["le", "not"] : List Str)) = _ by decide)
      | bi w t u =>
        rcases hP with ⟨e, _⟩ | ⟨hw, h1, h2⟩
        · subst e; exact absurd z (show ¬ decide (("le" : Str) ∈ (["le", "not"] : List Str)) = _ by decide)
        · have hm := Nat.lt_of_succ_lt_succ hdep
          obtain ⟨a, y, y2, rfl, ha, hy, hz⟩ := ht
          have hl := leaf_le (t := t) (u := u) hw
          have m1 := (many_le (t := t) (u := u) hw).1
          have m2 := (many_le (t := t) (u := u) hw).2
          refine q_lw2 (K := K) (i := 1) (j := 2) (elw_call (ea_cons (ev_at1 (K := K) (ev_var rfl) (e1 a _ ha)) ea_nil) (elw_aw (hy.mono (Tu.ex e1)) h1 (by omega) (by omega) (by omega))) (elw_call (ea_cons (ev_at2 (K := K) (ev_var rfl) (e1 a _ ha)) ea_nil) (elw_aw (hz.mono (Tu.ex e1)) h2 (by omega) (by omega) (by omega))) fun p q vs us H2 e2 hp kp hq kq => ?_
          have a2 : At H2 (.ref a) (.bi w t u) := ⟨a, y, y2, rfl, (e1.trans e2) a _ ha, hy.mono (Tu.ex (e1.trans e2)), hz.mono (Tu.ex (e1.trans e2))⟩
          have e12 := e1.trans e2
          rw [ways_bi hw] at k
          refine q_when (b := decide (w = "or")) (et_is (et_test (ev_op (ev_wordA (K := K) (ev_var rfl) a2) ev_c (rv_eq rfl))) (dec_str _ _)) (fun z H3 e3 => ?_) (fun z H3 e3 => ?_)
          · rw [if_pos (of_decide_eq_true z)] at k
            refine s_retL (el_cat2 (ev_var (i := 1) rfl) (ev_var (i := 2) rfl) (e3 p _ hp) (e3 q _ hq) (by rw [kp.len, kq.len, len_ways, len_ways]; omega)) fun r H4 hr4 e4 h4 => k r (vs ++ us) H4 (fresh_back (e12.trans e3) hr4) ((e12.trans e3).trans e4) h4 ((kp.mono (e3.trans e4)).app (kq.mono (e3.trans e4)))
          · rw [if_neg (of_decide_eq_false z)] at k
            have hmm : manyW (.bi w t u) = manyW t * manyW u := by rw [many_bi hw, if_neg (of_decide_eq_false z)]
            exact elw_lc2 (e3 p _ hp) (e3 q _ hq) (kp.mono e3) (kq.mono e3) (fun x hx y hy => by have := way_len hx; have := way_len hy; omega) (by rw [len_ways, len_ways, ← hmm]; omega) H3 (Ex.refl _) _ fun r ws H4 hr4 e4 h4 k4 => k r ws H4 (fresh_back (e12.trans e3) hr4) ((e12.trans e3).trans e4) h4 k4
end
end K25
end
section
set_option maxHeartbeats 4000000
namespace K25
open PySem L2 Evl G TM TD
section
variable {P : Program} {w : World} {K : PySem.W.Frag} {mg : Str → Option Value} {base : Heap} {C SZ SY : Addr}
/-! ### just that truth -/
noncomputable def sp_just : Sp := fun vs H Q _ => ∃ a b : Bool, vs = [.bl a, .bl b] ∧ RetV (.bl (decide (a = b))) H Q
theorem spv_just {H : Hp} {a b : Bool} : SpV sp_just [.bl a, .bl b] H (.bl (decide (a = b))) := fun H1 e Q q E => ⟨a, b, rfl, q⟩
theorem ok_is_just {f : Addr} {fd : FuncData} (F : Fun K "_law_is_just" "_law_is_just" s__law_is_just f fd) (T : Txt P w K mg C SZ SY) : FnOk P w K mg base CX0 1 f fd ["_law_told", "_law_due"] sp_just := by
  refine F.ok sc__law_is_just (fun vs H Q E h => ?_) (fun cdv A outer s H vs Q E hr h => ?_)
  · obtain ⟨a, b, rfl, _⟩ := h
    rfl
  · obtain ⟨a, b, rfl, k⟩ := h
    refine ⟨_, (pss_one (ps_ret (pe_and (pe_callB (isiS (K := K) rfl) (by rfl) T.b_isinstance (by decide +kernel) (pa_cons (pv 0) (pa_cons (pe_bltn (v := .ty "bool") (u := .type "bool") (by rfl) T.b_bool (by decide +kernel) rfl) pa_nil))) (pe_one (pe_cmpR op_eq (pv 0) (pv 1) (nomark _)))))), ?_⟩
    refine s_ret (v := .bl (decide (a = b))) (ev_is (ev_andV (a := true) (b := decide (V.bl a = V.bl b)) (ev_isiB (b := true) (ev_var rfl) (fun _ _ => .base (.bl a)) (by decide +kernel)) fun _ => ev_op (ev_var rfl) (ev_var rfl) (rv_eq rfl)) ?_) k
    cases a <;> cases b <;> rfl
end
end K25
end
section
set_option maxHeartbeats 4000000
namespace K25
open PySem L2 Evl G TM TD
open Classical
theorem el_if {σ : L2.St} {H : Hp} {tt : TT} {ta tb : TE} {xs : List V} {b : Bool} (h : EvT tt σ H b) (h1 : b = true → EvL ta σ H xs) (h2 : b = false → EvL tb σ H xs) : EvL (tIf tt ta tb) σ H xs := fun H1 e Q q => h H1 e _ fun H2 e2 => by
  cases b with
  | true => exact h1 rfl H2 (e.trans e2) Q fun p H3 hp e3 a => q p H3 (fresh_back e2 hp) (e2.trans e3) a
  | false => exact h2 rfl H2 (e.trans e2) Q fun p H3 hp e3 a => q p H3 (fresh_back e2 hp) (e2.trans e3) a
theorem s_extL {K : PySem.W.Frag} {σ : L2.St} {H : Hp} {D : Ends} {ta te : TE} {l : Addr} {xs ys : List V} (hl : H l = some (.lst xs)) (ha : Ev ta σ H (.ref l)) (h : EvL te σ H ys) (hz : xs.length + ys.length ≤ 100000) (k : ∀ H1, Ex H H1 → D.nx σ (upd H1 l (.lst (xs ++ ys)))) :
    tDrop (tBM K "list" rExtend ta (tCons te tNil)) D σ H := ha H (Ex.refl H) _ fun H1 e1 =>
  ⟨Or.inl ⟨rfl, xs, sq_of (e1 l _ hl)⟩, h H1 e1 _ fun p H2 hp e2 h2 => ⟨l, p, xs, ys, rfl, rfl, e2 l _ (e1 l _ hl), h2, sz_of hz, k H2 (e1.trans e2)⟩⟩
/-- both.extend([l] if l not in both else []) for each l of another list -/
theorem ext_loop {K : PySem.W.Frag} {H : Hp} {D : Ends} {o0 o1 o2 o3 o4 o7 : Option V} {m bo : Addr} {ys zs : List V} {more acc : List Td} (hm : H m = some (.lst ys)) (hk : Ats H ys more) (hb : H bo = some (.lst zs)) (hz : Ats H zs acc) (hne : m ≠ bo)
    (hs : ∀ t ∈ more, Told t ∧ depth t ≤ 50) (ha : ∀ t ∈ acc, Told t ∧ depth t ≤ 50) (hl : acc.length + more.length ≤ 10000)
    (k : ∀ o H' zs', Ex (wod H bo) H' → H' bo = some (.lst zs') → Ats H' zs' (more.foldl stepD acc) → D.nx [o0, o1, o2, o3, o4, some (.ref m), some (.ref bo), o] H') :
    tFor (iList K (tVar 5)) (gName 7) (tDrop (tBM K "list" rExtend (tVar 6) (tCons (tIf (tTest (tOp (rNotInD K) (tVar 7) (tVar 6))) (tLst (tCons (tVar 7) tNil)) (tLst tNil)) tNil))) D [o0, o1, o2, o3, o4, some (.ref m), some (.ref bo), o7] H := by
  have hmw : wod H bo m = some (.lst ys) := by unfold wod; rw [if_neg hne]; exact hm
  have tw : Tu H (wod H bo) := wod_tu hb
  refine s_forL (ev_var rfl) (sq_of hm) (fun i σ' H' => ∃ (zs' : List V) (o : Option V), σ' = [o0, o1, o2, o3, o4, some (.ref m), some (.ref bo), o] ∧ Ex (wod H bo) H' ∧ H' bo = some (.lst zs') ∧ Ats H' zs' ((more.take i).foldl stepD acc))
    (fun H2 e2 => ⟨zs, o7, rfl, wod_ex.trans e2, e2 bo _ hb, by rw [List.take_zero]; exact hz.mono (Tu.ex e2)⟩) (fun i σ' H' _ h => by obtain ⟨_, _, _, e, _⟩ := h; exact sq_of (e m _ hmw)) (fun i y σ' H' hi h => ?_) (fun σ' H' h => ?_)
  · obtain ⟨zs', o, rfl, e2, h2, k2⟩ := h
    obtain ⟨u, hu, hyu⟩ := (hk.mono (tw.trans (Tu.ex e2))).get hi
    have hmu := List.mem_of_getElem? hu
    have et : (more.take (i + 1)).foldl stepD acc = stepD ((more.take i).foldl stepD acc) u := by
      have : more.take (i + 1) = more.take i ++ [u] := by rw [List.take_add_one, hu] <;> rfl
      rw [this, List.foldl_append]
      rfl
    have hsub : ∀ x ∈ (more.take i).foldl stepD acc, Told x ∧ depth x ≤ 50 := fun x hx => by
      rcases mem_fold.mp hx with h | h
      · exact ha x h
      · exact hs x (List.mem_of_mem_take h)
    have hl1 : zs'.length ≤ 10000 := by
      rw [k2.len]
      have := fold_len acc (more.take i)
      rw [List.length_take] at this
      omega
    show tDrop _ _ [o0, o1, o2, o3, o4, some (.ref m), some (.ref bo), some y] H'
    refine s_extL (xs := zs') (ys := if u ∈ (more.take i).foldl stepD acc then [] else [y]) h2 (ev_var rfl) (el_if (b := !decide (u ∈ (more.take i).foldl stepD acc)) (et_test (ev_niTd (K := K) (ev_var rfl) (ev_var rfl) hyu h2 k2 (hs u hmu) hsub)) (fun z => ?_) (fun z => ?_)) ?_ fun H3 e3 => ?_
    · rw [if_neg (by simpa using z)]
      exact el_lst (ea_cons (ev_var rfl) ea_nil) (by show 1 ≤ 100000; decide)
    · rw [if_pos (by simpa using z)]
      exact el_lst ea_nil (by show 0 ≤ 100000; decide)
    · split <;> (simp only [List.length_nil, List.length_singleton]; omega)
    · have t3 : Tu H' (upd H3 bo (.lst (zs' ++ if u ∈ (more.take i).foldl stepD acc then [] else [y]))) := (Tu.ex e3).trans (Tu.lst (e3 bo _ h2))
      refine ⟨_, some y, rfl, ?_, upd_same, ?_⟩
      · exact (e2.trans e3).mut (by unfold wod; rw [if_pos rfl])
      · rw [et]
        by_cases hin : u ∈ (more.take i).foldl stepD acc
        · rw [if_pos hin, List.append_nil, step_mem hin]
          rw [if_pos hin, List.append_nil] at t3
          exact k2.mono t3
        · rw [if_neg hin, step_new hin]
          rw [if_neg hin] at t3
          exact (k2.mono t3).app (.one (hyu.mono t3))
  · obtain ⟨zs', o, rfl, e2, h2, k2⟩ := h
    rw [hk.len, List.take_length] at k2
    exact k o H' zs' e2 h2 k2
end K25
end
section
set_option maxHeartbeats 4000000
namespace K25
open PySem L2 Evl G TM TD
open Classical
theorem wod_new {H H1 H2 : Hp} {b : Addr} (e1 : Ex H H1) (hb : H b = none) (e2 : Ex (wod H1 b) H2) : Ex H H2 := fun c o h => e2 c o (by
  unfold wod
  rw [if_neg fun z => by rw [z, hb] at h; cases h]
  exact e1 c o h)
theorem wod_keep {H H2 : Hp} {b c : Addr} {o : HO} (e2 : Ex (wod H b) H2) (hn : c ≠ b) (h : H c = some o) : H2 c = some o := e2 c o (by
  unfold wod
  rw [if_neg hn]
  exact h)
noncomputable def tCopy (K : PySem.W.Frag) (i : Nat) : TE := tCB (fun xs H Q => ∃ p ys, xs = [.ref p] ∧ (SqL K H p ys ∨ SqT K H p ys) ∧ ∀ l, H l = none → Q (.ref l) (upd H l (.lst ys))) (tCons (tVar i) tNil)
/-- a way, joined with each way of the other list -/
theorem mid_loop {K : PySem.W.Frag} {H : Hp} {D : Ends} {o0 o1 o5 o6 o7 : Option V} {p2 fo wy : Addr} {us ws fs : List V} {U acc : List (List Td)} {wv : List Td} (hp : H p2 = some (.lst us)) (hk : Lss H us U) (hw : H wy = some (.lst ws)) (kw : Ats H ws wv) (hf : H fo = some (.lst fs)) (ka : Lss (wod H fo) fs acc)
    (ku : Lss (wod H fo) us U) (hnp : p2 ≠ fo) (hnw : wy ≠ fo) (hs : ∀ y ∈ U, ∀ t ∈ y, Told t ∧ depth t ≤ 50) (ha : ∀ t ∈ wv, Told t ∧ depth t ≤ 50) (hl : ∀ y ∈ U, wv.length + y.length ≤ 10000) (hz : acc.length + U.length ≤ 10000)
    (k : ∀ r5 r6 r7 H' fs', Ex (wod H fo) H' → H' fo = some (.lst fs') → Lss (wod H' fo) fs' (acc ++ U.map fun y => y.foldl stepD wv) → D.nx [o0, o1, some (.ref p2), some (.ref fo), some (.ref wy), r5, r6, r7] H') :
    tFor (iList K (tVar 2)) (gName 5) (tSeq (tAsg (tCopy K 4) (gName 6)) (tSeq (tFor (iList K (tVar 5)) (gName 7) (tDrop (tBM K "list" rExtend (tVar 6) (tCons (tIf (tTest (tOp (rNotInD K) (tVar 7) (tVar 6))) (tLst (tCons (tVar 7) tNil)) (tLst tNil)) tNil)))) (tDrop (tBM K "list" rAppend (tVar 3) (tCons (tVar 6) tNil))))) D [o0, o1, some (.ref p2), some (.ref fo), some (.ref wy), o5, o6, o7] H := by
  refine s_forL (ev_var rfl) (sq_of hp) (fun i σ' H' => ∃ (fs' : List V) (r5 r6 r7 : Option V), σ' = [o0, o1, some (.ref p2), some (.ref fo), some (.ref wy), r5, r6, r7] ∧ Ex (wod H fo) H' ∧ H' fo = some (.lst fs') ∧ Lss (wod H' fo) fs' (acc ++ (U.take i).map fun y => y.foldl stepD wv))
    (fun H2 e2 => ⟨fs, o5, o6, o7, rfl, wod_ex.trans e2, e2 fo _ hf, by rw [List.take_zero, List.map_nil, List.append_nil]; exact ka.mono (wod_mono e2)⟩) (fun i σ' H' _ h => by obtain ⟨_, _, _, _, _, e, _⟩ := h; exact sq_of (wod_keep e hnp hp)) (fun i y σ' H' hi h => ?_) (fun σ' H' h => ?_)
  · obtain ⟨fs', r5, r6, r7, rfl, e2, h2, k2⟩ := h
    obtain ⟨q, zs, yv, rfl, hu, hq, kq⟩ := (ku.mono e2).get hi
    have hmu := List.mem_of_getElem? hu
    show tSeq _ _ _ [o0, o1, some (.ref p2), some (.ref fo), some (.ref wy), some (.ref q), r6, r7] H'
    have hw2 : H' wy = some (.lst ws) := wod_keep e2 hnw hw
    have tw : Tu H H' := (wod_tu hf).trans (Tu.ex e2)
    refine q_asgL (el_cb (ea_cons (ev_var (i := 4) rfl) ea_nil) (rc_list (.inl (sq_of hw2)))) fun bo H3 hbo e3 h3 => ?_
    show tSeq _ _ _ [o0, o1, some (.ref p2), some (.ref fo), some (.ref wy), some (.ref q), some (.ref bo), r7] H3
    refine ext_loop (e3 q _ hq) (kq.mono (Tu.ex e3)) h3 (kw.mono (tw.trans (Tu.ex e3))) (fun z => by rw [z, hbo] at hq; cases hq) (hs yv hmu) ha (hl yv hmu) fun o H4 zs' e4 h4 k4 => ?_
    have e34 : Ex H' H4 := wod_new e3 hbo e4
    have hfl : fs'.length ≤ 10000 := by
      rw [k2.len, List.length_append, List.length_map, List.length_take]
      omega
    refine s_app (e34 fo _ h2) (ev_var (i := 3) rfl) (ev_var (i := 6) rfl) (by omega) fun H5 e5 => ?_
    have f5 := e5 fo _ (e34 fo _ h2)
    have hbf : bo ≠ fo := fun z => by rw [z, h2] at hbo; cases hbo
    have t5 : Tu H5 (wod H5 fo) := wod_tu f5
    refine ⟨fs' ++ [.ref bo], some (.ref q), some (.ref bo), o, rfl, ?_, upd_same, ?_⟩
    · exact ((e2.trans e34).trans e5).mut (by unfold wod; rw [if_pos rfl])
    · have ew : (U.take (i + 1)).map (fun y => y.foldl stepD wv) = (U.take i).map (fun y => y.foldl stepD wv) ++ [yv.foldl stepD wv] := by
        rw [show U.take (i + 1) = U.take i ++ [yv] from by rw [List.take_add_one, hu] <;> rfl, List.map_append]
        rfl
      rw [wod_upd, ew, ← List.append_assoc]
      refine (k2.mono (wod_mono (e34.trans e5))).app (.cons (zs := zs') ?_ (k4.mono ((Tu.ex e5).trans t5)) .nil)
      unfold wod
      rw [if_neg hbf]
      exact e5 bo _ h4
  · obtain ⟨fs', r5, r6, r7, rfl, e2, h2, k2⟩ := h
    rw [hk.len, List.take_length] at k2
    exact k r5 r6 r7 H' fs' e2 h2 k2
end K25
end
section
set_option maxHeartbeats 4000000
namespace K25
open PySem L2 Evl G TM TD
open Classical
theorem way_in : ∀ {t : Td}, Pu t → ∀ w ∈ waysT t, ∀ l ∈ w, IsS l ∧ depth l ≤ depth t
  | .lf _ _, h => h.elim
  | .ov _ _ _, h => h.elim
  | .nt t, h => fun w hw l hl => by
    simp [waysT] at hw
    subst hw
    simp at hl
    subst hl
    exact ⟨h.s, Nat.le_refl _⟩
  | .bi v t u, h => fun w hw l hl => by
    have hs : IsS (.bi v t u) := Pu.s h
    rcases h with ⟨e, _⟩ | ⟨hv, h1, h2⟩
    · subst e
      have : waysT (.bi "le" t u) = [[.bi "le" t u]] := rfl
      rw [this] at hw
      simp at hw
      subst hw
      simp at hl
      subst hl
      exact ⟨hs, Nat.le_refl _⟩
    · have d1 : depth t ≤ depth (.bi v t u) := by show _ ≤ max (depth t) (depth u) + 1; omega
      have d2 : depth u ≤ depth (.bi v t u) := by show _ ≤ max (depth t) (depth u) + 1; omega
      rw [ways_bi hv] at hw
      split at hw
      · rcases List.mem_append.mp hw with hw | hw
        · have := way_in h1 w hw l hl; exact ⟨this.1, by omega⟩
        · have := way_in h2 w hw l hl; exact ⟨this.1, by omega⟩
      · obtain ⟨x, hx, hw⟩ := List.mem_flatMap.mp hw
        obtain ⟨y, hy, rfl⟩ := List.mem_map.mp hw
        rcases List.mem_append.mp hl with hl | hl
        · have := way_in h1 x hx l hl; exact ⟨this.1, by omega⟩
        · have := way_in h2 y hy l hl; exact ⟨this.1, by omega⟩
theorem law_in {t : Td} (h : Pu t) (hd : depth t ≤ 50) : ∀ w ∈ lawW t, (∀ l ∈ w, Told l ∧ depth l ≤ 50) ∧ w.length ≤ leafs t := fun w hw => by
  rw [law_ways] at hw
  obtain ⟨x, hx, rfl⟩ := List.mem_map.mp hw
  refine ⟨fun l hl => ?_, ?_⟩
  · have := way_in h x hx l (mem_dedup.mp hl)
    exact ⟨.inr this.1, by omega⟩
  · have h1 := fold_len [] x
    have h2 := way_len hx
    simp only [List.length_nil] at h1
    show (x.foldl stepD []).length ≤ _
    omega
theorem law_len {t : Td} : (lawW t).length = manyW t := by rw [law_ways, List.length_map, ways_len]
theorem law_bi {w : Str} {t u : Td} (hw : w = "and" ∨ w = "or") : lawW (.bi w t u) = if w = "or" then lawW t ++ lawW u else (lawW t).flatMap fun x => (lawW u).map fun y => y.foldl stepD x := by
  have hne : w ≠ "le" := by rcases hw with e | e <;> (rw [e]; decide)
  show (if w = "le" then [[Td.bi w t u]] else if w = "or" then lawW t ++ lawW u else (lawW t).flatMap fun x => (lawW u).map fun y => y.foldl stepD x) = _
  rw [if_neg hne]
theorem wod_sub {H H' : Hp} {D : Addr} (e : Ex (wod H D) H') : Ex (wod H D) (wod H' D) := fun c o h => by
  have hn : c ≠ D := fun z => by rw [z] at h; unfold wod at h; rw [if_pos rfl] at h; cases h
  have := e c o h
  unfold wod
  rw [if_neg hn]
  exact this
theorem wod_of {H H' : Hp} {D : Addr} (e : Ex H H') (hn : H D = none) : Ex H (wod H' D) := fun c o h => by
  unfold wod
  rw [if_neg fun z => by rw [z, hn] at h; cases h]
  exact e c o h
theorem q_lpar {σ : L2.St} {H : Hp} {D : Ends} {tz : TS} {ta tb : TE} {i j : Nat} {W U : List (List Td)} (h1 : EvLw ta σ H W) (h2 : EvLw tb σ H U)
    (k : ∀ p q vs us H2, Ex H H2 → H2 p = some (.lst vs) → Lss H2 vs W → H2 q = some (.lst us) → Lss H2 us U → tz D ((σ.set i (some (.ref p))).set j (some (.ref q))) H2) :
    tSeq (tPar i j (tCons ta (tCons tb tNil))) tz D σ H := by
  refine h1 H (Ex.refl H) _ fun p vs H1 hp e1 a1 b1 => h2 H1 e1 _ fun q us H2 hq e2 a2 b2 => ?_
  exact ⟨_, _, rfl, k p q vs us H2 (e1.trans e2) (e2 p _ a1) (b1.mono e2) a2 b2⟩
section
variable {P : Program} {w : World} {K : PySem.W.Frag} {mg : Str → Option Value} {base : Heap} {C SZ SY : Addr}
noncomputable def sp_lways (n : Nat) : Sp := fun vs H Q _ => ∃ x t, vs = [x] ∧ At H x t ∧ Pu t ∧ depth t < n ∧ manyW t ≤ 1000 ∧ leafs t ≤ 1000 ∧ depth t ≤ 50 ∧ RetLw (lawW t) H Q
theorem elw_lways {n : Nat} {H : Hp} {x : V} {t : Td} (h : At H x t) (hs : Pu t) (hd : depth t < n) (hm : manyW t ≤ 1000) (hl : leafs t ≤ 1000) (h5 : depth t ≤ 50) : SpLw (sp_lways n) [x] H (lawW t) := fun H1 e Q q E => ⟨x, t, rfl, h.mono (Tu.ex e), hs, hd, hm, hl, h5, q⟩
theorem ok_lways {f : Addr} {fd : FuncData} (F : Fun K "_law_ways" "_law_ways" s__law_ways f fd) (T : Txt P w K mg C SZ SY) (me : Me K mg "_law_ways" f fd ["_law_saying_here"]) :
    ∀ n, FnOk P w K mg base CX0 (n + 2) f fd ["_law_saying_here"] (sp_lways n) := by
  intro n
  induction n with
  | zero => exact ⟨fun vs H Q E h => by obtain ⟨x, t, _, _, _, hd, _⟩ := h; exact absurd hd (Nat.not_lt_zero _), fun A outer s H args us vs Q E _ _ _ _ h => by obtain ⟨x, t, _, _, _, hd, _⟩ := h; exact absurd hd (Nat.not_lt_zero _)⟩
  | succ n ih =>
  have c__law_ways : Cal P w K mg base "_law_ways" f fd ["_law_saying_here"] (n + 2) (sp_lways n) := ⟨ih, me.mgx, me.kp, me.bd⟩
  refine F.ok (k := n + 2) sc__law_ways (fun vs H Q E h => ?_) (fun cdv A outer s H vs Q E hr h => ?_)
  · obtain ⟨x, t, rfl, _⟩ := h
    rfl
  · obtain ⟨x, t, rfl, ht, hP, hdep, hmw, hlf, h50, k⟩ := h
    refine ⟨_, (pss_cons (ps_if (pt_cmpR (inS (K := K) rfl) (pe_ix (ixT (K := K) rfl) (pv 0) pe_int (fun _ _ => rfl)) (pe_tup (pa_cons pe_str (pa_cons pe_str pa_nil))) (by rfl)) (pss_one (ps_ret (pe_lst (pa_cons (pe_lst (pa_cons (pv 0) pa_nil)) pa_nil)))) pss_nil) (pss_cons (ps_par (i := 1) (j := 2) (by rfl) sc__law_ways.nd rfl rfl (by decide) rfl rfl (pa_cons (pe_call c__law_ways.ok (hr.mono (by omega)) (by rfl) c__law_ways.mgx c__law_ways.kp c__law_ways.bd .nil pass0 (pa_cons (pe_ix (ixT (K := K) rfl) (pv 0) pe_int (fun _ _ => rfl)) pa_nil)) (pa_cons (pe_call c__law_ways.ok (hr.mono (by omega)) (by rfl) c__law_ways.mgx c__law_ways.kp c__law_ways.bd .nil pass0 (pa_cons (pe_ix (ixT (K := K) rfl) (pv 0) pe_int (fun _ _ => rfl)) pa_nil)) pa_nil)) (by rfl)) (pss_cons (ps_if (pt_cmpR op_eq (pe_ix (ixT (K := K) rfl) (pv 0) pe_int (fun _ _ => rfl)) pe_str (nomark _)) (pss_one (ps_ret (pe_op op_cat (pv 1) (pv 2)))) pss_nil) (pss_cons (ps_set (i := 3) sc__law_ways.nd rfl (Or.inl rfl) (pe_lst pa_nil)) (pss_cons (ps_for PassesOwn.never rfl (piL (K := K) rfl (pv 1)) (pg_name (i := 4) sc__law_ways.nd rfl (Or.inl rfl)) (pss_one (ps_for PassesOwn.never rfl (piL (K := K) rfl (pv 2)) (pg_name (i := 5) sc__law_ways.nd rfl (Or.inl rfl)) (pss_cons (ps_set (i := 6) sc__law_ways.nd rfl (Or.inl rfl) (pe_callTy call_list_of (by rfl) T.b_list (by decide +kernel) (pa_cons (pv 4) pa_nil))) (pss_cons (ps_for PassesOwn.never rfl (piL (K := K) rfl (pv 5)) (pg_name (i := 7) sc__law_ways.nd rfl (Or.inl rfl)) (pss_one (ps_expr (pe_bm PySem.F.plainAttrs_list PySem.F.slot_list_extend PySem.F.type_list_extend mt_extend (pv 6) (pa_cons (pe_ifExp (pt_cmpR (op_notInD (u65 hr)) (pv 7) (pv 6) (by rfl)) (pe_lst (pa_cons (pv 7) pa_nil)) (pe_lst pa_nil)) pa_nil))))) (pss_one (ps_expr (pe_bm PySem.F.plainAttrs_list PySem.F.slot_list_append PySem.F.type_list_append mt_append (pv 3) (pa_cons (pv 6) pa_nil))))))))) (pss_one (ps_ret (pv 3)))))))), ?_⟩
    have one : decide (word t ∈ (["le", "not"] : List Str)) = true → lawW t = [[t]] := by
      intro z
      cases t with
      | lf _ _ => exact hP.elim
      | ov _ _ _ => exact hP.elim
      | nt t => rfl
      | bi w t u =>
        rcases hP with ⟨e, _⟩ | ⟨e | e, _⟩
        · subst e; rfl
        · subst e; exact absurd z (show ¬ decide (("and" : Str) ∈ (["le", "not"] : List Str)) = _ by decide)
        · subst e; exact absurd z (show ¬ decide (("or" : Str) ∈ (["le", "not"] : List Str)) = _ by decide)
    refine q_when (b := decide (word t ∈ (["le", "not"] : List Str))) (et_test (ev_inW (K := K) (x := word t) ["le", "not"] (ev_wordA (K := K) (ev_var rfl) ht) (ea_cons ev_c (ea_cons ev_c ea_nil)) (by decide))) (fun z H1 e1 => ?_) (fun z H1 e1 => ?_)
    · rw [one z] at k
      exact elw_one (ev_var (i := 0) rfl) (ht.mono (Tu.ex e1)) H1 (Ex.refl _) _ fun p vs H2 hp e2 h2 k2 => k p vs H2 (fresh_back e1 hp) (e1.trans e2) h2 k2
    · cases t with
      | lf _ _ => exact hP.elim
      | ov _ _ _ => exact hP.elim
      | nt t => exact absurd z (show ¬ decide (("not" : Str) ∈ (["le", "not"] : List Str)) = _ by decide)
      | bi w t u =>
        rcases hP with ⟨e, _⟩ | ⟨hw, h1, h2⟩
        · subst e; exact absurd z (show ¬ decide (("le" : Str) ∈ (["le", "not"] : List Str)) = _ by decide)
        · have hm := Nat.lt_of_succ_lt_succ hdep
          have dd : depth (.bi w t u) = max (depth t) (depth u) + 1 := rfl
          obtain ⟨a, y, y2, rfl, ha, hy, hz⟩ := ht
          have hl := leaf_le (t := t) (u := u) hw
          have m1 := (many_le (t := t) (u := u) hw).1
          have m2 := (many_le (t := t) (u := u) hw).2
          refine q_lpar (i := 1) (j := 2) (elw_call (ea_cons (ev_at1 (K := K) (ev_var rfl) (e1 a _ ha)) ea_nil) (elw_lways (hy.mono (Tu.ex e1)) h1 (by omega) (by omega) (by omega) (by omega))) (elw_call (ea_cons (ev_at2 (K := K) (ev_var rfl) (e1 a _ ha)) ea_nil) (elw_lways (hz.mono (Tu.ex e1)) h2 (by omega) (by omega) (by omega) (by omega))) fun p q vs us H2 e2 hp kp hq kq => ?_
          have a2 : At H2 (.ref a) (.bi w t u) := ⟨a, y, y2, rfl, (e1.trans e2) a _ ha, hy.mono (Tu.ex (e1.trans e2)), hz.mono (Tu.ex (e1.trans e2))⟩
          have e12 := e1.trans e2
          rw [law_bi hw] at k
          refine q_when (b := decide (w = "or")) (et_is (et_test (ev_op (ev_wordA (K := K) (ev_var rfl) a2) ev_c (rv_eq rfl))) (dec_str _ _)) (fun z H3 e3 => ?_) (fun z H3 e3 => ?_)
          · rw [if_pos (of_decide_eq_true z)] at k
            refine s_retL (el_cat2 (ev_var (i := 1) rfl) (ev_var (i := 2) rfl) (e3 p _ hp) (e3 q _ hq) (by rw [kp.len, kq.len, law_len, law_len]; omega)) fun r H4 hr4 e4 h4 => k r (vs ++ us) H4 (fresh_back (e12.trans e3) hr4) ((e12.trans e3).trans e4) h4 ((kp.mono (e3.trans e4)).app (kq.mono (e3.trans e4)))
          · rw [if_neg (of_decide_eq_false z)] at k
            have hmm : manyW (.bi w t u) = manyW t * manyW u := by rw [many_bi hw, if_neg (of_decide_eq_false z)]
            refine q_asgL (el_lst ea_nil (by show 0 ≤ 100000; decide)) fun fo H4 hfo e4 h4 => ?_
            have eW : Ex H3 (wod H4 fo) := wod_of e4 hfo
            have lw : ∀ x ∈ lawW t, (∀ l ∈ x, Told l ∧ depth l ≤ 50) ∧ x.length ≤ leafs t := law_in h1 (by omega)
            have lu : ∀ x ∈ lawW u, (∀ l ∈ x, Told l ∧ depth l ≤ 50) ∧ x.length ≤ leafs u := law_in h2 (by omega)
            have kpW : Lss (wod H4 fo) vs (lawW t) := (kp.mono e3).mono eW
            have kqW : Lss (wod H4 fo) us (lawW u) := (kq.mono e3).mono eW
            have hpf : p ≠ fo := fun z => by have := e3 p _ hp; rw [z, hfo] at this; cases this
            have hqf : q ≠ fo := fun z => by have := e3 q _ hq; rw [z, hfo] at this; cases this
            have pW := eW p _ (e3 p _ hp)
            have qW := eW q _ (e3 q _ hq)
            refine q_forL (ev_var (i := 1) rfl) (sq_of (e4 p _ (e3 p _ hp))) (fun i σ' H' => ∃ (fs : List V) (r4 r5 r6 r7 : Option V), σ' = [some (.ref a), some (.ref p), some (.ref q), some (.ref fo), r4, r5, r6, r7] ∧ Ex (wod H4 fo) H' ∧ H' fo = some (.lst fs) ∧ Lss (wod H' fo) fs (((lawW t).take i).flatMap fun x => (lawW u).map fun y => y.foldl stepD x))
              (fun H5 e5 => ⟨[], none, none, none, none, rfl, wod_ex.trans e5, e5 fo _ h4, by rw [List.take_zero]; exact .nil⟩) (fun i σ' H' _ h => by obtain ⟨_, _, _, _, _, _, e, _⟩ := h; exact sq_of (e p _ pW)) (fun i v σ' H' hi h => ?_) (fun σ' H' h => ?_)
            · obtain ⟨fs, r4, r5, r6, r7, rfl, e5, h5, k5⟩ := h
              obtain ⟨wy, ws, wv, rfl, hwv, hwy, kwy⟩ := kpW.get hi
              have hmw' := List.mem_of_getElem? hwv
              have hyf : wy ≠ fo := fun z => by rw [z] at hwy; unfold wod at hwy; rw [if_pos rfl] at hwy; cases hwy
              have hi1 : i < (lawW t).length := (List.getElem?_eq_some_iff.mp hwv).1
              have et : ((lawW t).take (i + 1)).flatMap (fun x => (lawW u).map fun y => y.foldl stepD x) = (((lawW t).take i).flatMap fun x => (lawW u).map fun y => y.foldl stepD x) ++ (lawW u).map fun y => y.foldl stepD wv := by
                have : (lawW t).take (i + 1) = (lawW t).take i ++ [wv] := by rw [List.take_add_one, hwv] <;> rfl
                rw [this, List.flatMap_append]
                simp
              have hacc : (((lawW t).take i).flatMap fun x => (lawW u).map fun y => y.foldl stepD x).length + (lawW u).length ≤ 10000 := by
                rw [len_flat (fun x => (lawW u).map fun y => y.foldl stepD x) (n := (lawW u).length) (fun x => by rw [List.length_map]) _, List.length_take, Nat.min_eq_left (by omega)]
                have e1 : (i + 1) * (lawW u).length ≤ (lawW t).length * (lawW u).length := Nat.mul_le_mul_right _ hi1
                rw [law_len, law_len, ← hmm] at e1
                rw [law_len]
                rw [Nat.succ_mul] at e1
                omega
              refine mid_loop (o0 := some (.ref a)) (o1 := some (.ref p)) (e5 q _ qW) (kqW.mono e5) (e5 wy _ hwy) (kwy.mono (Tu.ex e5)) h5 k5 (kqW.mono (wod_sub e5)) hqf hyf (fun y hy => (lu y hy).1) (lw wv hmw').1 (fun y hy => by have := (lu y hy).2; have := (lw wv hmw').2; omega) hacc fun r5 r6 r7 H6 fs' e6 h6 k6 => ⟨fs', some (.ref wy), r5, r6, r7, rfl, (wod_sub e5).trans e6, h6, ?_⟩
              rw [et]
              exact k6
            · obtain ⟨fs, r4, r5, r6, r7, rfl, e5, h5, k5⟩ := h
              rw [kp.len, List.take_length] at k5
              exact s_ret (ev_var (i := 3) rfl) fun H7 e7 => k fo fs H7 (fresh_back (e12.trans e3) hfo) (((e12.trans e3).trans eW).trans (e5.trans e7)) (e7 fo _ h5) ((k5.mono wod_ex).mono e7)
end
end K25
end
section
set_option maxHeartbeats 4000000
namespace K25
open PySem L2 Evl G TM TD
/-! ### what is refused -/
noncomputable def arith : List Value := [.type "ArithmeticError", .type "Exception", .type "BaseException", .type "object"]
theorem sc_TooMany___init__ : FnScope ["self", "what", "limit"] ["self", "what", "limit"] (defScope s_TooMany___init__) := ⟨rfl, rfl, rfl, by decide +kernel, rfl, by decide +kernel, by decide +kernel⟩
theorem sc__law_heard : FnScope ["_law_call", "e"] ["_law_call"] (defScope s__law_heard) := ⟨rfl, rfl, rfl, by decide +kernel, rfl, by decide +kernel, by decide +kernel⟩
/-- the error's class -/
structure Te (K : PySem.W.Frag) (mg : Str → Option Value) (CT fT : Addr) : Prop where
  own_TooMany : Own K "ArithmeticError" "ArithmeticError.__new__" "ArithmeticError.__init__" arith CT
  iC_TooMany : PySem.W.findIn K (.ref CT) "__init__" = some (some (.ref fT))
  tI_TooMany : PySem.W.typeIn K (.ref fT) = some (.type "function")
  no_what : PySem.W.findIn K (.ref CT) "what" = some none
  no_limit : PySem.W.findIn K (.ref CT) "limit" = some none
  xf : XfC K CT
  te : PySem.W.exmOne K (.ref CT) (.ref CT) = some true
  mg_TooMany : mg "TooMany" = some (.ref CT)
noncomputable def RetX (CT : Addr) (z : Str) (n : Int) (H : Hp) (E : XK) : Prop := ∀ (d : Addr) (H2 : Hp), Ex H H2 → H2 d = some (.xd [(("limit" : Str), V.int n), (("what" : Str), V.str z)]) → E (.ref CT) (some d) H2
noncomputable def sp_tm (CT : Addr) : Sp := fun vs H Q _ => ∃ (a : Addr) (x y : V), vs = [.ref a, x, y] ∧ H a = some (exo a CT none) ∧ ∀ d H2, H d = none → d ≠ a → (∀ b o, H b = some o → b ≠ a → H2 b = some o) → H2 a = some (exo a CT (some d)) → H2 d = some (exd d [(("limit" : Str), y), (("what" : Str), x)]) → Q .non H2
structure CalX (P : Program) (w : World) (K : PySem.W.Frag) (mg : Str → Option Value) (base : Heap) (x : Str) (f : Addr) (fd : FuncData) (ps : List Str) (k : Nat) (sp : Sp) : Prop where
  ok : FnOk P w K mg base (L2.CX P w) k f fd ps sp
  mgx : mg x = some (.ref f)
  kp : PySem.W.keepIn K (.ref f) = true
  bd : Binds K fd ps []
structure IniX (P : Program) (w : World) (K : PySem.W.Frag) (mg : Str → Option Value) (base : Heap) (CT : Addr) (f : Addr) (fd : FuncData) : Prop where
  ok : FnOk P w K mg base CX0 1 f fd ["self", "what", "limit"] (sp_tm CT)
  bd : Binds K fd ["self", "what", "limit"] []
section
variable {P : Program} {w : World} {K : PySem.W.Frag} {mg : Str → Option Value} {base : Heap} {C SZ SY CJ CT fT : Addr}
theorem ok_tm {f : Addr} {fd : FuncData} (F : Fun K "__init__" "TooMany.__init__" s_TooMany___init__ f fd) (TE : Te K mg CT fT) : FnOk P w K mg base CX0 1 f fd ["self", "what", "limit"] (sp_tm CT) := by
  refine F.ok sc_TooMany___init__ (fun vs H Q E h => ?_) (fun cdv A outer s H vs Q E hr h => ?_)
  · obtain ⟨a, x, y, rfl, _⟩ := h
    rfl
  · obtain ⟨a, x, y, rfl, ha, k⟩ := h
    refine ⟨_, (pss_cons (ps_own (pv 0) (pv 1)) (pss_one (ps_own (pv 0) (pv 2)))), ?_⟩
    refine ⟨_, rfl, _, rfl, a, CT, _, _, _, _, rfl, TE.own_TooMany, TE.no_what, .inl ⟨ha, fun d hd hda => ?_⟩⟩
    refine ⟨_, rfl, _, rfl, a, CT, _, _, _, _, rfl, TE.own_TooMany, TE.no_limit, .inr ⟨d, _, upd_same, by rw [upd_ne hda]; exact upd_same, by show 1 ≤ 900; decide, ?_⟩⟩
    refine k d _ hd hda (fun b o hb hba => ?_) (by rw [upd_ne (Ne.symm hda)]; exact upd_same) upd_same
    have hbd : b ≠ d := ne_of_none hb hd
    rw [upd_ne hbd, upd_ne hba, upd_ne hbd]
    exact hb
/-- raise TooMany(z, n) -/
theorem raise_tm {σ : L2.St} {H : Hp} {tA : TA} {z : Str} {n : Int} {E : XK} (ha : EvA tA σ H [.str z, .int n]) (k : RetX CT z n H E) : tMkO CT (sp_tm CT) [] tA σ H E := by
  refine ha H (Ex.refl _) _ fun H3 e3 => ⟨by show 2 ≤ 1000; decide, fun x hx => ?_⟩
  refine ⟨x, _, _, rfl, upd_same, fun d H4 hd hdx hk h1 h2 => ⟨rfl, d, _, h1, h2, ?_, ?_⟩⟩
  · rwa [upd_ne hdx] at hd
  · rw [upd_ne hdx] at hd
    refine k d _ (fun b o hb => ?_) upd_same
    have hb3 := e3 b o hb
    have hbx : b ≠ x := ne_of_none hb3 hx
    rw [upd_ne (ne_of_none hb3 hd), del_ne hbx]
    exact hk b o (by rw [upd_ne hbx]; exact hb3) hbx
noncomputable def sumP (ts : List Td) : Int := (ts.map fun t => ((pcs t).length : Int)).sum
noncomputable def sp_needX (CT : Addr) : Sp := fun vs H Q E => ∃ a xs ts, vs = [.ref a] ∧ H a = some (.lst xs) ∧ Ats H xs ts ∧ (∀ t ∈ ts, OkD t ∧ (pcs t).length ≤ 1000) ∧ ts.length ≤ 1000 ∧ (sumP ts ≤ 60 → RetV .non H Q) ∧ (60 < sumP ts → RetX CT "pieces" 60 H E)
theorem RetX.mono {z : Str} {n : Int} {H H1 : Hp} {E : XK} (k : RetX CT z n H E) (e : Ex H H1) : RetX CT z n H1 E := fun d H2 e2 => k d H2 (e.trans e2)
theorem ok_X_need_few {f f1 : Addr} {fd fd1 fd3 : FuncData} (F : Fun K "need_few_pieces" "need_few_pieces" s_need_few_pieces f fd) (T : Txt P w K mg C SZ SY) (TE : Te K mg CT fT) (c_all_pieces : Cal P w K mg base "all_pieces" f1 fd1 ["told"] 2 sp_all_pieces) (i_TooMany : IniX P w K mg base CT fT fd3) : FnOk P w K mg base (L2.CX P w) 3 f fd ["tolds"] (sp_needX CT) := by
  refine F.okX sc_need_few_pieces (fun vs H Q E h => ?_) (fun cdv A outer s H vs Q E hr h => ?_)
  · obtain ⟨a, xs, ts, rfl, _⟩ := h
    rfl
  · obtain ⟨a, xs, ts, rfl, ha, hk, ho, hz, k, kx⟩ := h
    refine ⟨_, (pss_one (ps_if (pt_cmpR op_gt (pe_callB (sumL (K := K) rfl rfl) (by rfl) T.b_sum (by decide +kernel) (pa_cons (pe_lc (own := [("told", 1)]) (g := (gName 1)) (by rfl) sc_need_few_pieces.nd (piL (K := K) rfl (pv 0)) (blkOk_by (own := [("told", 1)]) (N := ["tolds", "told"]) (sc := defScope s_need_few_pieces) (by decide +kernel)) (fun _ _ _ _ _ => (pg_name (i := 1) sc_need_few_pieces.nd rfl (Or.inl rfl))) (fun _ _ _ _ _ => pts_nil) (fun _ _ _ _ _ => (pe_callB (lenS (K := K) rfl) (by rfl) T.b_len (by decide +kernel) (pa_cons (pe_call c_all_pieces.ok (hr.mono (by decide)) (by rfl) c_all_pieces.mgx c_all_pieces.kp c_all_pieces.bd .nil pass0 (pa_cons (pv 1) pa_nil)) pa_nil)))) pa_nil)) (pe_glob (v := .int 60) rfl T.mg_MOST_PIECES.choose_spec ⟨_, rfl⟩) (nomark _)) (pss_one (ps_raise rfl (takes_of rfl rfl rfl rfl) (pmk_own2 TE.own_TooMany TE.iC_TooMany TE.tI_TooMany i_TooMany.ok (hr.mono (by decide)) i_TooMany.bd .nil pass0 (by rfl) TE.mg_TooMany (pa_cons pe_str (pa_cons (pe_glob (v := .int 60) rfl T.mg_MOST_PIECES.choose_spec ⟨_, rfl⟩) pa_nil))))) pss_nil)), ?_⟩
    have eqn : (ts.filter fun _ => true).map (fun t => V.int ((pcs t).length : Int)) = (ts.map fun t => ((pcs t).length : Int)).map V.int := by
      rw [filter_yes, List.map_map] <;> rfl
    refine s_when (b := decide (sumP ts > 60)) (et_test (ev_op (ev_cbL (el_eq (el_lcLv (K := K) (j := 1) (vs := [1]) (fun _ => true) (fun t => V.int ((pcs t).length : Int)) (ev_var rfl) ha hk (by omega) (fun _ => rfl) (fun _ _ _ _ _ _ => lc_yes) (fun y u H1 e1 hy hu _ => ev_lenLs (els_call (ea_cons (ev_var (i := 1) rfl) ea_nil) (spl_all_pieces hy (ho u hu).1 (ho u hu).2)))) eqn) fun p H1 e h1 => rc_sum (sq_of h1)) ev_c rv_I0)) (fun z H1 e1 => ?_) fun z H1 e => k (by have := of_decide_eq_false z; omega) H1 e
    exact raise_tm (ea_cons ev_c (ea_cons ev_c ea_nil)) ((kx (of_decide_eq_true z)).mono e1)
end
end K25
end
section
set_option maxHeartbeats 4000000
namespace K25
open PySem L2 Evl G TM TD
/-! ### ways -/
theorem many_any (z : Str) (a c : Td) : manyW (.bi z a c) ≤ manyW a + manyW c ∨ manyW (.bi z a c) ≤ manyW a * manyW c ∨ manyW (.bi z a c) ≤ 1 := by
  show (if z = "le" then 1 else if z = "or" then manyW a + manyW c else manyW a * manyW c) ≤ _ ∨ (if z = "le" then 1 else if z = "or" then manyW a + manyW c else manyW a * manyW c) ≤ _ ∨ (if z = "le" then 1 else if z = "or" then manyW a + manyW c else manyW a * manyW c) ≤ 1
  by_cases h : z = "le"
  · simp [h]
  · by_cases h2 : z = "or"
    · rw [if_neg h, if_pos h2]; exact .inl (Nat.le_refl _)
    · rw [if_neg h, if_neg h2]; exact .inr (.inl (Nat.le_refl _))
theorem many_push : ∀ {t : Td} {b : Bool}, IsS t → manyW (push t b) ≤ 2 ^ (pcs t).length
  | .lf _ _, _, h => h.elim
  | .ov _ _ _, _, h => h.elim
  | .nt u, b, h => by
    have ih := many_push (t := u) (b := !b) h
    show manyW (push u (!b)) ≤ 2 ^ ((pcs u).length + 1)
    have : 2 ^ (pcs u).length ≤ 2 ^ ((pcs u).length + 1) := Nat.pow_le_pow_right (by decide) (Nat.le_succ _)
    omega
  | .bi w t u, b, h => by
    have pl : (pcs (.bi w t u)).length = (pcs t).length + (pcs u).length + 1 := by show (pcs t ++ pcs u).length + 1 = _; rw [List.length_append]
    have hp : 1 ≤ 2 ^ (pcs (.bi w t u)).length := Nat.pos_of_ne_zero (by simp)
    rcases h with ⟨rfl, h1, h2⟩ | ⟨hw, h1, h2⟩
    · unfold push
      rw [if_pos rfl]
      cases b with
      | true => rw [if_pos rfl]; exact hp
      | false => rw [if_neg (by decide)]; exact hp
    · have hne : w ≠ "le" := by rcases hw with e | e <;> (rw [e]; decide)
      have i1 := many_push (t := t) (b := b) h1
      have i2 := many_push (t := u) (b := b) h2
      rw [push_bi hne, pl, Nat.pow_succ, Nat.pow_add]
      have q1 : 1 ≤ 2 ^ (pcs t).length := Nat.pos_of_ne_zero (by simp)
      have q2 : 1 ≤ 2 ^ (pcs u).length := Nat.pos_of_ne_zero (by simp)
      have hm := many_any (if b = true then w else flipW w) (push t b) (push u b)
      have m1 : manyW (push t b) * manyW (push u b) ≤ 2 ^ (pcs t).length * 2 ^ (pcs u).length := Nat.mul_le_mul i1 i2
      have m2 : 2 ^ (pcs t).length ≤ 2 ^ (pcs t).length * 2 ^ (pcs u).length := Nat.le_mul_of_pos_right _ q2
      have m3 : 2 ^ (pcs u).length ≤ 2 ^ (pcs t).length * 2 ^ (pcs u).length := Nat.le_mul_of_pos_left _ q1
      rcases hm with hm | hm | hm <;> omega
theorem leafs_push : ∀ {t : Td} {b : Bool}, IsS t → leafs (push t b) ≤ (pcs t).length
  | .lf _ _, _, h => h.elim
  | .ov _ _ _, _, h => h.elim
  | .nt u, b, h => by
    have ih := leafs_push (t := u) (b := !b) h
    show leafs (push u (!b)) ≤ (pcs u).length + 1
    omega
  | .bi w t u, b, h => by
    have pl : (pcs (.bi w t u)).length = (pcs t).length + (pcs u).length + 1 := by show (pcs t ++ pcs u).length + 1 = _; rw [List.length_append]
    rcases h with ⟨rfl, h1, h2⟩ | ⟨hw, h1, h2⟩
    · unfold push
      rw [if_pos rfl]
      cases b with
      | true => rw [if_pos rfl, pl]; show 1 ≤ _; omega
      | false => rw [if_neg (by decide), pl]; show 1 ≤ _; omega
    · have hne : w ≠ "le" := by rcases hw with e | e <;> (rw [e]; decide)
      have i1 := leafs_push (t := t) (b := b) h1
      have i2 := leafs_push (t := u) (b := b) h2
      rw [push_bi hne, pl]
      generalize (if b = true then w else flipW w) = z
      show (if z = "le" then 1 else leafs (push t b) + leafs (push u b)) ≤ _
      split <;> omega
theorem depth_push : ∀ {t : Td} {b : Bool}, IsS t → depth (push t b) ≤ depth t + 1
  | .lf _ _, _, h => h.elim
  | .ov _ _ _, _, h => h.elim
  | .nt u, b, h => by
    have ih := depth_push (t := u) (b := !b) h
    show depth (push u (!b)) ≤ depth u + 1 + 1
    omega
  | .bi w t u, b, h => by
    rcases h with ⟨rfl, h1, h2⟩ | ⟨hw, h1, h2⟩
    · unfold push
      rw [if_pos rfl]
      cases b with
      | true => rw [if_pos rfl]; exact Nat.le_succ _
      | false => rw [if_neg (by decide)]; exact Nat.le_refl _
    · have hne : w ≠ "le" := by rcases hw with e | e <;> (rw [e]; decide)
      have i1 := depth_push (t := t) (b := b) h1
      have i2 := depth_push (t := u) (b := b) h2
      rw [push_bi hne]
      show max (depth (push t b)) (depth (push u b)) + 1 ≤ max (depth t) (depth u) + 1 + 1
      omega
theorem many_lt {t : Td} {b : Bool} (h : IsS t) (hz : (pcs t).length ≤ 60) : manyW (push t b) < 2 ^ 64 := by
  have h1 := many_push (b := b) h
  have h2 : 2 ^ (pcs t).length ≤ 2 ^ 60 := Nat.pow_le_pow_right (by decide) hz
  have h3 : (2 : Nat) ^ 60 < 2 ^ 64 := by decide
  omega
theorem q_td {σ : L2.St} {H : Hp} {te : TE} {t : Td} {i : Nat} {D : Ends} {tz : TS} (h : EvTd te σ H t) (k : ∀ v H1, Ex H H1 → At H1 v t → tz D (σ.set i (some v)) H1) : tSeq (tAsg te (gName i)) tz D σ H := h H (Ex.refl _) _ k
/-- lists of lists, the outer one and those in it all new -/
noncomputable def RetLn (W : List (List Td)) (H : Hp) (Q : VK) : Prop := ∀ p vs H2, H p = none → Ex H H2 → H2 p = some (.lst vs) → Lss H2 vs W → (∀ q, V.ref q ∈ vs → H q = none ∧ q ≠ p) → Q (.ref p) H2
theorem RetLn.mono {W : List (List Td)} {H H1 : Hp} {Q : VK} (e : Ex H H1) (k : RetLn W H Q) : RetLn W H1 Q := fun p vs H2 hp e2 a b c => k p vs H2 (fresh_back e hp) (e.trans e2) a b fun q hq => ⟨fresh_back e (c q hq).1, (c q hq).2⟩
/-- [f of w for w in a list of lists], each time a new list -/
theorem lc_lls {K : PySem.W.Frag} {σ : L2.St} {H : Hp} {ta te : TE} {j : Nat} {vs : List Nat} {W : List (List Td)} {Q : VK} (f : List Td → List Td) (hl : EvLw ta σ H W) (hz : W.length ≤ 1000) (hw : ∀ x, wipe ((wipe σ vs).set j (some x)) vs = wipe σ vs)
    (he : ∀ q zs w H1, Ex H H1 → H1 q = some (.lst zs) → Ats H1 zs w → w ∈ W → EvLs te ((wipe σ vs).set j (some (.ref q))) H1 (f w)) (k : RetLn (W.map f) H Q) : tLc (iList K ta) (gName j) tYes te vs σ H Q :=
  hl H (Ex.refl _) _ fun a ys H1 ha e1 h1 k1 => ⟨a, rfl, ⟨_, sq_of h1⟩, fun Dl hD => by
    refine lc_list (xs := ys) (fun i H' => ∃ acc : List V, Ex H1 H' ∧ H' Dl = some (.lst acc) ∧ acc.length = i ∧ Lss (wod H' Dl) acc ((W.take i).map f) ∧ ∀ q, V.ref q ∈ acc → H1 q = none ∧ q ≠ Dl)
      ⟨[], Ex.new hD, upd_same, rfl, by rw [List.take_zero]; exact .nil, fun q hq => nomatch hq⟩ (fun i H' _ h => ?_) (fun i x H' hi h => ?_) (fun H' h => ?_)
    · obtain ⟨acc, x1, _⟩ := h
      exact sq_of (x1 a _ h1)
    · obtain ⟨acc, x1, x3, x4, x5, x6⟩ := h
      obtain ⟨q, zs, w, rfl, hwi, hq, kz⟩ := (k1.mono x1).get hi
      refine ⟨hw _, ?_⟩
      unfold tYes
      refine iteT ?_
      have hlt : i < W.length := (List.getElem?_eq_some_iff.mp hwi).1
      refine he q zs w H' (e1.trans x1) hq kz (List.mem_of_getElem? hwi) H' (Ex.refl _) _ fun p us H2 hp e2 h2 k2 => ?_
      have h2D : H2 Dl = some (.lst acc) := e2 Dl _ x3
      have hpD : p ≠ Dl := fun z => by rw [z, x3] at hp; cases hp
      have et : (W.take (i + 1)).map f = (W.take i).map f ++ [f w] := by
        have : W.take (i + 1) = W.take i ++ [w] := by rw [List.take_add_one, hwi] <;> rfl
        rw [this, List.map_append] <;> rfl
      refine ⟨acc, h2D, sz_lt (by omega), acc ++ [.ref p], (x1.trans e2).mut hD, upd_same, by rw [List.length_append, x4] <;> rfl, ?_, fun q hq => ?_⟩
      · rw [wod_upd, et]
        have t6 : Tu H2 (wod H2 Dl) := wod_tu h2D
        refine (x5.mono (wod_mono e2)).app (.cons (zs := us) ?_ (k2.mono t6) .nil)
        unfold wod
        rw [if_neg hpD]
        exact h2
      · rcases List.mem_append.mp hq with hq | hq
        · exact x6 q hq
        · cases List.mem_singleton.mp hq
          exact ⟨fresh_back x1 hp, hpD⟩
    · obtain ⟨acc, x1, x3, x4, x5, x6⟩ := h
      rw [k1.len, List.take_length] at x5
      exact k Dl acc H' (fresh_back e1 hD) (e1.trans x1) x3 (x5.mono wod_ex) fun q hq => ⟨fresh_back e1 (x6 q hq).1, (x6 q hq).2⟩⟩
theorem q_needX {σ : L2.St} {H : Hp} {te : TE} {t : Td} {D : Ends} {tz : TS} {CT : Addr} {E : XK} (h : EvLs te σ H [t]) (hS : IsS t) (hz : (pcs t).length ≤ 1000) (kx : 60 < (pcs t).length → RetX CT "pieces" 60 H E) (k : (pcs t).length ≤ 60 → ∀ H1, Ex H H1 → tz D σ H1) :
    tSeq (tDrop (tCall (sp_needX CT) [] E (tCons te tNil))) tz D σ H := h H (Ex.refl _) _ fun p ys H2 hp e2 h2 k2 => by
  have sm : sumP [t] = ((pcs t).length : Int) := by show ((pcs t).length : Int) + 0 = _; omega
  exact ⟨p, ys, [t], rfl, h2, k2, (fun u hu => by cases List.mem_singleton.mp hu; exact ⟨hS.okD, hz⟩), (by show 1 ≤ 1000; decide), fun hle H3 e3 => k (by rw [sm] at hle; omega) H3 (e2.trans e3), fun hgt => (kx (by rw [sm] at hgt; omega)).mono e2⟩
section
variable {P : Program} {w : World} {K : PySem.W.Frag} {mg : Str → Option Value} {base : Heap} {C SZ SY CJ CT fT : Addr}
noncomputable def sp_ways (CT : Addr) : Sp := fun vs H Q E => ∃ x t, vs = [x] ∧ At H x t ∧ IsS t ∧ (pcs t).length ≤ 1000 ∧ depth t ≤ 18 ∧ (60 < (pcs t).length → RetX CT "pieces" 60 H E) ∧ ((pcs t).length ≤ 60 → 60 < manyW (push t true) → RetX CT "ways" 60 H E) ∧
  ((pcs t).length ≤ 60 → manyW (push t true) ≤ 60 → RetLn (lawW (push t true)) H Q)
theorem ok_ways {f f1 f2 f3 f4 f5 f6 : Addr} {fd fd1 fd2 fd3 fd4 fd5 fd6 fd7 : FuncData} (F : Fun K "ways" "ways" s_ways f fd) (T : Txt P w K mg C SZ SY) (TJ : Tj w K mg CJ) (TE : Te K mg CT fT) (c_need_saying : Cal P w K mg base "need_saying" f1 fd1 ["value"] 5 sp_need_saying)
    (cX_need_few_pieces : CalX P w K mg base "need_few_pieces" f2 fd2 ["tolds"] 3 (sp_needX CT)) (c__pushed_in : Cal P w K mg base "_pushed_in" f3 fd3 ["saying"] 22 (sp_pu true 20)) (c__many_ways : Cal P w K mg base "_many_ways" f4 fd4 ["saying"] 22 (sp_mw 20)) (c__all_ways : Cal P w K mg base "_all_ways" f5 fd5 ["saying"] 22 (sp_aw 20)) (c_without_doubles : Cal P w K mg base "without_doubles" f6 fd6 ["things"] 2 sp_wd)
    (i_TooMany : IniX P w K mg base CT fT fd7) : FnOk P w K mg base (L2.CX P w) 23 f fd ["saying"] (sp_ways CT) := by
  refine F.okX sc_ways (fun vs H Q E h => ?_) (fun cdv A outer s H vs Q E hr h => ?_)
  · obtain ⟨x, t, rfl, _⟩ := h
    rfl
  · obtain ⟨x, t, rfl, ht, hS, hz, hd, kp, kw, k⟩ := h
    refine ⟨_, (pss_cons (ps_expr (pe_call c_need_saying.ok (hr.mono (by decide)) (by rfl) c_need_saying.mgx c_need_saying.kp c_need_saying.bd .nil pass0 (pa_cons (pv 0) pa_nil))) (pss_cons (ps_expr (pe_call cX_need_few_pieces.ok (hr.mono (by decide)) (by rfl) cX_need_few_pieces.mgx cX_need_few_pieces.kp cX_need_few_pieces.bd .nil (passF (takes_of rfl rfl rfl rfl)) (pa_cons (pe_lst (pa_cons (pv 0) pa_nil)) pa_nil))) (pss_cons (ps_set (i := 1) sc_ways.nd rfl (Or.inl rfl) (pe_call c__pushed_in.ok (hr.mono (by decide)) (by rfl) c__pushed_in.mgx c__pushed_in.kp c__pushed_in.bd .nil pass0 (pa_cons (pv 0) pa_nil))) (pss_cons (ps_if (pt_cmpR op_gt (pe_call c__many_ways.ok (hr.mono (by decide)) (by rfl) c__many_ways.mgx c__many_ways.kp c__many_ways.bd .nil pass0 (pa_cons (pv 1) pa_nil)) (pe_glob (v := .int 60) rfl TJ.mg_MW.choose_spec ⟨_, rfl⟩) (nomark _)) (pss_one (ps_raise rfl (takes_of rfl rfl rfl rfl) (pmk_own2 TE.own_TooMany TE.iC_TooMany TE.tI_TooMany i_TooMany.ok (hr.mono (by decide)) i_TooMany.bd .nil pass0 (by rfl) TE.mg_TooMany (pa_cons pe_str (pa_cons (pe_glob (v := .int 60) rfl TJ.mg_MW.choose_spec ⟨_, rfl⟩) pa_nil))))) pss_nil) (pss_one (ps_ret (pe_lc (own := [("way", 2)]) (g := (gName 2)) (by rfl) sc_ways.nd (piL (K := K) rfl (pe_call c__all_ways.ok (hr.mono (by decide)) (by rfl) c__all_ways.mgx c__all_ways.kp c__all_ways.bd .nil pass0 (pa_cons (pv 1) pa_nil))) (blkOk_by (own := [("way", 2)]) (N := ["saying", "told", "way"]) (sc := defScope s_ways) (by decide +kernel)) (fun _ _ _ _ _ => (pg_name (i := 2) sc_ways.nd rfl (Or.inl rfl))) (fun _ _ _ _ _ => pts_nil) (fun _ _ _ _ _ => (pe_call c_without_doubles.ok (hr.mono (by decide)) (by rfl) c_without_doubles.mgx c_without_doubles.kp c_without_doubles.bd .nil pass0 (pa_cons (pv 2) pa_nil)))))))))), ?_⟩
    refine q_drop (ev_call (ea_cons (ev_var rfl) ea_nil) (spv_need_saying ht hz hS)) fun H1 e1 => ?_
    have h1 : At H1 x t := ht.mono (Tu.ex e1)
    refine q_needX (els_one (etd_ref (ev_var rfl) h1)) hS hz (fun hgt => (kp hgt).mono e1) fun hz60 H3 e3 => ?_
    have e13 := e1.trans e3
    refine q_td (etd_call (ea_cons (ev_var rfl) ea_nil) (etd_pu (ht.mono (Tu.ex e13)) hS (by omega))) fun y H4 e4 h4 => ?_
    have e14 := e13.trans e4
    have hP : Pu (push t true) := push_pu hS
    have dP : depth (push t true) < 20 := by have := depth_push (b := true) hS; omega
    refine q_when (b := decide ((manyW (push t true) : Int) > 60)) (et_test (ev_op (ev_call (ea_cons (ev_var rfl) ea_nil) (spv_mw h4 hP dP (many_lt hS hz60))) ev_c rv_I0)) (fun hb H5 e5 => ?_) (fun hb H5 e5 => ?_)
    · exact raise_tm (ea_cons ev_c (ea_cons ev_c ea_nil)) ((kw hz60 (by have := of_decide_eq_true hb; omega)).mono (e14.trans e5))
    · have hmw : manyW (push t true) ≤ 60 := by have := of_decide_eq_false hb; omega
      have hlf : leafs (push t true) ≤ 1000 := by have := leafs_push (b := true) hS; omega
      refine ret_k (lc_lls dedup (elw_call (ea_cons (ev_var rfl) ea_nil) (elw_aw (h4.mono (Tu.ex e5)) hP dP (by omega) hlf)) (by rw [ways_len]; omega) (fun _ => rfl) (fun q zs w H6 e6 hq kz hw => els_call (ea_cons (ev_var (i := 2) rfl) ea_nil) (spl_wd hq kz (fun l hl => ?_) ?_)) ?_)
      · have := way_in hP w hw l hl
        exact ⟨.inr this.1, by omega⟩
      · have := way_len hw
        omega
      · rw [← law_ways]
        exact (k hz60 hmw).mono (e14.trans e5)
end
end K25
end
section
set_option maxHeartbeats 4000000
namespace K25
open PySem L2 Evl G TM TD LamX
/-! ### a lambda, and the def that calls it within a try -/
/-- an exception's wish may lean on the number of the slots -/
theorem takes_len {X : Cx} {W : WX} {n : Nat} (tk : Takes X W) (hn : X.N.length = n) : Takes X fun cls d _ H => ∀ σ : L2.St, σ.length = n → W cls d σ H := fun u s' h => by
  obtain ⟨a, B, sI, pins, σ, H, cls, d, e, I, nb, up, sky, na, os, ag, w⟩ := h
  exact tk u s' ⟨a, B, sI, pins, σ, H, cls, d, e, I, nb, up, sky, na, os, ag, w σ (by rw [I.len]; exact hn)⟩
theorem len2' {α : Type} {ys : List α} (h : ys.length = 2) : ∃ y z, ys = [y, z] := by
  match ys, h with
  | [y, z], _ => exact ⟨y, z, rfl⟩
/-- told: what the lambda gives; or, where it raises TooMany(z, n), the tuple of a word, z and n -/
noncomputable def TMuch (CT : Addr) : (XK → Hp → VK → Prop) → Hp → VK → Prop := fun tl H Q =>
  tl (fun cls od H' => cls = .ref CT ∧ ∃ (d : Addr) (z : Str) (n : Int), od = some d ∧ H' d = some (.xd [(("limit" : Str), V.int n), (("what" : Str), V.str z)]) ∧ ∀ p, H' p = none → Q (.ref p) (upd H' p (.tup [.str "much", .str z, .int n]))) H Q
section
variable {X : Cx}
theorem heard_gives {g CT fT : Addr} {cdg : Value} {q : Str} (TE : Te X.K X.mg CT fT) : GivesTo X ["_law_call", "e"] "_law_heard" (defScope s__law_heard) g cdg (defBody s__law_heard) "_law_call" q (TMuch CT) := by
  intro f c' s H Q tl act hc h
  have nd := sc__law_heard.nd
  refine ⟨_, pss_one (ps_try_as (i := 1) (tb := fun W D σ H => ∃ Ech : XK, (∀ cls d H', Ech cls d H' → ∀ σ' : L2.St, σ'.length = 2 → W cls d σ' H') ∧ σ[0]? = some (some (.ref f)) ∧ H c' = some (CodeO c' q) ∧ tl Ech H D.rt) rfl rfl nd rfl rfl ⟨rfl, by decide, .inl TE.mg_TooMany⟩ L2.takes0 (fun W pn xe tk po => ?_)
    (fun a oe cls d pn hz hf => pss_one (ps_ret (pe_tup (pa_cons pe_str (pa_cons (pe_xf TE.xf TE.no_what hz hf (pv 1)) (pa_cons (pe_xf TE.xf TE.no_limit hz hf (pv 1)) pa_nil))))))), ?_⟩
  · refine ⟨fun pins s' σ H' D I h' => ?_⟩
    obtain ⟨Ech, hW, h1, h2, h3⟩ := h'
    exact (pss_one (ps_ret (act _ pn xe Ech _ _ (takes_len tk rfl) fun cls d σ' H' hE σ'' hl => hW cls d H' hE σ'' hl))).run pins s' σ H' D I ⟨h1, h2, h3⟩
  · refine ⟨_, fun cls d H' hE σ' hl => ?_, rfl, hc, h⟩
    obtain ⟨rfl, dd, z, n, rfl, hd, k⟩ := hE
    refine ⟨true, TE.te, fun _ a ha => ?_, fun q => nomatch q⟩
    obtain ⟨x, y, rfl⟩ := len2' hl
    exact ⟨_, rfl, rfl, rfl, dd, _, _, rfl, hd, rfl, _, rfl, rfl, rfl, dd, _, _, rfl, hd, rfl, by show 3 ≤ sizeLine; decide, fun p hp => k p hp⟩
end
end K25
end
section
set_option maxHeartbeats 4000000
namespace K25
open PySem L2 Evl G TM TD LamX
/-! ### told by a lambda -/
noncomputable def tabF (Pt : Addr) : List (Addr × Str) := [(Pt, "_law_forms_right.<locals>.<lambda>")]
theorem Tu.exN {H H' : Hp} (e : ExtN H H') : Tu H H' := fun a xs h => e a _ h fun ps z => by cases z
theorem exN_ex {H H1 H2 : Hp} (a : ExtN H H1) (e : Ex H1 H2) : ExtN H H2 := a.trans (.of e)
/-- v is what ways told, from a heap on that stays but for the tables -/
noncomputable def Heard (T : List (Addr × Str)) (t : Td) (H : Hp) (v : V) (H2 : Hp) : Prop := ∃ (H1 : Hp) (p : Addr), v = .ref p ∧ ExtN H H1 ∧ Tabs T H1 ∧ Ex H1 H2 ∧ H1 p = none ∧
  ((60 < (pcs t).length ∧ H2 p = some (.tup [.str "much", .str "pieces", .int 60])) ∨ ((pcs t).length ≤ 60 ∧ 60 < manyW (push t true) ∧ H2 p = some (.tup [.str "much", .str "ways", .int 60])) ∨
    ((pcs t).length ≤ 60 ∧ manyW (push t true) ≤ 60 ∧ ∃ vs, H2 p = some (.lst vs) ∧ Lss H2 vs (lawW (push t true)) ∧ ∀ q, V.ref q ∈ vs → H1 q = none ∧ q ≠ p))
theorem Heard.ex {T : List (Addr × Str)} {t : Td} {H H2 H3 : Hp} {v : V} (h : Heard T t H v H2) (e : Ex H2 H3) : Heard T t H v H3 := by
  obtain ⟨H1, p, rfl, a, b, c, d, k⟩ := h
  refine ⟨H1, p, rfl, a, b, c.trans e, d, ?_⟩
  rcases k with ⟨k1, k2⟩ | ⟨k1, k2, k3⟩ | ⟨k1, k2, vs, k3, k4, k5⟩
  · exact .inl ⟨k1, e _ _ k2⟩
  · exact .inr (.inl ⟨k1, k2, e _ _ k3⟩)
  · exact .inr (.inr ⟨k1, k2, vs, e _ _ k3, k4.mono e, k5⟩)
theorem Heard.back {T : List (Addr × Str)} {t : Td} {H0 H H2 : Hp} {v : V} (h : Heard T t H v H2) (e : ExtN H0 H) : Heard T t H0 v H2 := by
  obtain ⟨H1, p, rfl, a, k⟩ := h
  exact ⟨H1, p, rfl, e.trans a, k⟩
theorem Heard.ext {T : List (Addr × Str)} {t : Td} {H H2 : Hp} {v : V} (h : Heard T t H v H2) : ExtN H H2 ∧ Tabs T H2 := by
  obtain ⟨H1, p, rfl, a, b, c, _⟩ := h
  exact ⟨exN_ex a c, b.ext c⟩
theorem heardC {T : List (Addr × Str)} {CT : Addr} {t : Td} {x : V} {σ : L2.St} {H : Hp} {Q : VK} {te : XK → TE} (hte : ∀ H1 Q E, sp_ways CT [x] H1 Q E → te E σ H1 Q) (h : At H x t) (hS : IsS t) (hz : (pcs t).length ≤ 1000) (hd : depth t ≤ 18) (hT : Tabs T H)
    (k : ∀ v H2, Heard T t H v H2 → Q v H2) : tLam T (TMuch CT) te σ H Q := ⟨hT, fun H1 eN T1 => hte H1 Q _ ⟨x, t, rfl, h.mono (Tu.exN eN), hS, hz, hd,
      fun hgt d H2 e2 h2 => ⟨rfl, d, _, _, rfl, h2, fun p hp => k _ _ ⟨H1, p, rfl, eN, T1, e2.trans (Ex.new hp), fresh_back e2 hp, .inl ⟨hgt, upd_same⟩⟩⟩,
      fun hle hgt d H2 e2 h2 => ⟨rfl, d, _, _, rfl, h2, fun p hp => k _ _ ⟨H1, p, rfl, eN, T1, e2.trans (Ex.new hp), fresh_back e2 hp, .inr (.inl ⟨hle, hgt, upd_same⟩)⟩⟩,
      fun hle hm p vs H2 hp e2 h2 k2 hq => k _ _ ⟨H1, p, rfl, eN, T1, e2, hp, .inr (.inr ⟨hle, hm, vs, h2, k2, hq⟩)⟩⟩⟩
section
variable {K : PySem.W.Frag} {σ : L2.St} {H : Hp} {ta tb te : TE} {tt : TT} {D : Ends} {tz : TS} {i : Nat} {b : Bool} {d : PyData}
/-- if c: x = e, and on from there in either case -/
theorem q_two (J : V → Hp → Prop) (h : EvT tt σ H b) (h1 : b = true → ∀ H1, Ex H H1 → ∀ Q : VK, (∀ v H2, J v H2 → Q v H2) → te σ H1 Q) (h0 : b = false → ∀ H1, Ex H H1 → ∃ v, J v H1 ∧ σ.set i (some v) = σ) (k : ∀ v H2, J v H2 → tz D (σ.set i (some v)) H2) :
    tSeq (tIfS tt (tAsg te (gName i)) tNext) tz D σ H := h H (Ex.refl _) _ fun H1 e1 => by
  cases b with
  | true => rw [if_pos rfl]; exact h1 rfl H1 e1 _ k
  | false =>
    rw [if_neg (by decide)]
    obtain ⟨v, j, e⟩ := h0 rfl H1 e1
    have := k v H1 j
    rw [e] at this
    exact this
theorem ev_neD (ha : EvD K ta σ H d) (hb : EvD K tb σ H d) (hs : SeqAt.shaped d = true) (hc : d.canLay0 = true) : Ev (tOp (rNeD K) ta tb) σ H (.bl false) := fun H1 e Q q =>
  ha H1 e _ fun v H2 e2 hv => hb H2 (e.trans e2) _ fun u H3 e3 hu => ⟨d, d, dp_mono e3 hv, hu, hs, hs, by rw [SeqAt.eqv_refl d hc]; exact q H3 (e2.trans e3)⟩
theorem s_app_k {l : Addr} {xs : List V} (ha : Ev ta σ H (.ref l)) (hl : H l = some (.lst xs)) (h : ∀ H1, Ex H H1 → te σ H1 fun v H2 => ∃ (l' : Addr) (xs' : List V) (v' : V), V.ref l = .ref l' ∧ [v] = [v'] ∧ H2 l' = some (.lst xs') ∧ xs'.length < sizeLine ∧ D.nx σ (upd H2 l' (.lst (xs' ++ [v'])))) :
    tDrop (tBM K "list" rAppend ta (tCons te tNil)) D σ H := ha H (Ex.refl H) _ fun H1 e1 => ⟨Or.inl ⟨rfl, xs, sq_of (e1 l _ hl)⟩, h H1 e1⟩
theorem q_app_k {l : Addr} {xs : List V} (ha : Ev ta σ H (.ref l)) (hl : H l = some (.lst xs)) (h : ∀ H1, Ex H H1 → te σ H1 fun v H2 => ∃ (l' : Addr) (xs' : List V) (v' : V), V.ref l = .ref l' ∧ [v] = [v'] ∧ H2 l' = some (.lst xs') ∧ xs'.length < sizeLine ∧ tz D σ (upd H2 l' (.lst (xs' ++ [v'])))) :
    tSeq (tDrop (tBM K "list" rAppend ta (tCons te tNil))) tz D σ H := s_app_k (D := { D with nx := tz D }) ha hl h
/-! ### lists of lists as data -/
noncomputable def dLw (W : List (List Td)) : PyData := .list (W.map fun w => .list (w.map dTd))
noncomputable def Tell (W : List (List Td)) : Prop := ∀ w ∈ W, ∀ l ∈ w, Told l ∧ depth l ≤ 50
theorem dpall_lw {vs : List V} {W : List (List Td)} (h : Lss H vs W) : Tell W → DpAll K H vs (W.map fun w => .list (w.map dTd)) := by
  induction h with
  | nil => exact fun _ => .nil
  | cons a b _ ih => exact fun ht => .cons (.lst (sq_of a) (dpall_told b fun u hu => (ht _ (by simp) u hu).1)) (ih fun w hw => ht w (by simp [hw]))
theorem dp_lw {p : Addr} {vs : List V} {W : List (List Td)} (hp : H p = some (.lst vs)) (h : Lss H vs W) (ht : Tell W) : Dp K H (.ref p) (dLw W) := .lst (sq_of hp) (dpall_lw h ht)
theorem can_lw : ∀ {W : List (List Td)}, Tell W → (dLw W).canLay0 = true := by
  intro W ht
  show PyData.canLay0 (.list _) = true
  rw [PyData.canLay0]
  induction W with
  | nil => rfl
  | cons w W ih =>
    rw [List.map_cons, PyData.canLayAll0, ih fun x hx => ht x (by simp [hx]), PyData.canLay0, can_all fun t h => (ht w (by simp) t h).1]
    rfl
theorem shaped_lw {W : List (List Td)} (ht : Tell W) : SeqAt.shaped (dLw W) = true := by
  refine shaped_of (can_lw ht) ?_
  have : PyData.depthAll (W.map fun w => PyData.list (w.map dTd)) ≤ 52 := depth_all fun d hd => by
    obtain ⟨w, hw, rfl⟩ := List.mem_map.mp hd
    have : PyData.depthAll (w.map dTd) ≤ 51 := depth_all fun d hd => by
      obtain ⟨t, h1, rfl⟩ := List.mem_map.mp hd
      have := depth_td t
      have := (ht w hw t h1).2
      omega
    rw [PyData.depth]
    omega
  show PyData.depth (.list _) ≤ 64
  rw [PyData.depth]
  omega
theorem evd_lw {W : List (List Td)} (h : EvLw te σ H W) (ht : Tell W) : EvD K te σ H (dLw W) := fun H1 e Q q => h H1 e Q fun p vs H2 hp e2 h2 k2 => q _ H2 e2 (dp_lw h2 k2 ht)
end
noncomputable def dMuch (z : Str) : PyData := .tuple [.str "much", .str z, .int 60]
end K25
end
section
set_option maxHeartbeats 4000000
namespace K25
open PySem L2 Evl G TM TD LamX
section
variable {P : Program} {w : World} {K : PySem.W.Frag} {mg : Str → Option Value} {base : Heap} {C SZ SY CJ CT fT Pt : Addr}
/-- as the rule for a def, its code object being known -/
theorem okC {x qual : Str} {st : Stmt} {f c : Addr} {fd : FuncData} {N ps : List Str} {k : Nat} {sp : Sp} (F : Fun K x qual st f fd) (hc : fd.code = .ref c) (S : FnScope N ps (defScope st)) (len : ∀ vs H Q E, sp vs H Q E → vs.length = ps.length)
    (hb : ∀ (A : Around) (outer : List Env) (s : Shared) (H : Hp) (vs : List V) (Q : VK) (E : XK), Room k (A.deeper (PyProof.Rows.envOfC qual (defScope st) s.heap.objs.size f (.ref c))) → sp vs H Q E → ∃ t, PSs (cxOf CX0 P w K mg base N qual (defScope st) f (.ref c) A outer s H E).nox (defBody st) t ∧ t { nx := fun _ H' => Q .non H', rt := Q } (L2.start N vs) H) :
    FnOk P w K mg base CX0 (k + 1) f fd ps sp := by
  obtain ⟨oc, od, kV, doc, pm, an, cdv, ct, osl, rfl, lk, hcd⟩ := F.ex
  have e : cdv = .ref c := hc
  subst e
  refine fn_of lk hcd S len fun A outer s H vs Q E hr hsp => ?_
  obtain ⟨t, h, q⟩ := hb A outer s H vs Q E hr hsp
  exact ⟨t, h.nox, q⟩
/-- heard of a lambda -/
theorem pe_heard {X : Cx} {T : List (Addr × Str)} {g c : Addr} {fd : FuncData} {k : Nat} {params : Arguments} {body : Expr} {scope : Scope} {t : XK → TE} {p lpos pos : Pos} (F : Fun X.K "_law_heard" "_law_heard" s__law_heard g fd) (bd : Binds X.K fd ["_law_call"] []) (TE : Te X.K X.mg CT fT) (hg : Gl X "_law_heard") (hm : X.mg "_law_heard" = some (.ref g))
    (TB : TabB X.base X.mg c Pt) (hcode : X.env.code = .ref c) (hmT : (Pt, X.env.qual ++ "<lambda>") ∈ T) (hu : ∀ p ∈ T, p.1 = Pt → p.2 = X.env.qual ++ "<lambda>") (hr : Room (k + 2) X.A) (L : LamS X.env.scope scope) (hdef : defaultsOf params X.env = ([], []))
    (hbind : ∀ (q : Str) (cl : List (Str × Addr)) (pm cv ctv : Value), bindArgs (PySem.W.kla_fn "<lambda>" q params body scope cl pm cv ctv) ⟨[], []⟩ = pure [])
    (hbody : ∀ (A : Around) (outer : List Env) (s : Shared) (H : Hp) (E : XK) (f c' : Addr), Room k (A.deeper (lamEnv X scope s.heap.objs.size f c')) → PE (lamCx X A outer s H E scope f c') body (t E)) : PE X (.Call (.Name "_law_heard" p) [.Lambda params body scope lpos] [] pos) (tLam T (TMuch CT) t) := by
  obtain ⟨oc, od, kV, doc, pm, an, cdv, ct, osl, rfl, lk, hcd⟩ := F.ex
  exact pe_lamcall hg hm F.kp lk hcd bd sc__law_heard rfl (.inl rfl) (heard_gives TE) TB hcode hmT hu hr L hdef hbind hbody
theorem ev_much {σ : L2.St} {H : Hp} {p : Addr} {z : Str} (hp : H p = some (.tup [.str "much", .str z, .int 60])) (hs : σ[3]? = some (some (.ref p))) (hz : SeqAt.shaped (dMuch z) = true) (hc : (dMuch z).canLay0 = true) :
    Ev (tOp (rEqD K) (tVar 3) (tTup (tCons (tC (.str "much")) (tCons (tC (.str z)) (tCons (tC (.int 60)) tNil))))) σ H (.bl true) :=
  ev_is (evd_eqD (d := dMuch z) (e := dMuch z) (evd_ref (ev_var hs) (.tup (st_of hp) (.cons (.str _) (.cons (.str _) (.cons (.int _) .nil))))) (evd_tup (evad_cons (evd_v ev_c fun _ _ => .str _) (evad_cons (evd_v ev_c fun _ _ => .str _) (evad_cons (evd_int ev_c) evad_nil))) (by show 3 ≤ 100000; decide)) hz hz) (by rw [SeqAt.eqv_refl _ hc])
noncomputable def sp_forms (Pt : Addr) : Sp := fun vs H Q _ => ∃ x t, vs = [x] ∧ At H x t ∧ IsS t ∧ (pcs t).length ≤ 1000 ∧ depth t < 10 ∧ Tabs (tabF Pt) H ∧ ∀ H2, ExtN H H2 → Tabs (tabF Pt) H2 → Q (.bl true) H2
theorem ok_forms {f f1 f2 f3 f4 f5 f6 c : Addr} {fd fd1 fd2 fd3 fd4 fd5 fd6 : FuncData} (F : Fun K "_law_forms_right" "_law_forms_right" s__law_forms_right f fd) (T : Txt P w K mg C SZ SY) (TE : Te K mg CT fT) (hc : fd.code = .ref c) (TB : TabB base mg c Pt) (F__law_heard : Fun K "_law_heard" "_law_heard" s__law_heard f1 fd1) (me__law_heard : Me K mg "_law_heard" f1 fd1 ["_law_call"])
    (c__law_pushed : Cal P w K mg base "_law_pushed" f2 fd2 ["_law_saying_here", "_law_is_so_here"] 12 (sp_lpush 10)) (c_ways : CalX P w K mg base "ways" f3 fd3 ["saying"] 23 (sp_ways CT)) (c__law_size : Cal P w K mg base "_law_size" f4 fd4 ["_law_told"] 12 (sp_size 10)) (c__law_many : Cal P w K mg base "_law_many" f5 fd5 ["_law_saying_here"] 14 (sp_mw 12)) (c__law_ways : Cal P w K mg base "_law_ways" f6 fd6 ["_law_saying_here"] 14 (sp_lways 12))
    (kb_ways_saying : KBn K fd3 ["saying"] 0 ["saying"] (fun us ws => us ++ ws) (fun vs zs => vs ++ zs)) : FnOk P w K mg base CX0 26 f fd ["_law_saying_here"] (sp_forms Pt) := by
  have c__law_heard := me__law_heard
  refine okC F hc sc__law_forms_right (fun vs H Q E h => ?_) (fun A outer s H vs Q E hr h => ?_)
  · obtain ⟨x, t, rfl, _⟩ := h
    rfl
  · obtain ⟨x, t, rfl, ht, hS, hz, hd, hT, k⟩ := h
    have hmT : (Pt, ("_law_forms_right" : Str) ++ ".<locals>." ++ "<lambda>") ∈ tabF Pt := List.mem_singleton.mpr (by rfl)
    have hu : ∀ p ∈ tabF Pt, p.1 = Pt → p.2 = ("_law_forms_right" : Str) ++ ".<locals>." ++ "<lambda>" := fun p hp _ => by cases List.mem_singleton.mp hp; rfl
    refine ⟨_, (pss_cons (ps_set (i := 1) sc__law_forms_right.nd rfl (Or.inl rfl) (pe_call c__law_pushed.ok (hr.mono (by decide)) (by rfl) c__law_pushed.mgx c__law_pushed.kp c__law_pushed.bd .nil pass0 (pa_cons (pv 0) (pa_cons pe_bl pa_nil)))) (pss_cons (ps_for PassesOwn.never rfl (pi_range1 (by rfl) T.b_range (pa_cons pe_int pa_nil)) (pg_name (i := 2) sc__law_forms_right.nd rfl (Or.inl rfl)) (pss_cons (ps_set (i := 3) sc__law_forms_right.nd rfl (Or.inl rfl) (pe_heard (k := 23) F__law_heard c__law_heard.bd TE (by rfl) c__law_heard.mgx TB rfl hmT hu (hr.mono (by decide)) (lamS_by (sc := defScope s__law_forms_right) (by decide +kernel)) rfl (fun _ _ _ _ _ => rfl) (fun A outer s H E f c' hr2 => (pe_call c_ways.ok (hr2.mono (by decide)) (by rfl) c_ways.mgx c_ways.kp c_ways.bd .nil (passF (takes_of rfl rfl rfl rfl)) (pa_cons (pv 0) pa_nil))))) (pss_cons (ps_if (pt_cmpR op_eq (pv 2) pe_int (nomark _)) (pss_one (ps_set (i := 3) sc__law_forms_right.nd rfl (Or.inl rfl) (pe_heard (k := 23) F__law_heard c__law_heard.bd TE (by rfl) c__law_heard.mgx TB rfl hmT hu (hr.mono (by decide)) (lamS_by (sc := defScope s__law_forms_right) (by decide +kernel)) rfl (fun _ _ _ _ _ => rfl) (fun A outer s H E f c' hr2 => (pe_callN0 c_ways.ok (hr2.mono (by decide)) (by rfl) c_ways.mgx c_ways.kp kb_ways_saying (passF (takes_of rfl rfl rfl rfl)) (pk_cons (pv 0) pk_nil)))))) pss_nil) (pss_cons (ps_if (pt_cmpR op_gt (pe_call c__law_size.ok (hr.mono (by decide)) (by rfl) c__law_size.mgx c__law_size.kp c__law_size.bd .nil pass0 (pa_cons (pv 0) pa_nil)) pe_int (nomark _)) (pss_one (ps_ret (pe_cmpR (eqD (K := K) rfl hr.units) (pv 3) (pe_tup (pa_cons pe_str (pa_cons pe_str (pa_cons pe_int pa_nil)))) (nomark _)))) pss_nil) (pss_cons (ps_if (pt_cmpR op_gt (pe_call c__law_many.ok (hr.mono (by decide)) (by rfl) c__law_many.mgx c__law_many.kp c__law_many.bd .nil pass0 (pa_cons (pv 1) pa_nil)) pe_int (nomark _)) (pss_one (ps_ret (pe_cmpR (eqD (K := K) rfl hr.units) (pv 3) (pe_tup (pa_cons pe_str (pa_cons pe_str (pa_cons pe_int pa_nil)))) (nomark _)))) pss_nil) (pss_cons (ps_if (PW.pt (pw_or (pt_cmpR (neD (K := K) rfl hr.units) (pv 3) (pe_call c__law_ways.ok (hr.mono (by decide)) (by rfl) c__law_ways.mgx c__law_ways.kp c__law_ways.bd .nil pass0 (pa_cons (pv 1) pa_nil)) (nomark _)) (pw_or (pt_not (pt_val (pe_callB (isiS (K := K) rfl) (by rfl) T.b_isinstance (by decide +kernel) (pa_cons (pv 3) (pa_cons (pe_bltn (v := .ty "list") (u := .type "list") (by rfl) T.b_list (by decide +kernel) rfl) pa_nil))))) (pw_or1 (pt_not (pt_val (pe_callB (allL (K := K) rfl rfl) (by rfl) T.b_all (by decide +kernel) (pa_cons (pe_lc (own := [("_law_way", 4)]) (g := (gName 4)) (by rfl) sc__law_forms_right.nd (piL (K := K) rfl (pv 3)) (blkOk_by (own := [("_law_way", 4)]) (N := ["_law_saying_here", "_law_kept", "_law_turn", "_law_told", "_law_way"]) (sc := defScope s__law_forms_right) (by decide +kernel)) (fun _ _ _ _ _ => (pg_name (i := 4) sc__law_forms_right.nd rfl (Or.inl rfl))) (fun _ _ _ _ _ => pts_nil) (fun _ _ _ _ _ => (pe_callB (isiS (K := K) rfl) (by rfl) T.b_isinstance (by decide +kernel) (pa_cons (pv 4) (pa_cons (pe_bltn (v := .ty "list") (u := .type "list") (by rfl) T.b_list (by decide +kernel) rfl) pa_nil))))) pa_nil)))))))) (pss_one (ps_ret pe_bl)) pss_nil) (pss_cons (ps_expr (pe_bm PySem.F.plainAttrs_list PySem.F.slot_list_append PySem.F.type_list_append mt_append (pe_ix (ixL (K := K) rfl) (pv 3) pe_int (fun _ _ => rfl)) (pa_cons (pe_tup (pa_cons pe_str (pa_cons (pe_tup (pa_cons pe_str (pa_cons pe_int pa_nil))) (pa_cons (pe_tup (pa_cons pe_str (pa_cons pe_int pa_nil))) pa_nil)))) pa_nil))) (pss_one (ps_expr (pe_bm PySem.F.plainAttrs_list PySem.F.slot_list_append PySem.F.type_list_append mt_append (pv 3) (pa_cons (pe_lst pa_nil) pa_nil))))))))))) (pss_one (ps_ret pe_bl)))), ?_⟩
    have hP : Pu (push t true) := push_pu hS
    have dP : depth (push t true) ≤ 10 := by have := depth_push (b := true) hS; omega
    have tl : Tell (lawW (push t true)) := fun w hw l hl => (law_in hP (by omega) w hw).1 l hl
    refine q_td (etd_call (ea_cons (ev_var rfl) (ea_cons ev_c ea_nil)) (etd_lpush ht hS hd)) fun y H1 e1 h1 => ?_
    refine q_forR1 (n := 2) (ea_cons ev_c ea_nil) (by omega) (fun i σ' H' => ∃ (o2 o3 o4 : Option V), σ' = [some x, some y, o2, o3, o4] ∧ ExtN H H' ∧ Tabs (tabF Pt) H' ∧ At H' y (push t true)) (fun H2 e2 => ⟨none, none, none, rfl, .of (e1.trans e2), hT.ext (e1.trans e2), h1.mono (Tu.ex e2)⟩) (fun i σ' H' hi h => ?_) (fun σ' H' h => ?_)
    · obtain ⟨o2, o3, o4, rfl, eN, T2, hy⟩ := h
      have hx := ht.mono (Tu.exN eN)
      refine asg_k (heardC (fun H1 Q E h => ⟨x, rfl, h⟩) hx hS hz (by omega) T2 fun v0 H3 hv0 => ?_)
      refine q_two (i := 3) (fun v H4 => Heard (tabF Pt) t H' v H4) (et_test (ev_op (ev_var rfl) ev_c (rv_eq rfl))) (fun _ H4 e4 Q' q' => heardC (fun H1 Q E h => ⟨x, rfl, rfl, h⟩) (hx.mono (Tu.exN (exN_ex hv0.ext.1 e4))) hS hz (by omega) (hv0.ext.2.ext e4) fun v H5 hv => q' v H5 (hv.back (exN_ex hv0.ext.1 e4))) (fun _ H4 e4 => ⟨v0, hv0.ex e4, rfl⟩) (fun v H4 hv => ?_)
      have eN4 := eN.trans hv.ext.1
      have hx4 := ht.mono (Tu.exN eN4)
      have hy4 := hy.mono (Tu.exN hv.ext.1)
      have T4 := hv.ext.2
      refine q_when (b := decide (((pcs t).length : Int) > 60)) (et_test (ev_op (ev_call (ea_cons (ev_var rfl) ea_nil) (spv_size hx4 (.inr hS) hd)) ev_c rv_I0)) (fun hb H5 e5 => ?_) (fun hb H5 e5 => ?_)
      · have hgt := of_decide_eq_true hb
        obtain ⟨Ha, p, rfl, _, _, _, _, kk⟩ := hv.ex e5
        have hp5 : H5 p = some (.tup [.str "much", .str "pieces", .int 60]) := by
          rcases kk with ⟨_, h⟩ | ⟨h, _⟩ | ⟨h, _⟩
          · exact h
          · omega
          · omega
        exact s_ret (ev_much hp5 rfl (by decide +kernel) (by decide +kernel)) fun H6 e6 => k H6 (exN_ex eN4 (e5.trans e6)) (T4.ext (e5.trans e6))
      · have hle : (pcs t).length ≤ 60 := by have := of_decide_eq_false hb; omega
        refine q_when (b := decide ((manyW (push t true) : Int) > 60)) (et_test (ev_op (ev_call (ea_cons (ev_var (i := 1) rfl) ea_nil) (spv_mw (hy4.mono (Tu.ex e5)) hP (by omega) (many_lt hS hle))) ev_c rv_I0)) (fun hb2 H6 e6 => ?_) (fun hb2 H6 e6 => ?_)
        · have hgt := of_decide_eq_true hb2
          obtain ⟨Ha, p, rfl, _, _, _, _, kk⟩ := hv.ex (e5.trans e6)
          have hp6 : H6 p = some (.tup [.str "much", .str "ways", .int 60]) := by
            rcases kk with ⟨h, _⟩ | ⟨_, _, h⟩ | ⟨_, h, _⟩
            · omega
            · exact h
            · omega
          exact s_ret (ev_much hp6 rfl (by decide +kernel) (by decide +kernel)) fun H7 e7 => k H7 (exN_ex eN4 ((e5.trans e6).trans e7)) (T4.ext ((e5.trans e6).trans e7))
        · have hm : manyW (push t true) ≤ 60 := by have := of_decide_eq_false hb2; omega
          have hlf : leafs (push t true) ≤ 1000 := by have := leafs_push (b := true) hS; omega
          obtain ⟨Ha, p, rfl, a, b, c, d, kk⟩ := hv.ex (e5.trans e6)
          obtain ⟨vs, hp6, k6, hq⟩ : ∃ vs, H6 p = some (.lst vs) ∧ Lss H6 vs (lawW (push t true)) ∧ ∀ q, V.ref q ∈ vs → Ha q = none ∧ q ≠ p := by
            rcases kk with ⟨h, _⟩ | ⟨_, h, _⟩ | ⟨_, _, h⟩
            · omega
            · omega
            · exact h
          have hlen : vs.length = manyW (push t true) := by rw [k6.len, law_len]
          have hpos : 1 ≤ manyW (push t true) := many_pos
          have hy6 := hy4.mono (Tu.ex (e5.trans e6))
          refine q_when (b := false) (et_or (a := false) (b := false) (et_test (ev_neD (evd_ref (ev_var rfl) (dp_lw hp6 k6 tl)) (evd_lw (elw_call (ea_cons (ev_var rfl) ea_nil) (elw_lways hy6 hP (by omega) (by omega) hlf (by omega))) tl) (shaped_lw tl) (can_lw tl))) fun _ => et_or (a := false) (b := false) (et_not (a := true) (et_test (ev_isiB (b := true) (ev_var rfl) (fun H7 e7 => .base (.lst (e7 p _ hp6))) (by decide +kernel)))) fun _ =>
            et_not (a := true) (et_B (ev_allYes (l := List.range vs.length) (el_eq (el_lcL (fun _ => true) (fun _ => V.bl true) (ev_var rfl) (sq_of hp6) (by omega) (fun _ => rfl) (fun _ _ _ _ _ => lc_yes) (fun j y8 H8 e8 hj _ => ?_)) (by rw [given_all] <;> rfl))))) (fun z => by cases z) fun _ H7 e7 => ?_
          · obtain ⟨q, zs, w8, rfl, _, hq8, _⟩ := k6.get hj
            exact ev_isiB (b := true) (ev_var rfl) (fun H9 e9 => .base (.lst ((e8.trans e9) q _ hq8))) (by decide +kernel)
          · have hp7 := e7 p _ hp6
            obtain ⟨v0', h0'⟩ : ∃ v, vs[0]? = some v := ⟨vs[0]'(by omega), by simp⟩
            obtain ⟨q0, zs, w0, rfl, hw0, hq0, kz0⟩ := (k6.mono e7).get h0'
            obtain ⟨hq0n, hq0p⟩ := hq q0 (List.mem_of_getElem? h0')
            have hzl : zs.length ≤ 1000 := by rw [kz0.len]; have := (law_in hP (by omega) w0 (List.mem_of_getElem? hw0)).2; omega
            have c7 : Ex Ha H7 := c.trans e7
            refine q_app_k (l := q0) (xs := zs) (ev_op (ev_var rfl) ev_c (rv_ixL (sq_of hp7) (atI_nat (j := 0) h0'))) hq0 (fun H8 e8 => (etd_bi ev_c (etd_lf (ea_cons ev_c (ea_cons ev_c ea_nil))) (etd_lf (ea_cons ev_c (ea_cons ev_c ea_nil)))) H8 (Ex.refl _) _ fun v9 H9 e9 _ => ⟨q0, zs, v9, rfl, rfl, (e8.trans e9) _ _ hq0, sz_lt (by omega), ?_⟩)
            have c10 : Ex Ha (upd H9 q0 (.lst (zs ++ [v9]))) := (c7.trans (e8.trans e9)).mut hq0n
            have hp10 : (upd H9 q0 (.lst (zs ++ [v9]))) p = some (.lst vs) := by rw [upd_ne (Ne.symm hq0p)]; exact (e8.trans e9) p _ hp7
            refine s_app_k (l := p) (xs := vs) (ev_var rfl) hp10 (fun H11 e11 => (el_lst (vs := []) ea_nil (by show 0 ≤ 100000; decide)) H11 (Ex.refl _) _ fun r H12 hr e12 h12 => ⟨p, vs, .ref r, rfl, rfl, (e11.trans e12) p _ hp10, sz_lt (by omega), ?_⟩)
            have cF := (c10.trans (e11.trans e12)).mut (o := .lst (vs ++ [.ref r])) d
            exact ⟨_, _, _, rfl, exN_ex (eN.trans a) cF, b.ext cF, hy.mono (Tu.exN (exN_ex a cF))⟩
    · obtain ⟨o2, o3, o4, rfl, eN, T2, hy⟩ := h
      exact s_ret ev_c fun H3 e3 => k H3 (exN_ex eN e3) (T2.ext e3)
end
end K25
end
section
set_option maxHeartbeats 4000000
namespace K25
open PySem L2 Evl G TM TD LamX
/-! ### the literals of ways -/
theorem Has.sub {N R N' R' : List Str} (hN : ∀ x ∈ N, x ∈ N') (hR : ∀ x ∈ R, x ∈ R') : ∀ {t : Td}, Has N R t → Has N' R' t
  | .lf _ _, h => fun n e => hN n (h n e)
  | .ov _ _ _, h => ⟨fun r e => hR r (h.1 r e), Has.sub hN hR h.2⟩
  | .nt t, h => Has.sub hN hR (t := t) h
  | .bi _ _ _, h => ⟨Has.sub hN hR h.1, Has.sub hN hR h.2⟩
theorem day_eq {dn : Str → Int} {wd wd' : Str → List Int} {N R : List Str} (hw : ∀ r ∈ R, wd r = wd' r) : ∀ {t : Td}, Has N R t → dayOf dn wd t = dayOf dn wd' t
  | .lf _ v, _ => by cases v <;> rfl
  | .ov w v t, h => by
    have ih := day_eq (dn := dn) hw h.2
    cases v with
    | str r => show (if w = "on" then onL (wd r) (dayOf dn wd t) else if w = "by" then byL (wd r) (dayOf dn wd t) else tilL (wd r) (dayOf dn wd t)) = (if w = "on" then onL (wd' r) (dayOf dn wd' t) else if w = "by" then byL (wd' r) (dayOf dn wd' t) else tilL (wd' r) (dayOf dn wd' t)); rw [ih, hw r (h.1 r rfl)]
    | int i => show dayOf dn wd t + i = dayOf dn wd' t + i; rw [ih]
    | _ => rfl
  | .nt _, _ => rfl
  | .bi w t u, h => by
    have i1 := day_eq (dn := dn) hw h.1
    have i2 := day_eq (dn := dn) hw h.2
    unfold dayOf
    rw [i1, i2]
theorem so_eq {dn : Str → Int} {wd wd' : Str → List Int} {N R : List Str} (hw : ∀ r ∈ R, wd r = wd' r) : ∀ {t : Td}, Has N R t → soOf dn wd t = soOf dn wd' t
  | .lf _ _, _ => rfl
  | .ov _ _ _, _ => rfl
  | .nt t, h => by
    have ih := so_eq (dn := dn) hw (t := t) h
    show (!soOf dn wd t) = !soOf dn wd' t
    rw [ih]
  | .bi w t u, h => by
    have i1 := so_eq (dn := dn) hw h.1
    have i2 := so_eq (dn := dn) hw h.2
    unfold soOf
    rw [day_eq hw h.1, day_eq hw h.2, i1, i2]
/-- a literal of a way of t -/
structure Lit (N R : List Str) (t : Td) (b : Bool) (l : Td) : Prop where
  has : Has N R t → Has N R l
  sm : Small t → Small l
  sz : (pcs l).length ≤ (pcs t).length + (if b = true then 0 else 1)
theorem lit_in {N R : List Str} : ∀ {t : Td} {b : Bool}, IsS t → ∀ w ∈ waysT (push t b), ∀ l ∈ w, Lit N R t b l
  | .lf _ _, _, h => h.elim
  | .ov _ _ _, _, h => h.elim
  | .nt u, b, h => fun w hw l hl => by
    have ih := lit_in (N := N) (R := R) (t := u) (b := !b) h w hw l hl
    refine ⟨ih.has, ih.sm, ?_⟩
    have h1 := ih.sz
    show (pcs l).length ≤ (pcs u).length + 1 + _
    cases b <;> simp at h1 ⊢ <;> omega
  | .bi v t u, b, h => fun w hw l hl => by
    have pl : (pcs (.bi v t u)).length = (pcs t).length + (pcs u).length + 1 := by show (pcs t ++ pcs u).length + 1 = _; rw [List.length_append]
    rcases h with ⟨rfl, h1, h2⟩ | ⟨hv, h1, h2⟩
    · cases b with
      | true =>
        have e : waysT (push (.bi "le" t u) true) = [[.bi "le" t u]] := rfl
        rw [e] at hw
        simp at hw
        subst hw
        simp at hl
        subst hl
        exact ⟨id, id, Nat.le_add_right _ _⟩
      | false =>
        have e : waysT (push (.bi "le" t u) false) = [[.nt (.bi "le" t u)]] := rfl
        rw [e] at hw
        simp at hw
        subst hw
        simp at hl
        subst hl
        exact ⟨id, id, Nat.le_refl _⟩
    · have hne : v ≠ "le" := by rcases hv with e | e <;> (rw [e]; decide)
      rw [push_bi hne] at hw
      have hv' : (if b = true then v else flipW v) = "and" ∨ (if b = true then v else flipW v) = "or" := by
        cases b with
        | true => rw [if_pos rfl]; exact hv
        | false =>
          rw [if_neg (by decide)]
          unfold flipW
          split
          · exact .inr rfl
          · exact .inl rfl
      generalize (if b = true then v else flipW v) = z at hw hv'
      rw [ways_bi hv'] at hw
      have one : ∀ x ∈ waysT (push t b), ∀ l ∈ x, Lit N R (.bi v t u) b l := fun x hx l hl => by
        have i := lit_in (N := N) (R := R) (t := t) (b := b) h1 x hx l hl
        exact ⟨fun h => i.has h.1, fun h => i.sm h.1, by have := i.sz; rw [pl]; omega⟩
      have two : ∀ x ∈ waysT (push u b), ∀ l ∈ x, Lit N R (.bi v t u) b l := fun x hx l hl => by
        have i := lit_in (N := N) (R := R) (t := u) (b := b) h2 x hx l hl
        exact ⟨fun h => i.has h.2, fun h => i.sm h.2, by have := i.sz; rw [pl]; omega⟩
      split at hw
      · rcases List.mem_append.mp hw with hw | hw
        · exact one w hw l hl
        · exact two w hw l hl
      · obtain ⟨x, hx, hw⟩ := List.mem_flatMap.mp hw
        obtain ⟨y, hy, rfl⟩ := List.mem_map.mp hw
        rcases List.mem_append.mp hl with hl | hl
        · exact one x hx l hl
        · exact two y hy l hl
theorem all_dedup (f : Td → Bool) (w : List Td) : (dedup w).all f = w.all f := by
  have e : ∀ b : Bool, ((dedup w).all f = b) → w.all f = b := fun b h => by
    cases b with
    | true => exact List.all_eq_true.mpr fun x hx => List.all_eq_true.mp h x (mem_dedup.mpr hx)
    | false =>
      obtain ⟨x, hx, hf⟩ := List.all_eq_false.mp h
      exact List.all_eq_false.mpr ⟨x, mem_dedup.mp hx, hf⟩
  exact (e _ rfl).symm
theorem law_so {dn : Str → Int} {wd : Str → List Int} {t : Td} (h : IsS t) : ((lawW (push t true)).map fun w => w.all fun l => soOf dn wd l).any id = soOf dn wd t := by
  rw [law_ways, List.map_map, List.any_map]
  have e : (id ∘ ((fun w => w.all fun l => soOf dn wd l) ∘ dedup)) = fun w : List Td => w.all fun l => soOf dn wd l := by
    funext w
    exact all_dedup _ w
  rw [e, ways_so (push_pu h), push_so h, if_pos rfl]
end K25
end
section
set_option maxHeartbeats 4000000
namespace K25
open PySem L2 Evl G TM TD LamX
section
variable {K : PySem.W.Frag} {σ : L2.St} {H : Hp} {ta tb te tl : TE} {tA : TA} {a p : Addr} {j : Nat} {vs : List Nat} {us : List V} {W : List (List Td)} {Q : VK} {D : Ends} {tz : TS} {g : TG}
theorem asgG_k (h : ta σ H fun v H1 => g v σ H1 fun σ' H' => tz D σ' H') : tSeq (tAsg ta g) tz D σ H := h
theorem rc_any {bs : List Bool} (h : SqL K H p (bs.map V.bl)) : RC (rAny K) [.ref p] H (.bl (bs.any id)) := fun H1 e Q q => ⟨p, bs, rfl, ex_l e h, q H1 (Ex.refl _)⟩
theorem ev_callTd {sp : Sp} {dvs : List V} {E : XK} {t : Td} {z : V} (h : EvTd te σ H t) (hs : ∀ v H1, Ex H H1 → At H1 v t → SpV sp ([v] ++ dvs) H1 z) : Ev (tCall sp dvs E (tCons te tNil)) σ H z := fun H1 e Q q =>
  h H1 e _ fun v H2 e2 a => hs v H2 (e.trans e2) a H2 (Ex.refl _) Q (fun H3 e3 => q H3 (e2.trans e3)) _
theorem range_get {α : Type} (W : List (List Td)) (g : List Td → α) : (List.range W.length).map (fun i => g (W.getD i [])) = W.map g := by
  refine List.ext_getElem (by simp) fun i h1 h2 => ?_
  simp only [List.length_map, List.length_range] at h1
  simp [List.getD_eq_getElem?_getD, List.getElem?_eq_getElem h1]
/-- [e for w in lists] -/
theorem el_lcLw (g : List Td → V) (hl : Ev tl σ H (.ref a)) (ha : H a = some (.lst us)) (k : Lss H us W) (hz : W.length ≤ 40000) (hw : ∀ x, wipe ((wipe σ vs).set j (some x)) vs = wipe σ vs)
    (he : ∀ q zs w H1, Ex H H1 → H1 q = some (.lst zs) → Ats H1 zs w → w ∈ W → Ev te ((wipe σ vs).set j (some (.ref q))) H1 (g w)) : EvL (tLc (iList K tl) (gName j) tYes te vs) σ H (W.map g) := by
  refine el_eq (el_lcL (fun _ => true) (fun i => g (W.getD i [])) hl (sq_of ha) (by rw [k.len]; exact hz) hw (fun _ _ _ _ _ => lc_yes) (fun i x H1 e1 hi _ => ?_)) (by rw [given_all, k.len, range_get])
  obtain ⟨q, zs, w, rfl, hwi, hq, kz⟩ := (k.mono e1).get hi
  rw [show W.getD i [] = w by rw [List.getD_eq_getElem?_getD, hwi]; rfl]
  exact he q zs w H1 e1 hq kz (List.mem_of_getElem? hwi)
/-- all([e for l in a list]) -/
theorem ev_allB (f : Td → Bool) {ts : List Td} (h : EvL te σ H (ts.map fun t => V.bl (f t))) : Ev (tCB (rAll K) (tCons te tNil)) σ H (.bl (ts.all f)) := ev_cbL h fun p H1 e h1 => by
  have := rc_all (K := K) (H := H1) (p := p) (bs := ts.map f) (sq_of (by rw [List.map_map]; exact h1))
  rw [List.all_map] at this
  exact this
theorem lss_wo {H' : Hp} {vs : List V} (h : Lss H vs W) (hn : ∀ q, V.ref q ∈ vs → q ≠ p) (hp : PotAt H p) (e : Ex (wo H p) H') : Lss H' vs W := by
  induction h with
  | nil => exact .nil
  | @cons q zs w vs W a b _ ih => exact .cons (e q _ (by rw [wo_ne (hn q (by simp))]; exact a)) (b.mono (tu_wo hp e)) (ih fun q hq => hn q (by simp [hq]))
noncomputable def dBl (bs : List Bool) : PyData := .list (bs.map PyData.bool)
theorem can_bl (bs : List Bool) : (dBl bs).canLay0 = true := by
  show PyData.canLay0 (.list _) = true
  rw [PyData.canLay0]
  induction bs with
  | nil => rfl
  | cons b bs ih => rw [List.map_cons, PyData.canLayAll0, ih, PyData.canLay0]; rfl
theorem shaped_bl (bs : List Bool) : SeqAt.shaped (dBl bs) = true := by
  refine shaped_of (can_bl bs) ?_
  have : PyData.depthAll (bs.map PyData.bool) ≤ 0 := depth_all fun d hd => by
    obtain ⟨b, _, rfl⟩ := List.mem_map.mp hd
    simp [PyData.depth]
  show PyData.depth (.list _) ≤ 64
  rw [PyData.depth]
  omega
theorem dpall_bl : ∀ bs : List Bool, DpAll K H (bs.map V.bl) (bs.map PyData.bool)
  | [] => .nil
  | b :: bs => .cons (.bl b) (dpall_bl bs)
theorem dp_bl {bs : List Bool} (h : H p = some (.lst (bs.map V.bl))) : Dp K H (.ref p) (dBl bs) := .lst (sq_of h) (dpall_bl bs)
end
/-- names or rules, some, told by a list of their own -/
structure Nm (H : Hp) (p a : Addr) (N all : List Str) : Prop where
  at_ : wo H p a = some (.lst (N.map V.str))
  few : N.length < 64
  nd : N.Nodup
  sub : ∀ x ∈ N, x ∈ all
theorem Nm.ne {H : Hp} {p a : Addr} {N all : List Str} (h : Nm H p a N all) : a ≠ p := fun z => by have := h.at_; rw [z, wo_at] at this; cases this
theorem Nm.draw {H H' : Hp} {p a : Addr} {N all : List Str} (h : Nm H p a N all) (e : Ex (wo H p) H') : Nm H' p a N all := ⟨by rw [wo_ne h.ne]; exact e _ _ h.at_, h.few, h.nd, h.sub⟩
theorem Nm.ext {H H' : Hp} {p a : Addr} {N all : List Str} (h : Nm H p a N all) (e : Ex H H') : Nm H' p a N all := h.draw (wo_ex.trans e)
noncomputable def sp_worths : Sp := fun vs H Q _ => ∃ (p : Addr) (x : V) (nl rl : Addr) (N R : List Str) (t : Td), vs = [.ref p, x, .ref nl, .ref rl] ∧ PotAt H p ∧ At H x t ∧ IsS t ∧ Has N R t ∧ depth t ≤ 7 ∧ (pcs t).length ≤ 1000 ∧ Small t ∧ Nm H p nl N nameL ∧ Nm H p rl R ruleL ∧
  ∀ H2, Ex (wo H p) H2 → PotAt H2 p → Q (.bl true) H2
section
variable {P : Program} {w : World} {K : PySem.W.Frag} {mg : Str → Option Value} {base : Heap} {C SZ SY CJ CT fT Pt : Addr}
theorem ok_worths {f f1 f2 f3 f4 f5 f6 f7 f8 f9 f10 : Addr} {fd fd1 fd2 fd3 fd4 fd5 fd6 fd7 fd8 fd9 fd10 : FuncData} (F : Fun K "_law_worths_right" "_law_worths_right" s__law_worths_right f fd) (T : Txt P w K mg C SZ SY) (c__law_size : Cal P w K mg base "_law_size" f1 fd1 ["_law_told"] 12 (sp_size 10)) (c__law_many : Cal P w K mg base "_law_many" f2 fd2 ["_law_saying_here"] 14 (sp_mw 12))
    (c__law_pushed : Cal P w K mg base "_law_pushed" f3 fd3 ["_law_saying_here", "_law_is_so_here"] 12 (sp_lpush 10)) (c_ways : CalX P w K mg base "ways" f4 fd4 ["saying"] 23 (sp_ways CT)) (c__law_days : Cal P w K mg base "_law_days" f5 fd5 ["_law_pot_here", "_law_names"] 3 sp_ldays) (c__law_world : Cal P w K mg base "_law_world" f6 fd6 ["_law_pot_here", "_law_rules"] 4 (sp_lworld K))
    (c__law_tables : Cal P w K mg base "_law_tables" f7 fd7 ["_law_world_here"] 5 (sp_tables K C)) (c_holds : Cal P w K mg base "holds" f8 fd8 ["saying", "days", "world"] 27 (sp_holds K C)) (c__law_is_so : Cal P w K mg base "_law_is_so" f9 fd9 ["_law_saying_here", "_law_days_here", "_law_world_here"] 24 (sp_lso K 10)) (c__law_is_just : Cal P w K mg base "_law_is_just" f10 fd10 ["_law_told", "_law_due"] 1 sp_just) :
    FnOk P w K mg base CX0 28 f fd ["_law_pot_here", "_law_saying_here", "_law_names", "_law_rules"] sp_worths := by
  refine F.ok sc__law_worths_right (fun vs H Q E h => ?_) (fun cdv A outer s H vs Q E hr h => ?_)
  · obtain ⟨p, x, nl, rl, N, R, t, rfl, _⟩ := h
    rfl
  · obtain ⟨p, x, nl, rl, N, R, t, rfl, hp, ht, hS, hH, hd, hz, hsm, nN, nR, k⟩ := h
    have hP : Pu (push t true) := push_pu hS
    have dP : depth (push t true) ≤ 8 := by have := depth_push (b := true) hS; omega
    refine ⟨_, (pss_cons (ps_if (PW.pt (pw_or (pt_cmpR op_gt (pe_call c__law_size.ok (hr.mono (by decide)) (by rfl) c__law_size.mgx c__law_size.kp c__law_size.bd .nil pass0 (pa_cons (pv 1) pa_nil)) pe_int (nomark _)) (pw_or1 (pt_cmpR op_gt (pe_call c__law_many.ok (hr.mono (by decide)) (by rfl) c__law_many.mgx c__law_many.kp c__law_many.bd .nil pass0 (pa_cons (pe_call c__law_pushed.ok (hr.mono (by decide)) (by rfl) c__law_pushed.mgx c__law_pushed.kp c__law_pushed.bd .nil pass0 (pa_cons (pv 1) (pa_cons pe_bl pa_nil))) pa_nil)) pe_int (nomark _))))) (pss_one (ps_ret pe_bl)) pss_nil) (pss_cons (ps_set (i := 4) sc__law_worths_right.nd rfl (Or.inl rfl) (pe_call c_ways.ok (hr.mono (by decide)) (by rfl) c_ways.mgx c_ways.kp c_ways.bd .nil passL (pa_cons (pv 1) pa_nil))) (pss_cons (ps_for PassesOwn.never rfl (pi_range1 (by rfl) T.b_range (pa_cons pe_int pa_nil)) (pg_name (i := 5) sc__law_worths_right.nd rfl (Or.inl rfl)) (pss_cons (ps_asg (pe_tup (pa_cons (pe_call c__law_days.ok (hr.mono (by decide)) (by rfl) c__law_days.mgx c__law_days.kp c__law_days.bd .nil pass0 (pa_cons (pv 0) (pa_cons (pv 2) pa_nil))) (pa_cons (pe_call c__law_world.ok (hr.mono (by decide)) (by rfl) c__law_world.mgx c__law_world.kp c__law_world.bd .nil pass0 (pa_cons (pv 0) (pa_cons (pv 3) pa_nil))) pa_nil))) (pg_tup (by rfl) (pgs_cons (pg_name (i := 6) sc__law_worths_right.nd rfl (Or.inr rfl)) (pgs_cons (pg_name (i := 7) sc__law_worths_right.nd rfl (Or.inr rfl)) pgs_nil)))) (pss_cons (ps_set (i := 8) sc__law_worths_right.nd rfl (Or.inr rfl) (pe_call c__law_tables.ok (hr.mono (by decide)) (by rfl) c__law_tables.mgx c__law_tables.kp c__law_tables.bd .nil pass0 (pa_cons (pv 7) pa_nil))) (pss_cons (ps_setLc (i := 9) (own := [("_law_way", 11)]) (g := (gName 11)) (by rfl) sc__law_worths_right.nd rfl rfl (sw_true rfl rfl rfl (by decide +kernel)) (piL (K := K) rfl (pv 4)) (blkOk_by (own := [("_law_way", 11)]) (N := ["_law_pot_here", "_law_saying_here", "_law_names", "_law_rules", "_law_told", "_law_turn", "_law_days_here", "_law_world_here", "_law_tables_here", "_law_found", "_law_due", "_law_way", "_law_literal"]) (sc := defScope s__law_worths_right) (by decide +kernel)) (fun _ _ _ _ _ => (pg_name (i := 11) sc__law_worths_right.nd rfl (Or.inl rfl))) (fun _ _ _ _ _ => pts_nil) (fun _ _ _ _ _ => (pe_callB (allL (K := K) rfl rfl) (by rfl) T.b_all (by decide +kernel) (pa_cons (by exact (pe_lc (own := [("_law_literal", 12)]) (g := (gName 12)) (by rfl) sc__law_worths_right.nd (piL (K := K) rfl (pv 11)) (blkOk_by (own := [("_law_literal", 12)]) (by rfl)) (fun _ _ _ _ _ => (pg_name (i := 12) sc__law_worths_right.nd rfl (Or.inl rfl))) (fun _ _ _ _ _ => pts_nil) (fun _ _ _ _ _ => (pe_call c_holds.ok (hr.mono (by decide)) (by rfl) c_holds.mgx c_holds.kp c_holds.bd .nil pass0 (pa_cons (pv 12) (pa_cons (pv 6) (pa_cons (pv 8) pa_nil))))))) pa_nil)))) (pss_cons (ps_setLc (i := 10) (own := [("_law_way", 11)]) (g := (gName 11)) (by rfl) sc__law_worths_right.nd rfl rfl (sw_true rfl rfl rfl (by decide +kernel)) (piL (K := K) rfl (pv 4)) (blkOk_by (own := [("_law_way", 11)]) (N := ["_law_pot_here", "_law_saying_here", "_law_names", "_law_rules", "_law_told", "_law_turn", "_law_days_here", "_law_world_here", "_law_tables_here", "_law_found", "_law_due", "_law_way", "_law_literal"]) (sc := defScope s__law_worths_right) (by decide +kernel)) (fun _ _ _ _ _ => (pg_name (i := 11) sc__law_worths_right.nd rfl (Or.inl rfl))) (fun _ _ _ _ _ => pts_nil) (fun _ _ _ _ _ => (pe_callB (allL (K := K) rfl rfl) (by rfl) T.b_all (by decide +kernel) (pa_cons (by exact (pe_lc (own := [("_law_literal", 12)]) (g := (gName 12)) (by rfl) sc__law_worths_right.nd (piL (K := K) rfl (pv 11)) (blkOk_by (own := [("_law_literal", 12)]) (by rfl)) (fun _ _ _ _ _ => (pg_name (i := 12) sc__law_worths_right.nd rfl (Or.inl rfl))) (fun _ _ _ _ _ => pts_nil) (fun _ _ _ _ _ => (pe_call c__law_is_so.ok (hr.mono (by decide)) (by rfl) c__law_is_so.mgx c__law_is_so.kp c__law_is_so.bd .nil pass0 (pa_cons (pv 12) (pa_cons (pv 6) (pa_cons (pv 7) pa_nil))))))) pa_nil)))) (pss_cons (ps_if (PW.pt (pw_or (pt_cmpR (neD (K := K) rfl hr.units) (pv 9) (pv 10) (nomark _)) (pw_or1 (pt_not (pt_val (pe_call c__law_is_just.ok (hr.mono (by decide)) (by rfl) c__law_is_just.mgx c__law_is_just.kp c__law_is_just.bd .nil pass0 (pa_cons (pe_call c_holds.ok (hr.mono (by decide)) (by rfl) c_holds.mgx c_holds.kp c_holds.bd .nil pass0 (pa_cons (pv 1) (pa_cons (pv 6) (pa_cons (pv 8) pa_nil)))) (pa_cons (pe_callB (cr_any rfl) (by rfl) T.b_any (by decide +kernel) (pa_cons (pv 9) pa_nil)) pa_nil)))))))) (pss_one (ps_ret pe_bl)) pss_nil) (pss_one (ps_if (pt_cmpR op_ne (pe_callB (cr_any rfl) (by rfl) T.b_any (by decide +kernel) (pa_cons (pv 9) pa_nil)) (pe_call c__law_is_so.ok (hr.mono (by decide)) (by rfl) c__law_is_so.mgx c__law_is_so.kp c__law_is_so.bd .nil pass0 (pa_cons (pv 1) (pa_cons (pv 6) (pa_cons (pv 7) pa_nil)))) (nomark _)) (pss_one (ps_ret pe_bl)) pss_nil)))))))) (pss_one (ps_ret pe_bl))))), ?_⟩
    refine q_when (b := decide (((pcs t).length : Int) > 60) || decide ((manyW (push t true) : Int) > 60)) (et_or (a := decide (((pcs t).length : Int) > 60)) (b := decide ((manyW (push t true) : Int) > 60)) (et_test (ev_op (ev_call (ea_cons (ev_var rfl) ea_nil) (spv_size ht (.inr hS) (by omega))) ev_c rv_I0)) fun ha => ?_) (fun _ H1 e1 => s_ret ev_c fun H2 e2 => k H2 (wo_ex.trans (e1.trans e2)) (hp.mono (e1.trans e2))) (fun hb H1 e1 => ?_)
    · have hle : (pcs t).length ≤ 60 := by have := of_decide_eq_false ha; omega
      exact et_test (ev_op (ev_callTd (etd_call (ea_cons (ev_var rfl) (ea_cons ev_c ea_nil)) (etd_lpush ht hS (by omega))) fun v H1 e1 hv => spv_mw hv hP (by omega) (many_lt hS hle)) ev_c rv_I0)
    · have hle : (pcs t).length ≤ 60 := by
        have : decide (((pcs t).length : Int) > 60) = false := by cases q : decide (((pcs t).length : Int) > 60) with | true => rw [q] at hb; cases hb | false => rfl
        have := of_decide_eq_false this
        omega
      have hm : manyW (push t true) ≤ 60 := by
        have : decide ((manyW (push t true) : Int) > 60) = false := by cases q : decide ((manyW (push t true) : Int) > 60) with | true => rw [q, Bool.or_true] at hb; cases hb | false => rfl
        have := of_decide_eq_false this
        omega
      have hlit : ∀ w ∈ lawW (push t true), ∀ l ∈ w, IsS l ∧ depth l ≤ 8 ∧ Has N R l ∧ Small l ∧ (pcs l).length ≤ 60 := fun w hw l hl => by
        rw [law_ways] at hw
        obtain ⟨y, hy, rfl⟩ := List.mem_map.mp hw
        have hl' := mem_dedup.mp hl
        have h1 := way_in hP y hy l hl'
        have h2 := lit_in (N := N) (R := R) hS y hy l hl'
        have h3 := h2.sz
        rw [if_pos rfl] at h3
        exact ⟨h1.1, by omega, h2.has hH, h2.sm hsm, by omega⟩
      refine asg_k (call_k (ac_v (ev_var rfl) fun H2 e2 => ac_nil ⟨x, t, rfl, ht.mono (Tu.ex (e1.trans e2)), hS, hz, by omega, fun z => by omega, fun _ z => by omega, fun _ _ p0 us H3 hp0 e3 h3 k3 hq => ?_⟩))
      have e13 := (e1.trans e2).trans e3
      have hp3 := hp.mono e13
      obtain ⟨o0, ho0⟩ := (hp.mono (e1.trans e2)).some
      have p0p : p0 ≠ p := (ne_of_none ho0 hp0).symm
      have usp : ∀ q, V.ref q ∈ us → q ≠ p := fun q h => (ne_of_none ho0 (hq q h).1).symm
      have hlen : (lawW (push t true)).length ≤ 60 := by rw [law_len]; exact hm
      refine q_forR1 (n := 3) (ea_cons ev_c ea_nil) (by omega) (fun i σ' H' => ∃ (o5 o6 o7 o8 o9 o10 o11 o12 : Option V), σ' = [some (.ref p), some x, some (.ref nl), some (.ref rl), some (.ref p0), o5, o6, o7, o8, o9, o10, o11, o12] ∧ Ex (wo H3 p) H' ∧ PotAt H' p) (fun H4 e4 => ⟨_, _, _, _, _, _, _, _, rfl, wo_ex.trans e4, hp3.mono e4⟩) (fun i σ' H' hi h => ?_) (fun σ' H' h => ?_)
      · obtain ⟨o5, o6, o7, o8, o9, o10, o11, o12, rfl, x', hp'⟩ := h
        have x0 : Ex (wo H p) H' := wo_tr (wo_ex.trans e13) x'
        have nN' := nN.draw x0
        have nR' := nR.draw x0
        -- days and a world
        refine asgG_k (tup_k (ac_k (call_k (ac_v (ev_var rfl) fun H4 e4 => ac_v (ev_var rfl) fun H5 e5 => ac_nil ⟨p, nl, N, rfl, (hp'.mono e4).mono e5, (nN'.ext (e4.trans e5)).at_, by have := nN.few; omega, nN.nd, nN.sub, fun d ds H6 hd6 e6 hp6 hds hbs hkd => ?_⟩))))
        have x46 : Ex (wo H' p) H6 := wo_tr (wo_ex.trans (e4.trans e5)) e6
        obtain ⟨o1, ho1⟩ := ((hp'.mono e4).mono e5).some
        have dp : d ≠ p := (ne_of_none ho1 hd6).symm
        have nR6 := nR'.draw x46
        refine ac_k (call_k (ac_v (ev_var rfl) fun H7 e7 => ac_v (ev_var rfl) fun H8 e8 => ac_nil ⟨p, rl, R, rfl, (hp6.mono e7).mono e8, (nR6.ext (e7.trans e8)).at_, by have := nR.few; omega, nR.nd, nR.sub, fun wd ws H9 hwd e9 hp9 hls hrw hkw => ac_nil ⟨by show 2 ≤ sizeLine; decide, fun tp htp => ⟨tp, _, rfl, st_of upd_same, rfl, _, _, rfl, _, _, rfl, rfl, ?_⟩⟩⟩))
        have x69 : Ex (wo H6 p) H9 := wo_tr (wo_ex.trans (e7.trans e8)) e9
        have etp := Ex.new (o := .tup [.ref d, .ref wd]) htp
        have hds10 := (show DaysAt H9 d ds from ⟨x69 d _ (by rw [wo_ne dp]; exact hds.1), hds.2⟩).mono etp
        have hls10 : ListsAt K _ wd ws := (hls.mono wo_ex).mono etp
        have hrw10 : ∀ q ∈ ws, (upd H9 tp (.tup [.ref d, .ref wd])) q.2.1 = some (.lst (q.2.2.map V.int)) := fun q hq => etp _ _ (wo_ex _ _ (hrw q hq).2)
        have x10 : Ex (wo H3 p) (upd H9 tp (.tup [.ref d, .ref wd])) := (wo_tr (wo_tr x' x46) x69).trans etp
        have hp10 := hp9.mono etp
        generalize upd H9 tp (.tup [.ref d, .ref wd]) = H10 at hds10 hls10 hrw10 x10 hp10 ⊢
        clear e4 e5 e6 e7 e8 e9 x46 x69 hd6 hwd hp6 hp9 hls hrw hds etp htp nN' nR' nR6 ho1
        have few_ws : ws.length < 64 := by have := congrArg List.length hkw; rw [List.length_map] at this; rw [this]; exact nR.few
        have nd_ws : (ws.map (·.1)).Nodup := by rw [hkw]; exact nR.nd
        -- Tables
        refine asg_k (call_k (ac_v (ev_var rfl) fun H11 e11 => ac_nil ⟨wd, ws, rfl, hls10.mono e11, fun q hq => e11 _ _ (hrw10 q hq), nd_ws, few_ws, fun tb wsT H12 htb e12 hwT hnT hmT hwdT hlT => ?_⟩))
        have e1012 := e11.trans e12
        obtain ⟨o2, ho2⟩ := hp10.some
        have hwT12 : WorldAt K C H12 tb wsT := (hwT p (by rw [e11 p _ ho2]; exact fun z => by cases z)).mono wo_ex
        have hds12 := hds10.mono e1012
        have hls12 := hls10.mono e1012
        have x12 : Ex (wo H3 p) H12 := x10.trans e1012
        have hp12 := hp10.mono e1012
        clear hwT e11 e12 htb e1012 hds10 hls10 hrw10 x10 ho2
        have hasT : ∀ l, Has N R l → Has (ds.map (·.1)) (wsT.map (·.1)) l := fun l h => h.sub (fun z hz => by rw [hkd]; exact hz) fun z hz => (hmT z).mpr (by rw [hkw]; exact hz)
        have hasW : ∀ l, Has N R l → Has (ds.map (·.1)) (ws.map (·.1)) l := fun l h => h.sub (fun z hz => by rw [hkd]; exact hz) fun z hz => by rw [hkw]; exact hz
        have eqT : ∀ l, Has N R l → soOf (dnOf ds) (wdOf wsT) l = soOf (dnOf ds) (wdOf ws) l := fun l h => so_eq (N := N) (R := R) (fun r hr => hwdT r (by rw [hkw]; exact hr)) h
        have hp012 : H12 p0 = some (.lst us) := x12 p0 _ (by rw [wo_ne p0p]; exact h3)
        have k12 : Lss H12 us (lawW (push t true)) := lss_wo k3 usp hp3 x12
        have ht12 : At H12 x t := (ht.mono (Tu.ex e13)).mono (tu_wo hp3 x12)
        generalize hso : (fun l => soOf (dnOf ds) (wdOf ws) l) = so at eqT
        have eso : ∀ l, soOf (dnOf ds) (wdOf ws) l = so l := fun l => by rw [← hso]
        have lawso : ((lawW (push t true)).map fun w => w.all so).any id = so t := by rw [← hso]; exact law_so hS
        -- found
        refine q_asgL (xs := ((lawW (push t true)).map fun w => w.all so).map V.bl) (el_eq (el_lcLw (fun w => V.bl (w.all so)) (ev_var rfl) hp012 k12 (by omega) (fun _ => rfl) (fun q zs w H13 e13' hq13 kz hw => ev_allB so (el_eq (el_lcLv (K := K) (fun _ => true) (fun l => V.bl (so l)) (ev_var (i := 11) rfl) hq13 kz (by have := (law_in hP (by omega) w hw).2; have := leafs_push (b := true) hS; omega) (fun _ => rfl) (fun _ _ _ _ _ _ => lc_yes) (fun y l H14 e14 hy hl _ => ?_)) (by rw [filter_yes])))) (by rw [List.map_map] <;> rfl)) fun F1 H13 hF1 e13' h13 => ?_
        · obtain ⟨l1, l2, l3, l4, l5⟩ := hlit w hw l hl
          exact ev_is (ev_call (ea_cons (ev_var (i := 12) rfl) (ea_cons (ev_var (i := 6) rfl) (ea_cons (ev_var (i := 8) rfl) ea_nil))) (spv_holds hy l1 (by omega) l5 (hds12.mono (e13'.trans e14)) (hwT12.mono (e13'.trans e14)) (hasT l l3))) (by rw [eqT l l3, eso])
        -- due
        have e1213 := e13'
        refine q_asgL (xs := ((lawW (push t true)).map fun w => w.all so).map V.bl) (el_eq (el_lcLw (fun w => V.bl (w.all so)) (ev_var (i := 4) rfl) (e1213 p0 _ hp012) (k12.mono e1213) (by omega) (fun _ => rfl) (fun q zs w H14 e14 hq14 kz hw => ev_allB so (el_eq (el_lcLv (K := K) (fun _ => true) (fun l => V.bl (so l)) (ev_var (i := 11) rfl) hq14 kz (by have := (law_in hP (by omega) w hw).2; have := leafs_push (b := true) hS; omega) (fun _ => rfl) (fun _ _ _ _ _ _ => lc_yes) (fun y l H15 e15 hy hl _ => ?_)) (by rw [filter_yes])))) (by rw [List.map_map] <;> rfl)) fun F2 H14 hF2 e14 h14 => ?_
        · obtain ⟨l1, l2, l3, l4, l5⟩ := hlit w hw l hl
          exact ev_is (ev_call (ea_cons (ev_var (i := 12) rfl) (ea_cons (ev_var (i := 6) rfl) (ea_cons (ev_var (i := 7) rfl) ea_nil))) (spv_lso hy l1 (by omega) (by omega) (by omega) l4 (hds12.mono ((e1213.trans e14).trans e15)) hbs.bd (hls12.mono ((e1213.trans e14).trans e15)) (hasW l l3))) (by rw [eso])
        have e1214 := e1213.trans e14
        have h13' : H14 F1 = some (.lst (((lawW (push t true)).map fun w => w.all so).map V.bl)) := e14 F1 _ h13
        have evH : ∀ {HX : Hp} {σ : L2.St} {E : XK}, Ex H14 HX → σ[1]? = some (some x) → σ[6]? = some (some (.ref d)) → σ[8]? = some (some (.ref tb)) → Ev (tCall (sp_holds K C) [] E (tCons (tVar 1) (tCons (tVar 6) (tCons (tVar 8) tNil)))) σ HX (.bl (so t)) := fun e q1 q2 q3 =>
          ev_is (ev_call (ea_cons (ev_var q1) (ea_cons (ev_var q2) (ea_cons (ev_var q3) ea_nil))) (spv_holds (ht12.mono (Tu.ex (e1214.trans e))) hS (by omega) hle (hds12.mono (e1214.trans e)) (hwT12.mono (e1214.trans e)) (hasT t hH))) (by rw [eqT t hH, eso])
        have evA : ∀ {HX : Hp} {σ : L2.St}, Ex H14 HX → σ[9]? = some (some (.ref F1)) → Ev (tCB (rAny K) (tCons (tVar 9) tNil)) σ HX (.bl (so t)) := fun e q => ev_is (ev_cb (ea_cons (ev_var q) ea_nil) (rc_any (bs := (lawW (push t true)).map fun w => w.all so) (sq_of (e F1 _ h13')))) (by rw [lawso])
        refine q_when (b := false) (et_or (a := false) (b := false) (et_test (ev_neD (evd_ref (ev_var (i := 9) rfl) (dp_bl h13')) (evd_ref (ev_var (i := 10) rfl) (dp_bl h14)) (shaped_bl _) (can_bl _))) fun _ => et_not (a := true) (et_B (ev_is (ev_call (ea_cons (evH (Ex.refl _) rfl rfl rfl) (ea_cons (evA (Ex.refl _) rfl) ea_nil)) spv_just) (by simp)))) (fun z => by cases z) fun _ H15 e15 => ?_
        refine s_when (b := false) (et_is (et_test (ev_op (evA e15 rfl) (ev_is (ev_call (ea_cons (ev_var (i := 1) rfl) (ea_cons (ev_var (i := 6) rfl) (ea_cons (ev_var (i := 7) rfl) ea_nil))) (spv_lso (ht12.mono (Tu.ex (e1214.trans e15))) hS (by omega) (by omega) (by omega) hsm (hds12.mono (e1214.trans e15)) hbs.bd (hls12.mono (e1214.trans e15)) (hasW t hH))) (by rw [eso])) (rv_ne rfl))) (by simp)) (fun z => by cases z) fun _ H16 e16 => ?_
        exact ⟨_, _, _, _, _, _, _, _, rfl, x12.trans (e1214.trans (e15.trans e16)), hp12.mono (e1214.trans (e15.trans e16))⟩
      · obtain ⟨o5, o6, o7, o8, o9, o10, o11, o12, rfl, x', hp'⟩ := h
        exact s_ret ev_c fun H4 e4 => k H4 ((wo_tr (wo_ex.trans e13) x').trans e4) (hp'.mono e4)
end
end K25
end
section
set_option maxHeartbeats 4000000
namespace K25
open PySem L2 Evl G TM TD LamX
/-! ### the whole -/
theorem sgn_name : ∀ k ∈ SX.signs "pqrstuvwxyz", k ∈ nameL := by decide +kernel
theorem sgn_rule : ∀ k ∈ SX.signs "abcdefgh", k ∈ ruleL := by decide +kernel
theorem sgn_ok : ((SX.signs "pqrstuvwxyz").length = 11 ∧ (SX.signs "pqrstuvwxyz").Nodup) ∧ (SX.signs "abcdefgh").length = 8 ∧ (SX.signs "abcdefgh").Nodup := by decide +kernel
theorem sgn_cps : (Str.cps "pqrstuvwxyz").size ≤ 1000 ∧ (Str.cps "abcdefgh").size ≤ 1000 := by decide +kernel
section
variable {K : PySem.W.Frag} {σ : L2.St} {H H1 H2 : Hp} {ta tb te : TE} {tA : TA} {t2 : TT} {tu : TS} {D : Ends} {tz : TS} {p : Addr} {t u : Td} {T : List (Addr × Str)} {i j : Nat}
theorem par2_k (h : tA σ H fun vs H1 => ∃ v w, vs = [v, w] ∧ tz D ((σ.set i (some v)).set j (some w)) H1) : tSeq (tPar i j tA) tz D σ H := h
/-- if not a or not b, the last thing of a turn, by hand -/
theorem notOr_s (h : te σ H fun v H1 => ∃ b, v = .bl b ∧ if (!b) = true then tu D σ H1 else tIfS t2 tu tNext D σ H1) : tIfS (tOr (tNot (tB te)) t2) tu tNext D σ H := h
theorem notB_s (h : te σ H fun v H1 => ∃ b, v = .bl b ∧ if (!b) = true then tu D σ H1 else D.nx σ H1) : tIfS (tNot (tB te)) tu tNext D σ H := h
theorem els_two (h1 : EvTd ta σ H t) (h2 : EvTd tb σ H u) : EvLs (tLst (tCons ta (tCons tb tNil))) σ H [t, u] := fun H1 e Q q => h1 H1 e _ fun v H2 e2 a => h2 H2 (e.trans e2) _ fun w H3 e3 b => ⟨sz_of (by show 2 ≤ 100000; decide), fun p hp =>
  q p [v, w] _ (fresh_back (e2.trans e3) hp) ((e2.trans e3).trans (Ex.new hp)) upd_same (.cons (a.mono (Tu.ex (e3.trans (Ex.new hp)))) (Ats.one (b.mono (Tu.ex (Ex.new hp)))))⟩
theorem exN_pot (hp : PotAt H p) (e : ExtN H H1) : PotAt H1 p := by obtain ⟨a, b, q, r⟩ := hp; exact ⟨a, b, q, e p _ r fun ps z => by cases z⟩
theorem exN_draw (a : ExtN (wo H p) H1) (e : Ex (wo H1 p) H2) : ExtN (wo H p) H2 := fun b o h n => by
  have hb : b ≠ p := fun z => by rw [z, wo_at] at h; cases h
  exact e b o (by rw [wo_ne hb]; exact a b o h n)
theorem exN_wo (a : ExtN H H1) : ExtN (wo H p) H1 := fun b o h n => a b o (wo_ex b o h) n
theorem tabs_draw (hT : Tabs T H) (hp : PotAt H p) (e : Ex (wo H p) H1) : Tabs T H1 := fun q hq => by
  obtain ⟨a, b, _, hl⟩ := hp
  obtain ⟨ps, h1, h2, h3⟩ := hT q hq
  refine ⟨ps, e _ _ (by rw [wo_ne fun z => by rw [z, hl] at h1; cases h1]; exact h1), h2, fun pos cv hc => ?_⟩
  obtain ⟨c, e1, e2⟩ := h3 pos cv hc
  refine ⟨c, e1, e _ _ ?_⟩
  rw [wo_ne fun z => by rw [z, hl] at e2; unfold CodeO at e2; cases e2]
  exact e2
theorem Nm.exN {a : Addr} {N all : List Str} (h : Nm H p a N all) (e : ExtN (wo H p) H1) : Nm H1 p a N all := ⟨by rw [wo_ne h.ne]; exact e _ _ h.at_ fun ps z => (by cases z), h.few, h.nd, h.sub⟩
end
/-- 'le' of two drawn formulas -/
theorem le_ok {N R : List Str} {t u : Td} (h : FOk N R 1 t) (k : FOk N R 1 u) : SOk N R 0 (.bi "le" t u) := ⟨.inl ⟨rfl, h.f, k.f⟩, ⟨h.has, k.has⟩, by have := h.dp; have := k.dp; show max (depth t) (depth u) + 1 ≤ 0 + 2; omega, by
  have h1 : (pcs t).length ≤ 3 := h.sz
  have h2 : (pcs u).length ≤ 3 := k.sz
  show (pcs t ++ pcs u).length + 1 ≤ 7
  rw [List.length_append]
  omega, ⟨h.sm, k.sm⟩⟩
theorem day_ok {N R : List Str} {n : Str} (h : n ∈ N) (k : n ∈ nameL) : FOk N R 1 (.lf "day" (.str n)) := ⟨.inl ⟨rfl, n, k, rfl⟩, fun y hy => (by cases hy; exact h), Nat.zero_le _, by show 1 ≤ 3; decide, fun i hi => (by cases hi)⟩
theorem sz_le {d : Nat} (h : d ≤ 4) : szS d ≤ 127 := by
  have : d = 0 ∨ d = 1 ∨ d = 2 ∨ d = 3 ∨ d = 4 := by omega
  rcases this with rfl | rfl | rfl | rfl | rfl <;> decide
noncomputable def sp_right (Pt : Addr) : Sp := fun vs H Q _ => ∃ p, vs = [.ref p] ∧ PotAt H p ∧ Tabs (tabF Pt) H ∧ ∀ H2, ExtN (wo H p) H2 → Tabs (tabF Pt) H2 → Q (.bl true) H2
section
variable {P : Program} {w : World} {K : PySem.W.Frag} {mg : Str → Option Value} {base : Heap} {C SZ SY CJ CT fT Pt : Addr}
theorem ok_right {f f1 f2 f3 f4 f5 : Addr} {fd fd1 fd2 fd3 fd4 fd5 : FuncData} (F : Fun K "_law_right" "_law_right" s__law_right f fd) (T : Txt P w K mg C SZ SY) (c__law_some : Cal P w K mg base "_law_some" f1 fd1 ["_law_pot_here", "_law_letters_here", "_law_many_here"] 2 (sp_some K)) (c__law_formula : Cal P w K mg base "_law_formula" f2 fd2 ["_law_pot_here", "_law_deep", "_law_names", "_law_rules"] 8 (sp_formula K 4))
    (c__law_saying : Cal P w K mg base "_law_saying" f3 fd3 ["_law_pot_here", "_law_deep", "_law_some_here"] 8 (sp_saying K 5)) (c__law_forms_right : Cal P w K mg base "_law_forms_right" f4 fd4 ["_law_saying_here"] 26 (sp_forms Pt)) (c__law_worths_right : Cal P w K mg base "_law_worths_right" f5 fd5 ["_law_pot_here", "_law_saying_here", "_law_names", "_law_rules"] 28 sp_worths) :
    FnOk P w K mg base CX0 29 f fd ["_law_pot_here"] (sp_right Pt) := by
  refine F.ok sc__law_right (fun vs H Q E h => ?_) (fun cdv A outer s H vs Q E hr h => ?_)
  · obtain ⟨p, rfl, _⟩ := h
    rfl
  · obtain ⟨p, rfl, hp, hT, k⟩ := h
    refine ⟨_, (pss_cons (ps_par (i := 1) (j := 2) (by rfl) sc__law_right.nd rfl rfl (by decide) rfl rfl (pa_cons (pe_call c__law_some.ok (hr.mono (by decide)) (by rfl) c__law_some.mgx c__law_some.kp c__law_some.bd .nil pass0 (pa_cons (pv 0) (pa_cons pe_str (pa_cons pe_int pa_nil)))) (pa_cons (pe_call c__law_some.ok (hr.mono (by decide)) (by rfl) c__law_some.mgx c__law_some.kp c__law_some.bd .nil pass0 (pa_cons (pv 0) (pa_cons pe_str (pa_cons pe_int pa_nil)))) pa_nil)) (by rfl)) (pss_cons (ps_set (i := 3) sc__law_right.nd rfl (Or.inl rfl) (pe_lst (pa_cons (pe_tup (pa_cons pe_str (pa_cons (pe_tup (pa_cons pe_str (pa_cons (pe_ix (ixL (K := K) rfl) (pv 1) pe_int (fun _ _ => rfl)) pa_nil))) (pa_cons (pe_tup (pa_cons pe_str (pa_cons (pe_ix (ixL (K := K) rfl) (pv 1) pe_int (fun _ _ => rfl)) pa_nil))) pa_nil)))) (pa_cons (pe_tup (pa_cons pe_str (pa_cons (pe_tup (pa_cons pe_str (pa_cons (pe_ix (ixL (K := K) rfl) (pv 1) pe_int (fun _ _ => rfl)) pa_nil))) (pa_cons (pe_tup (pa_cons pe_str (pa_cons (pe_ix (ixL (K := K) rfl) (pv 1) pe_int (fun _ _ => rfl)) pa_nil))) pa_nil)))) pa_nil)))) (pss_cons (ps_for PassesOwn.never rfl (pi_range1 (by rfl) T.b_range (pa_cons pe_int pa_nil)) (pg_name (i := 4) sc__law_right.nd rfl (Or.inl rfl)) (pss_one (ps_expr (pe_bm PySem.F.plainAttrs_list PySem.F.slot_list_append PySem.F.type_list_append mt_append (pv 3) (pa_cons (pe_tup (pa_cons pe_str (pa_cons (pe_call c__law_formula.ok (hr.mono (by decide)) (by rfl) c__law_formula.mgx c__law_formula.kp c__law_formula.bd .nil pass0 (pa_cons (pv 0) (pa_cons pe_int (pa_cons (pv 1) (pa_cons (pv 2) pa_nil))))) (pa_cons (pe_call c__law_formula.ok (hr.mono (by decide)) (by rfl) c__law_formula.mgx c__law_formula.kp c__law_formula.bd .nil pass0 (pa_cons (pv 0) (pa_cons pe_int (pa_cons (pv 1) (pa_cons (pv 2) pa_nil))))) pa_nil)))) pa_nil))))) (pss_cons (ps_for PassesOwn.never rfl (piL (K := K) rfl (pe_lst (pa_cons pe_int (pa_cons pe_int (pa_cons pe_int (pa_cons pe_int pa_nil)))))) (pg_name (i := 5) sc__law_right.nd rfl (Or.inl rfl)) (pss_cons (ps_set (i := 6) sc__law_right.nd rfl (Or.inl rfl) (pe_call c__law_saying.ok (hr.mono (by decide)) (by rfl) c__law_saying.mgx c__law_saying.kp c__law_saying.bd .nil pass0 (pa_cons (pv 0) (pa_cons (pv 5) (pa_cons (pv 3) pa_nil))))) (pss_one (ps_if (PW.pt (pw_or (pt_not (pt_val (pe_call c__law_forms_right.ok (hr.mono (by decide)) (by rfl) c__law_forms_right.mgx c__law_forms_right.kp c__law_forms_right.bd .nil pass0 (pa_cons (pv 6) pa_nil)))) (pw_or1 (pt_not (pt_val (pe_call c__law_worths_right.ok (hr.mono (by decide)) (by rfl) c__law_worths_right.mgx c__law_worths_right.kp c__law_worths_right.bd .nil pass0 (pa_cons (pv 0) (pa_cons (pv 6) (pa_cons (pv 1) (pa_cons (pv 2) pa_nil)))))))))) (pss_one (ps_ret pe_bl)) pss_nil)))) (pss_one (ps_ret pe_bl)))))), ?_⟩
    obtain ⟨⟨z1, z2⟩, z3, z4⟩ := sgn_ok
    -- names and rules
    refine par2_k (ac_k (call_k (ac_v (ev_var rfl) fun H1 e1 => ac_v ev_c fun H2 e2 => ac_v ev_c fun H3 e3 => ac_nil ⟨p, _, 2, rfl, ((hp.mono e1).mono e2).mono e3, by rw [z1]; decide, by rw [z1]; decide, z2, sgn_cps.1, fun l1 N H5 hN1 hN2 hN3 hl1 e5 hp5 h5 => ?_⟩)))
    have x5 : Ex (wo H p) H5 := wo_tr (wo_ex.trans ((e1.trans e2).trans e3)) e5
    refine ac_k (call_k (ac_v (ev_var rfl) fun H6 e6 => ac_v ev_c fun H7 e7 => ac_v ev_c fun H8 e8 => ac_nil ⟨p, _, 2, rfl, ((hp5.mono e6).mono e7).mono e8, by rw [z3]; decide, by rw [z3]; decide, z4, sgn_cps.2, fun l2 R H10 hR1 hR2 hR3 hl2 e10 hp10 h10 => ac_nil ⟨_, _, rfl, ?_⟩⟩))
    have x510 : Ex (wo H5 p) H10 := wo_tr (wo_ex.trans ((e6.trans e7).trans e8)) e10
    have x10 : Ex (wo H p) H10 := wo_tr x5 x510
    have l1p : l1 ≠ p := by obtain ⟨o, ho⟩ := (((hp.mono e1).mono e2).mono e3).some; exact (ne_of_none ho hl1).symm
    have l2p : l2 ≠ p := by obtain ⟨o, ho⟩ := (((hp5.mono e6).mono e7).mono e8).some; exact (ne_of_none ho hl2).symm
    have h1 : H10 l1 = some (.lst (N.map V.str)) := x510 l1 _ (by rw [wo_ne l1p]; exact h5)
    have sN : ∀ x ∈ N, x ∈ nameL := fun x hx => sgn_name x (hN3 x hx)
    have sR : ∀ x ∈ R, x ∈ ruleL := fun x hx => sgn_rule x (hR3 x hx)
    have nN : Nm H10 p l1 N nameL := ⟨by rw [wo_ne l1p]; exact h1, by omega, hN2, sN⟩
    have nR : Nm H10 p l2 R ruleL := ⟨by rw [wo_ne l2p]; exact h10, by omega, hR2, sR⟩
    have T10 := tabs_draw hT hp x10
    clear e1 e2 e3 e5 e6 e7 e8 e10 x5 x510 hp5 hl1 hl2 h5
    obtain ⟨n0, n1, rfl⟩ := len2' hN1
    -- some sayings
    have evN : ∀ {HX : Hp} {σ : L2.St} {i : Nat} {n : Str}, Ex H10 HX → σ[1]? = some (some (.ref l1)) → ([n0, n1].map V.str)[i]? = some (.str n) → Ev (tOp (rIxL K) (tVar 1) (tC (.int (i : Int)))) σ HX (.str n) := fun e q hn => ev_op (ev_var q) ev_c (rv_ixL (sq_of (e l1 _ h1)) (atI_nat hn))
    have d0 : ∀ {HX : Hp} {σ : L2.St}, Ex H10 HX → σ[1]? = some (some (.ref l1)) → EvTd (tTup (tCons (tC (.str "day")) (tCons (tOp (rIxL K) (tVar 1) (tC (.int 0))) tNil))) σ HX (.lf "day" (.str n0)) := fun e q => etd_lf (ea_cons ev_c (ea_cons (evN (i := 0) e q rfl) ea_nil))
    have d1 : ∀ {HX : Hp} {σ : L2.St}, Ex H10 HX → σ[1]? = some (some (.ref l1)) → EvTd (tTup (tCons (tC (.str "day")) (tCons (tOp (rIxL K) (tVar 1) (tC (.int 1))) tNil))) σ HX (.lf "day" (.str n1)) := fun e q => etd_lf (ea_cons ev_c (ea_cons (evN (i := 1) e q rfl) ea_nil))
    refine asg_k ((els_two (etd_bi ev_c (d0 (Ex.refl _) rfl) (d1 (Ex.refl _) rfl)) (etd_bi ev_c (d1 (Ex.refl _) rfl) (d0 (Ex.refl _) rfl))) H10 (Ex.refl _) _ fun sl ys H11 hsl e11 h11 k11 => ?_)
    have slp : sl ≠ p := by obtain ⟨o, ho⟩ := hp10.some; exact (ne_of_none ho hsl).symm
    have o0 := day_ok (R := R) (show n0 ∈ [n0, n1] by simp) (sN n0 (by simp))
    have o1 := day_ok (R := R) (show n1 ∈ [n0, n1] by simp) (sN n1 (by simp))
    have x11 : Ex (wo H10 p) H11 := wo_ex.trans e11
    have hR0 : 0 < R.length := by omega
    have lok : ∀ {HX : Hp}, Ex (wo H10 p) HX → LOk K (wo HX p) l1 [n0, n1] nameL ∧ LOk K (wo HX p) l2 R ruleL := fun e => ⟨⟨sq_of (nN.draw e).at_, by show 0 < 2; decide, by show 2 ≤ 1000; decide, sN⟩, ⟨sq_of (nR.draw e).at_, hR0, by omega, sR⟩⟩
    refine q_forR1 (n := 2) (ea_cons ev_c ea_nil) (by omega) (fun i σ' H' => ∃ (ys : List V) (ts : List Td) (o4 : Option V), σ' = [some (.ref p), some (.ref l1), some (.ref l2), some (.ref sl), o4, none, none] ∧ Ex (wo H10 p) H' ∧ PotAt H' p ∧ H' sl = some (.lst ys) ∧ Ats H' ys ts ∧ (∀ t ∈ ts, SOk [n0, n1] R 0 t) ∧ ys.length = 2 + i)
      (fun H12 e12 => ⟨ys, _, none, rfl, x11.trans e12, (hp10.mono e11).mono e12, e12 _ _ h11, k11.mono (Tu.ex e12), fun t ht => ?_, k11.len⟩) (fun i σ' H' hi h => ?_) (fun σ' H' h => ?_)
    · rcases List.mem_cons.mp ht with e | e
      · subst e; exact le_ok o0 o1
      · cases List.mem_singleton.mp e; exact le_ok o1 o0
    · obtain ⟨ys, ts, o4, rfl, x', hp', hs', k', ok', hl'⟩ := h
      refine s_app_k (l := sl) (xs := ys) (ev_var (i := 3) rfl) hs' (fun H12 e12 => tup_k (ac_v ev_c fun H13 e13 => ac_k (formC (n := 4) (d := 1) (hp'.mono (e12.trans e13)) rfl ev_c rfl rfl (by omega) (lok (x'.trans (e12.trans e13))).1 (lok (x'.trans (e12.trans e13))).2 fun v1 t1 H14 e14 hp14 a14 f14 => ?_)))
      have y14 : Ex (wo H' p) H14 := wo_tr (wo_ex.trans (e12.trans e13)) e14
      refine ac_k (formC (n := 4) (d := 1) hp14 rfl ev_c rfl rfl (by omega) (lok (wo_tr x' y14)).1 (lok (wo_tr x' y14)).2 fun v2 t2 H15 e15 hp15 a15 f15 => ac_nil ⟨sz_of (by show 3 ≤ 100000; decide), fun q hq => ?_⟩)
      have y15 : Ex (wo H' p) H15 := wo_tr y14 e15
      have eq := Ex.new (o := .tup [.str "le", v1, v2]) hq
      have hs15 : H15 sl = some (.lst ys) := y15 sl _ (by rw [wo_ne slp]; exact hs')
      refine ⟨sl, ys, .ref q, rfl, rfl, eq sl _ hs15, sz_lt (by omega), ?_⟩
      have z15 : Ex (wo H10 p) (upd H15 q (.tup [.str "le", v1, v2])) := (wo_tr x' y15).trans eq
      have tL : Tu H15 (upd (upd H15 q (.tup [.str "le", v1, v2])) sl (.lst (ys ++ [.ref q]))) := (Tu.ex eq).trans (Tu.lst (eq sl _ hs15))
      have at1 : At _ v1 t1 := (a14.mono (tu_wo hp14 e15)).mono tL
      have at2 : At _ v2 t2 := a15.mono tL
      refine ⟨ys ++ [.ref q], ts ++ [.bi "le" t1 t2], _, rfl, z15.mut (by rw [wo_ne slp]; exact hsl), ?_, upd_same, ((k'.mono (tu_wo hp' y15)).mono tL).app (Ats.one (show At _ (.ref q) (.bi "le" t1 t2) from ⟨q, v1, v2, rfl, by rw [upd_ne (fun z => by rw [z, hs15] at hq; cases hq)]; exact upd_same, at1, at2⟩)), fun t ht => ?_, by rw [List.length_append, hl']; show 2 + i + 1 = 2 + (i + 1); omega⟩
      · obtain ⟨a, b, pq, pr⟩ := hp15.mono eq
        exact ⟨a, b, pq, by rw [upd_ne (Ne.symm slp)]; exact pr⟩
      · rcases List.mem_append.mp ht with h | h
        · exact ok' t h
        · cases List.mem_singleton.mp h; exact le_ok f14 f15
    · obtain ⟨ys, ts, o4, rfl, x', hp', hs', k', ok', hl'⟩ := h
      have T' := tabs_draw T10 hp10 x'
      refine q_forNL (xs := [.int 1, .int 2, .int 3, .int 4]) (el_lst (ea_cons ev_c (ea_cons ev_c (ea_cons ev_c (ea_cons ev_c ea_nil)))) (by show 4 ≤ 100000; decide)) (fun a i σ' H2 => ∃ (o5 o6 : Option V), σ' = [some (.ref p), some (.ref l1), some (.ref l2), some (.ref sl), o4, o5, o6] ∧ ExtN (wo H' p) H2 ∧ Tabs (tabF Pt) H2 ∧ PotAt H2 p ∧ H2 a = some (.lst [.int 1, .int 2, .int 3, .int 4]) ∧ a ≠ p)
        (fun a H2 ha e2 h2 => ⟨none, none, rfl, exN_wo (.of e2), T'.ext e2, hp'.mono e2, h2, by obtain ⟨o, ho⟩ := hp'.some; exact (ne_of_none ho ha).symm⟩) (fun a i σ' H2 _ h => by obtain ⟨_, _, _, _, _, _, h2, _⟩ := h; exact sq_of h2) (fun a i z σ' H2 hi h => ?_) (fun a σ' H2 h => ?_)
      · obtain ⟨o5, o6, rfl, n2, T2, hp2, ha2, hap⟩ := h
        obtain ⟨hi4, rfl⟩ : i < 4 ∧ z = .int ((i + 1 : Nat) : Int) := by
          match i, hi with
          | 0, hi => cases hi; exact ⟨by omega, rfl⟩
          | 1, hi => cases hi; exact ⟨by omega, rfl⟩
          | 2, hi => cases hi; exact ⟨by omega, rfl⟩
          | 3, hi => cases hi; exact ⟨by omega, rfl⟩
          | i + 4, hi => simp at hi
        have ln : SayL (wo H2 p) sl [n0, n1] R ys ts := ⟨by rw [wo_ne slp]; exact n2 sl _ (by rw [wo_ne slp]; exact hs') (fun ps z => by cases z), (k'.mono (fun b xs hb => by
          have hbp : b ≠ p := fun z => by obtain ⟨_, _, _, r⟩ := hp'; rw [z, r] at hb; cases hb
          rw [wo_ne hbp]
          exact n2 b _ (by rw [wo_ne hbp]; exact hb) fun ps z => by cases z)), by omega, by omega, ok'⟩
        refine asg_k (sayC (n := 5) (d := i + 1) hp2 rfl (ev_var rfl) rfl (by omega) ln fun v t H3 e3 hp3 a3 f3 => ?_)
        have n3 := exN_draw n2 e3
        have T3 := tabs_draw T2 hp2 e3
        have sz3 : (pcs t).length ≤ 127 := Nat.le_trans f3.sz (sz_le (by omega))
        have dp3 := f3.dp
        refine notOr_s (call_k (ac_v (ev_var rfl) fun H4 e4 => ac_nil ⟨v, t, rfl, a3.mono (Tu.ex e4), f3.f, by omega, by omega, T3.ext e4, fun H5 n5 T5 => ⟨true, rfl, ?_⟩⟩))
        have n35 : ExtN H3 H5 := (ExtN.of e4).trans n5
        have nm : ∀ {HX : Hp}, Ex H5 HX → Nm HX p l1 [n0, n1] nameL ∧ Nm HX p l2 R ruleL := fun e => ⟨((((nN.draw x').exN n3).exN (exN_wo n35)).ext e), ((((nR.draw x').exN n3).exN (exN_wo n35)).ext e)⟩
        refine notB_s (call_k (ac_v (ev_var rfl) fun H6 e6 => ac_v (ev_var rfl) fun H7 e7 => ac_v (ev_var rfl) fun H8 e8 => ac_v (ev_var rfl) fun H9 e9 => ac_nil ⟨p, v, l1, l2, [n0, n1], R, t, rfl, (exN_pot hp3 n35).mono ((e6.trans e7).trans (e8.trans e9)), (a3.mono (Tu.exN n35)).mono (Tu.ex ((e6.trans e7).trans (e8.trans e9))), f3.f, f3.has, by omega, by omega, f3.sm, (nm ((e6.trans e7).trans (e8.trans e9))).1, (nm ((e6.trans e7).trans (e8.trans e9))).2, fun Ha ea hpa => ⟨true, rfl, ?_⟩⟩))
        have e59 := (e6.trans e7).trans (e8.trans e9)
        have n9 : ExtN (wo H' p) H9 := exN_ex (n3.trans n35) e59
        have hp9 := (exN_pot hp3 n35).mono e59
        refine ⟨_, _, rfl, exN_draw n9 ea, tabs_draw (T5.ext e59) hp9 ea, hpa, ea a _ ?_, hap⟩
        rw [wo_ne hap]
        exact e59 a _ (n35 a _ (e3 a _ (by rw [wo_ne hap]; exact ha2)) fun ps z => by cases z)
      · obtain ⟨o5, o6, rfl, n2, T2, hp2, ha2, hap⟩ := h
        refine s_ret ev_c fun H3 e3 => k H3 (fun b o hb nb => ?_) (T2.ext e3)
        have hbp : b ≠ p := fun z => by rw [z, wo_at] at hb; cases hb
        exact e3 b o (n2 b o (by rw [wo_ne hbp]; exact x' b o (by rw [wo_ne hbp]; exact x10 b o hb)) nb)
end
end K25
end
section
set_option maxHeartbeats 4000000
namespace K25
open PySem L2 Evl G TM TD LamX
noncomputable def sp_law (K : PySem.W.Frag) (Pt : Addr) : Sp := fun vs H Q _ => ∃ (a : Addr) (ns : List Int), vs = [.ref a] ∧ SqL K H a (ns.map V.int) ∧ ns.length ≤ 63 ∧ Tabs (tabF Pt) H ∧ ∀ H2, Q (.bl true) H2
theorem exN_l {K : PySem.W.Frag} {H H1 : Hp} {a : Addr} {xs : List V} (e : ExtN H H1) (h : SqL K H a xs) : SqL K H1 a xs := by
  rcases h with (h | ⟨o, h⟩) | h
  · exact .inl (.inl (e _ _ h fun ps z => by cases z))
  · exact .inl (.inr ⟨o, e _ _ h fun ps z => by cases z⟩)
  · exact .inr h
theorem tabs_upd {T : List (Addr × Str)} {H : Hp} {D : Addr} {xs : List V} {o : HO} (hT : Tabs T H) (hD : H D = some (.lst xs)) : Tabs T (upd H D o) := fun q hq => by
  obtain ⟨ps, h1, h2, h3⟩ := hT q hq
  refine ⟨ps, by rw [upd_ne fun z => by rw [z, hD] at h1; cases h1]; exact h1, h2, fun pos cv hc => ?_⟩
  obtain ⟨c, e1, e2⟩ := h3 pos cv hc
  refine ⟨c, e1, ?_⟩
  rw [upd_ne fun z => by rw [z, hD] at e2; unfold CodeO at e2; cases e2]
  exact e2
theorem exN_mut {H H1 : Hp} {D : Addr} {o : HO} (e : ExtN H H1) (hD : H D = none) : ExtN H (upd H1 D o) := fun b u hb n => by
  rw [upd_ne (ne_of_none hb hD)]
  exact e b u hb n
/-- [e for i in range(n)], e true, the tables of code objects changing -/
theorem lc_tab {ta : TA} {te : TE} {j : Nat} {vs : List Nat} {n : Int} {σ : L2.St} {H : Hp} {Q : VK} {T : List (Addr × Str)} (h : EvA ta σ H [.int n]) (hn : 0 ≤ n ∧ n ≤ 100) (hw : ∀ x, wipe ((wipe σ vs).set j (some x)) vs = wipe σ vs) (hT : Tabs T H)
    (he : ∀ (i : Nat) H1, ExtN H H1 → Tabs T H1 → (i : Int) < n → ∀ Q' : VK, (∀ H2, ExtN H1 H2 → Tabs T H2 → Q' (.bl true) H2) → te ((wipe σ vs).set j (some (.int (i : Int)))) H1 Q')
    (k : ∀ (D : Addr) (H2 : Hp) (m : Nat), ExtN H H2 → H2 D = some (.lst ((List.replicate m true).map V.bl)) → Q (.ref D) H2) : tLc (iRng1 ta) (gName j) tYes te vs σ H Q :=
  h H (Ex.refl _) _ fun H1 e1 => ⟨n, rfl, by omega, by omega, fun Dl hD => by
    refine lc_range (lo := 0) (n := n.toNat) (fun i H' => ExtN H H' ∧ Tabs T H' ∧ H' Dl = some (.lst ((List.replicate i true).map V.bl))) ⟨exN_mut (.of e1) (fresh_back e1 hD), ?_, upd_same⟩ (fun i H' hi h => ?_) (fun H' h => k Dl H' _ h.1 h.2.2)
    · exact (hT.ext e1).ext fun b o hb => by rw [upd_ne (ne_of_none hb hD)]; exact hb
    · obtain ⟨x1, x2, x3⟩ := h
      have e0 : (0 : Int) + (i : Int) = (i : Int) := Int.zero_add _
      rw [e0]
      refine ⟨hw _, ?_⟩
      unfold tYes
      refine iteT ?_
      refine he i H' x1 x2 (by omega) _ fun H2 e2 T2 => ?_
      have h2 : H2 Dl = some (.lst ((List.replicate i true).map V.bl)) := e2 _ _ x3 fun ps z => by cases z
      refine ⟨_, h2, sz_lt (by rw [List.length_map, List.length_replicate]; omega), exN_mut (x1.trans e2) (fresh_back e1 hD), tabs_upd T2 h2, ?_⟩
      rw [upd_same, List.replicate_succ', List.map_append] <;> rfl⟩
section
variable {P : Program} {w : World} {K : PySem.W.Frag} {mg : Str → Option Value} {base : Heap} {C SZ SY Pt : Addr}
theorem ok_law {f f1 f2 : Addr} {fd fd1 fd2 : FuncData} (F : Fun K "law" "law" s_law f fd) (T : Txt P w K mg C SZ SY) (c__law_pot : Cal P w K mg base "_law_pot" f1 fd1 ["_law_script", "_law_k"] 1 (sp_pot K)) (c__law_right : Cal P w K mg base "_law_right" f2 fd2 ["_law_pot_here"] 29 (sp_right Pt)) :
    FnOk P w K mg base CX0 30 f fd ["_law_script"] (sp_law K Pt) := by
  refine F.ok sc_law (fun vs H Q E h => ?_) (fun cdv A outer s H vs Q E hr h => ?_)
  · obtain ⟨a, ns, rfl, _⟩ := h
    rfl
  · obtain ⟨a, ns, rfl, hs, hl, hT, k⟩ := h
    have e0 : (ns.map V.int).length = ns.length := List.length_map ..
    refine ⟨_, (pss_one (ps_ret (pe_callB (allL (K := K) rfl rfl) (by rfl) T.b_all (by decide +kernel) (pa_cons (pe_lc (own := [("_law_k", 1)]) (g := (gName 1)) (by rfl) sc_law.nd (pi_range1 (by rfl) T.b_range (pa_cons (pe_callB (call_max2 rfl) (by rfl) T.b_max (by decide +kernel) (pa_cons pe_int (pa_cons (pe_callB (call_min2 rfl) (by rfl) T.b_min (by decide +kernel) (pa_cons pe_int (pa_cons (pe_callB (lenS (K := K) rfl) (by rfl) T.b_len (by decide +kernel) (pa_cons (pv 0) pa_nil)) pa_nil))) pa_nil))) pa_nil)) (blkOk_by (own := [("_law_k", 1)]) (N := ["_law_script", "_law_k"]) (sc := defScope s_law) (by decide +kernel)) (fun _ _ _ _ _ => (pg_name (i := 1) sc_law.nd rfl (Or.inl rfl))) (fun _ _ _ _ _ => pts_nil) (fun _ _ _ _ _ => (pe_call c__law_right.ok (hr.mono (by decide)) (by rfl) c__law_right.mgx c__law_right.kp c__law_right.bd .nil pass0 (pa_cons (pe_call c__law_pot.ok (hr.mono (by decide)) (by rfl) c__law_pot.mgx c__law_pot.kp c__law_pot.bd .nil pass0 (pa_cons (pv 0) (pa_cons (pv 1) pa_nil))) pa_nil)))) pa_nil)))), ?_⟩
    refine ret_k (cb_k (ac_k (lc_tab (T := tabF Pt) (ea_cons (ev_cb (ea_cons ev_c (ea_cons (ev_cb (ea_cons ev_c (ea_cons (ev_cb (ea_cons (ev_var rfl) ea_nil) (rc_len (.inl hs) e0)) ea_nil)) rc_min2) ea_nil)) rc_max2) ea_nil) ?_ (fun _ => rfl) hT (fun i H1 e1 T1 hi Q' q' => ?_) (fun D H2 m e2 h2 => ac_nil ⟨D, _, rfl, sq_of h2, ?_⟩))))
    · split <;> split <;> omega
    · refine call_k (ac_k (call_k (ac_v (ev_var rfl) fun H3 e3 => ac_v (ev_var rfl) fun H4 e4 => ac_nil ⟨a, ns, (i : Int), rfl, exN_l (exN_ex e1 (e3.trans e4)) hs, by omega, ?_, fun p H5 hp e5 pot => ac_nil ⟨p, rfl, pot, T1.ext ((e3.trans e4).trans e5), fun H6 e6 T6 => q' H6 (fun b o hb nb => ?_) T6⟩⟩)))
      · split at hi <;> split at hi <;> omega
      · have h4 := (e3.trans e4) b o hb
        exact e6 b o (by rw [wo_ne (ne_of_none h4 hp)]; exact e5 b o h4) nb
    · rw [List.all_replicate]
      have : (if m = 0 then true else id true) = true := by split <;> rfl
      simpa using k H2
end
end K25
end
section
set_option maxHeartbeats 2000000
namespace G
open PySem PySem.Spec PyProof.Rows L2

/-! ### the end of a law whose promise is told where no repr is running -/
section
variable {P : Program} {w : World} {K : PySem.W.Frag} {mg mb : Str → Option Value} {CX : CXT} {k : Nat} {fa a : Addr} {fd : FuncData} {x : Str} {sp : Sp} {s₁ : Shared} {vs : List Value} {ns : List Int}
noncomputable def scrObj (vs : List Value) : Obj := { cls := .type "list", data := .seq vs.toArray }
/-- the script alone, if the module does not know it -/
noncomputable def scrHp (K : PySem.W.Frag) (a : Addr) (vs : List Value) (ns : List Int) : Hp := fun b => if b = a ∧ (K.lookup a).isNone = true then some (.frz (scrObj vs) (.lst (ns.map V.int))) else none
end
/-- a def called with keywords, no defaults -/
theorem kb_of {K : PySem.W.Frag} {x qual : Str} {st : Stmt} {f : Addr} {fd : FuncData} {ps ks : List Str} {n : Nat} {g : List Value → List Value → List Value} {gV : List V → List V → List V} (F : Fun K x qual st f fd)
    (h : ∀ (kV doc pm : Value) (an : Option Addr) (cdv ct : Value) (us ws : List Value), us.length = n → ws.length = ks.length → bindArgs (PySem.W.fnOf x qual (defArgs st) (defBody st) (defScope st) .none kV doc pm an cdv ct) ⟨us, ks.zip ws⟩ = pure (ps.zip (g us ws)))
    (hrel : ∀ {vs : List V} {us : List Value} {zs : List V} {ws : List Value}, Vals vs us → Vals zs ws → Vals (gV vs zs) (g us ws)) : KBn K fd ps n ks g gV := by
  obtain ⟨oc, od, kV, doc, pm, an, cdv, ct, osl, rfl, lk, hcd⟩ := F.ex
  exact ⟨fun s us ws _ h1 h2 => BindsTo.of_looks fun M => by rw [h kV doc pm an cdv ct us ws h1 h2]; exact PySem.W.Looks.now, hrel⟩
end G
end
section
set_option maxHeartbeats 4000000
namespace K25
open PySem L2 Evl G TM TD LamX PyProof.Rows
/-- where a def's table of code objects stands, piece by piece -/
theorem tab_mk {K : PySem.W.Frag} {x : Str} {f c Pt : Addr} {oc e9 : Value} {od dd : Option Addr} {osl sl9 : Array (Option Value)} {fd : FuncData} {vs9 : Array Value} (a : PySem.W.nsIn K mainGlobals x = some (some (.ref f))) (l : K.lookup f = some ⟨oc, od, .func fd, osl⟩) (hc : fd.code = .ref c) (lc : K.lookup c = some ⟨e9, dd, .fields vs9, sl9⟩) (tb : (vs9[11]? : Option Value) = some (.ref Pt)) :
    PySem.W.tabIn K x = some (c, Pt) := by
  unfold PySem.W.tabIn
  rw [a]
  dsimp only
  rw [l]
  dsimp only
  rw [hc]
  dsimp only
  rw [lc]
  dsimp only
  rw [tb]
/-- the end of a law, one of whose defs makes lambdas -/
theorem walkT {l : PySem.W.OpenLaw} {n k : Nat} {q : Program} {loose : List Str} {XP : (Str → Option Value) → Heap → Prop} {YP : World → Heap → Prop} {d : DefRec} {K : Params → PySem.W.Frag} {CX : CXT} {sp : PySem.W.Frag → Addr → Sp} {x x2 : Str}
    (hn : l.most = some n) (hn2 : n ≤ sizeLine) (hdf : d.params.defaults = []) (hr : Room k callerA) (hrec : ((recsOf q).any fun e => e.name == x2) = true) (hY : ∀ (w : World) (h : Heap), YP w h → (K w.params).In h)
    (F : ∀ (w : World) (mg : Str → Option Value) (fa : Addr) (h : Heap), (K w.params).In h → h.Ns mainGlobals mg → mg d.name = some (.ref fa) → ∃ (c Pt : Addr) (fd : FuncData), PySem.W.tabIn (K w.params) x2 = some (c, Pt) ∧ (K w.params).lookup Pt = none ∧ (∀ (s : Shared) (u : Value), BindsTo s fd ⟨[u], []⟩ [(x, u)]) ∧
      ∀ base : Heap, (K w.params).In base → base.Ns mainGlobals mg → TabB base mg c Pt → FnOk l.prog w (K w.params) mg base CX k fa fd [x] (sp (K w.params) Pt))
    (hsp : ∀ (K : PySem.W.Frag) (Pt : Addr) (H : Hp) (a : Addr) (ns : List Int), ns.length ≤ n → H Pt = some (.tbl #[]) → SqL K H a (ns.map V.int) → sp K Pt [.ref a] H (fun v _ => v = .bl true) fun _ _ _ => False)
    (hCX : ∀ (H : Hp) (s : Shared) (e : Value) (s' : Shared), CX [] H s (fun _ _ _ => False) e s' → False) : PySem.W.WalkO q loose XP YP l.row.toRowW d [] (fun f vs => PySem.call f vs) :=
  Att.attach_callB hn hdf fun w s₀ s₁ mg mb fa o pm cd doc a vs ns G Y ho hd hcd hmg hobj hints hlen hbits hg => by
    have KX := hY w _ Y
    obtain ⟨c, Pt, fd, ht, nP, hb, hF⟩ := F w mg fa _ KX G.T.g hmg
    obtain ⟨d2, hd2⟩ : ∃ d2, (recsOf q).find? (fun e => e.name == x2) = some d2 := by
      obtain ⟨e, he, hx⟩ := List.any_eq_true.mp hrec
      cases z : (recsOf q).find? (fun e => e.name == x2) with
      | some d2 => exact ⟨d2, rfl⟩
      | none => exact absurd hx (List.find?_eq_none.mp z e he)
    obtain ⟨hC, hP⟩ := PySem.W.tab_of G.T KX hd2 ht
    have one : ∀ p, p ∈ [(c, Pt)] → p = (c, Pt) := fun p hp => List.mem_singleton.mp hp
    exact law_callTs (cs := [(c, Pt)]) KX G.T.g G.T.b G.T.builtins G.T.nolimit hg (fun p hp => by rw [one p hp]; exact hP) (fun p hp => by rw [one p hp]; exact nP) (fun p hp => by rw [one p hp]; exact hC) G.T.bmain hobj hints (Nat.le_trans hlen hn2) hr
      (fun base kb nb TB => hF base kb nb (TB (c, Pt) (by simp))) hb (fun H hH hS => hsp _ Pt H a ns hlen (hH (c, Pt) (by simp)) hS) fun H e s' => hCX H s₁ e s'
end K25
end
section
set_option maxHeartbeats 8000000
namespace K25
open PySem L2 Evl G TM TD LamX
theorem us_nil {α : Type} {us : List α} (h : us.length = 0) : us = [] := List.eq_nil_of_length_eq_zero h
theorem us_cons {α : Type} {us : List α} {n : Nat} (h : us.length = n + 1) : ∃ a t, us = a :: t ∧ t.length = n := by
  cases us with
  | nil => exact absurd h (Nat.succ_ne_zero n).symm
  | cons a t => exact ⟨a, t, rfl, Nat.succ.inj h⟩
theorem us_1 {fn : FuncData} {p0 : Str} (h : ∀ a0, bindArgs fn ⟨[a0], []⟩ = pure ([p0].zip [a0])) (us : List Value) (hl : us.length = [p0].length) : bindArgs fn ⟨us, []⟩ = pure ([p0].zip us) := by
  obtain ⟨a0, t0, rfl, h0⟩ := us_cons (n := 0) hl
  cases us_nil h0
  exact h a0
theorem us_2 {fn : FuncData} {p0 p1 : Str} (h : ∀ a0 a1, bindArgs fn ⟨[a0, a1], []⟩ = pure ([p0, p1].zip [a0, a1])) (us : List Value) (hl : us.length = [p0, p1].length) : bindArgs fn ⟨us, []⟩ = pure ([p0, p1].zip us) := by
  obtain ⟨a0, t0, rfl, h0⟩ := us_cons (n := 1) hl
  obtain ⟨a1, t1, rfl, h1⟩ := us_cons (n := 0) h0
  cases us_nil h1
  exact h a0 a1
theorem us_3 {fn : FuncData} {p0 p1 p2 : Str} (h : ∀ a0 a1 a2, bindArgs fn ⟨[a0, a1, a2], []⟩ = pure ([p0, p1, p2].zip [a0, a1, a2])) (us : List Value) (hl : us.length = [p0, p1, p2].length) : bindArgs fn ⟨us, []⟩ = pure ([p0, p1, p2].zip us) := by
  obtain ⟨a0, t0, rfl, h0⟩ := us_cons (n := 2) hl
  obtain ⟨a1, t1, rfl, h1⟩ := us_cons (n := 1) h0
  obtain ⟨a2, t2, rfl, h2⟩ := us_cons (n := 0) h1
  cases us_nil h2
  exact h a0 a1 a2
theorem us_4 {fn : FuncData} {p0 p1 p2 p3 : Str} (h : ∀ a0 a1 a2 a3, bindArgs fn ⟨[a0, a1, a2, a3], []⟩ = pure ([p0, p1, p2, p3].zip [a0, a1, a2, a3])) (us : List Value) (hl : us.length = [p0, p1, p2, p3].length) : bindArgs fn ⟨us, []⟩ = pure ([p0, p1, p2, p3].zip us) := by
  obtain ⟨a0, t0, rfl, h0⟩ := us_cons (n := 3) hl
  obtain ⟨a1, t1, rfl, h1⟩ := us_cons (n := 2) h0
  obtain ⟨a2, t2, rfl, h2⟩ := us_cons (n := 1) h1
  obtain ⟨a3, t3, rfl, h3⟩ := us_cons (n := 0) h2
  cases us_nil h3
  exact h a0 a1 a2 a3
theorem fm_nil {α : Type} {p : α → Prop} : ∀ x ∈ ([] : List α), p x := fun x h => by cases h
theorem fm_cons {α : Type} {p : α → Prop} {a : α} {l : List α} (h : p a) (t : ∀ x ∈ l, p x) : ∀ x ∈ a :: l, p x := fun x hx => by
  rcases List.mem_cons.mp hx with e | hx
  · subst e; exact h
  · exact t x hx
theorem kd_mk {K : PySem.W.Frag} {w : World} {a : Addr} {es : Array DictEntry} {n : Nat} {rows : List (Str × Int)} {off : List Str} (l : K.lookup a = some ⟨.type "dict", none, .dict es n, #[]⟩) (kl : PySem.W.KeysLit w.params es.toList) (lo : (a == sysModules) = false)
    (hr : ∀ p ∈ rows, ∃ tk, PySem.W.nsIn K a p.1 = some (some (.int p.2 tk))) (ho : ∀ x ∈ off, PySem.W.nsIn K a x = some none) : KD K w a rows off :=
  ⟨⟨_, _, l, kl, lo⟩, fun p hp => let ⟨tk, e⟩ := hr p hp; ⟨⟨_, _, _, l, kl, e, ⟨tk, rfl⟩⟩, _, e⟩, ho⟩
section
variable {P : Program} {w : World} {K : PySem.W.Frag} {mg : Str → Option Value} {base : Heap} {SZ SY CJ : Addr}
theorem all_mk {h : Heap} {fa : Addr} (X : K.In h) (G : h.Ns mainGlobals mg) (hmg : mg "law" = some (.ref fa))
    {C : Addr}
    {tk_MOST_LENGTH : Tok}
    {tq_MOST_LENGTH : Tok}
    {tk_MOST_PIECES : Tok}
    {tk_MOST_WAYS : Tok}
    {SZ : Addr} {es_SZ : Array DictEntry} {n_SZ : Nat} {tk_SZ_day tk_SZ_num tk_SZ_on tk_SZ_by tk_SZ_til tk_SZ_add tk_SZ_late tk_SZ_soon : Tok}
    {SY : Addr} {es_SY : Array DictEntry} {n_SY : Nat} {tk_SY_le tk_SY_and tk_SY_or tk_SY_not : Tok}
    {CJ : Addr} {es_CJ : Array DictEntry} {n_CJ : Nat} {tk_CJ_and tk_CJ_or : Tok}
    {C_TooMany TooMany_o0 : Addr} {nm_TooMany q_TooMany : Str} {N_TooMany : Addr} {bs_TooMany sub_TooMany : List Value} {sn_TooMany : List Str} {ab_TooMany : Bool} {col_TooMany : Option Bool} {dd_TooMany : Option Addr} {m0_TooMany m1_TooMany m2_TooMany m3_TooMany m5_TooMany : Option Value}
    {f_TooMany___init__ : Addr} {od_TooMany___init__ an_TooMany___init__ : Option Addr} {sl_TooMany___init__ : Array (Option Value)} {oc_TooMany___init__ kV_TooMany___init__ dc_TooMany___init__ pm_TooMany___init__ cd_TooMany___init__ ct_TooMany___init__ : Value}
    {f_is_day : Addr} {od_is_day an_is_day : Option Addr} {sl_is_day : Array (Option Value)} {oc_is_day kV_is_day dc_is_day pm_is_day cd_is_day ct_is_day : Value}
    {f_is_rule : Addr} {od_is_rule an_is_rule : Option Addr} {sl_is_rule : Array (Option Value)} {oc_is_rule kV_is_rule dc_is_rule pm_is_rule cd_is_rule ct_is_rule : Value}
    {f_is_name : Addr} {od_is_name an_is_name : Option Addr} {sl_is_name : Array (Option Value)} {oc_is_name kV_is_name dc_is_name pm_is_name cd_is_name ct_is_name : Value}
    {f_is_days : Addr} {od_is_days an_is_days : Option Addr} {sl_is_days : Array (Option Value)} {oc_is_days kV_is_days dc_is_days pm_is_days cd_is_days ct_is_days : Value}
    {f_need_day : Addr} {od_need_day an_need_day : Option Addr} {sl_need_day : Array (Option Value)} {oc_need_day kV_need_day dc_need_day pm_need_day cd_need_day ct_need_day : Value}
    {f_need_days : Addr} {od_need_days an_need_days : Option Addr} {sl_need_days : Array (Option Value)} {oc_need_days kV_need_days dc_need_days pm_need_days cd_need_days ct_need_days : Value}
    {f_is_list : Addr} {od_is_list an_is_list : Option Addr} {sl_is_list : Array (Option Value)} {oc_is_list kV_is_list dc_is_list pm_is_list cd_is_list ct_is_list : Value}
    {f_parts_of : Addr} {od_parts_of an_parts_of : Option Addr} {sl_parts_of : Array (Option Value)} {oc_parts_of kV_parts_of dc_parts_of pm_parts_of cd_parts_of ct_parts_of : Value}
    {f_all_pieces : Addr} {od_all_pieces an_all_pieces : Option Addr} {sl_all_pieces : Array (Option Value)} {oc_all_pieces kV_all_pieces dc_all_pieces pm_all_pieces cd_all_pieces ct_all_pieces : Value}
    {f_names_in : Addr} {od_names_in an_names_in : Option Addr} {sl_names_in : Array (Option Value)} {oc_names_in kV_names_in dc_names_in pm_names_in cd_names_in ct_names_in : Value}
    {f_rules_in : Addr} {od_rules_in an_rules_in : Option Addr} {sl_rules_in : Array (Option Value)} {oc_rules_in kV_rules_in dc_rules_in pm_rules_in cd_rules_in ct_rules_in : Value}
    {f_need_few_pieces : Addr} {od_need_few_pieces an_need_few_pieces : Option Addr} {sl_need_few_pieces : Array (Option Value)} {oc_need_few_pieces kV_need_few_pieces dc_need_few_pieces pm_need_few_pieces cd_need_few_pieces ct_need_few_pieces : Value}
    {f_Table___init__ : Addr} {od_Table___init__ an_Table___init__ : Option Addr} {sl_Table___init__ : Array (Option Value)} {oc_Table___init__ kV_Table___init__ dc_Table___init__ pm_Table___init__ cd_Table___init__ ct_Table___init__ : Value}
    {f_Table_length : Addr} {od_Table_length an_Table_length : Option Addr} {sl_Table_length : Array (Option Value)} {oc_Table_length kV_Table_length dc_Table_length pm_Table_length cd_Table_length ct_Table_length : Value}
    {p_Table_length : Addr} {rs_Table_length : List Value}
    {f_Table_on : Addr} {od_Table_on an_Table_on : Option Addr} {sl_Table_on : Array (Option Value)} {oc_Table_on kV_Table_on dc_Table_on pm_Table_on cd_Table_on ct_Table_on : Value}
    {f_Table_by : Addr} {od_Table_by an_Table_by : Option Addr} {sl_Table_by : Array (Option Value)} {oc_Table_by kV_Table_by dc_Table_by pm_Table_by cd_Table_by ct_Table_by : Value}
    {f_Table_til : Addr} {od_Table_til an_Table_til : Option Addr} {sl_Table_til : Array (Option Value)} {oc_Table_til kV_Table_til dc_Table_til pm_Table_til cd_Table_til ct_Table_til : Value}
    {f_is_table : Addr} {od_is_table an_is_table : Option Addr} {sl_is_table : Array (Option Value)} {oc_is_table kV_is_table dc_is_table pm_is_table cd_is_table ct_is_table : Value}
    {f_is_world : Addr} {od_is_world an_is_world : Option Addr} {sl_is_world : Array (Option Value)} {oc_is_world kV_is_world dc_is_world pm_is_world cd_is_world ct_is_world : Value}
    {f_need_world : Addr} {od_need_world an_need_world : Option Addr} {sl_need_world : Array (Option Value)} {oc_need_world kV_need_world dc_need_world pm_need_world cd_need_world ct_need_world : Value}
    {f__many_ahead : Addr} {od__many_ahead an__many_ahead : Option Addr} {sl__many_ahead : Array (Option Value)} {oc__many_ahead kV__many_ahead dc__many_ahead pm__many_ahead cd__many_ahead ct__many_ahead : Value}
    {f_is_formula : Addr} {od_is_formula an_is_formula : Option Addr} {sl_is_formula : Array (Option Value)} {oc_is_formula kV_is_formula dc_is_formula pm_is_formula cd_is_formula ct_is_formula : Value}
    {f_need_rules : Addr} {od_need_rules an_need_rules : Option Addr} {sl_need_rules : Array (Option Value)} {oc_need_rules kV_need_rules dc_need_rules pm_need_rules cd_need_rules ct_need_rules : Value}
    {f_need_names : Addr} {od_need_names an_need_names : Option Addr} {sl_need_names : Array (Option Value)} {oc_need_names kV_need_names dc_need_names pm_need_names cd_need_names ct_need_names : Value}
    {f_need_known : Addr} {od_need_known an_need_known : Option Addr} {sl_need_known : Array (Option Value)} {oc_need_known kV_need_known dc_need_known pm_need_known cd_need_known ct_need_known : Value}
    {f_reckoned : Addr} {od_reckoned an_reckoned : Option Addr} {sl_reckoned : Array (Option Value)} {oc_reckoned kV_reckoned dc_reckoned pm_reckoned cd_reckoned ct_reckoned : Value}
    {f__is_piece : Addr} {od__is_piece an__is_piece : Option Addr} {sl__is_piece : Array (Option Value)} {oc__is_piece kV__is_piece dc__is_piece pm__is_piece cd__is_piece ct__is_piece : Value}
    {f_is_saying : Addr} {od_is_saying an_is_saying : Option Addr} {sl_is_saying : Array (Option Value)} {oc_is_saying kV_is_saying dc_is_saying pm_is_saying cd_is_saying ct_is_saying : Value}
    {f_need_saying : Addr} {od_need_saying an_need_saying : Option Addr} {sl_need_saying : Array (Option Value)} {oc_need_saying kV_need_saying dc_need_saying pm_need_saying cd_need_saying ct_need_saying : Value}
    {f_holds : Addr} {od_holds an_holds : Option Addr} {sl_holds : Array (Option Value)} {oc_holds kV_holds dc_holds pm_holds cd_holds ct_holds : Value}
    {f_is_so : Addr} {od_is_so an_is_so : Option Addr} {sl_is_so : Array (Option Value)} {oc_is_so kV_is_so dc_is_so pm_is_so cd_is_so ct_is_so : Value}
    {f__is_tuple_of_saying : Addr} {od__is_tuple_of_saying an__is_tuple_of_saying : Option Addr} {sl__is_tuple_of_saying : Array (Option Value)} {oc__is_tuple_of_saying kV__is_tuple_of_saying dc__is_tuple_of_saying pm__is_tuple_of_saying cd__is_tuple_of_saying ct__is_tuple_of_saying : Value}
    {f__law_pot : Addr} {od__law_pot an__law_pot : Option Addr} {sl__law_pot : Array (Option Value)} {oc__law_pot kV__law_pot dc__law_pot pm__law_pot cd__law_pot ct__law_pot : Value}
    {f__law_draw : Addr} {od__law_draw an__law_draw : Option Addr} {sl__law_draw : Array (Option Value)} {oc__law_draw kV__law_draw dc__law_draw pm__law_draw cd__law_draw ct__law_draw : Value}
    {f__law_pick : Addr} {od__law_pick an__law_pick : Option Addr} {sl__law_pick : Array (Option Value)} {oc__law_pick kV__law_pick dc__law_pick pm__law_pick cd__law_pick ct__law_pick : Value}
    {f__law_some : Addr} {od__law_some an__law_some : Option Addr} {sl__law_some : Array (Option Value)} {oc__law_some kV__law_some dc__law_some pm__law_some cd__law_some ct__law_some : Value}
    {f__law_number : Addr} {od__law_number an__law_number : Option Addr} {sl__law_number : Array (Option Value)} {oc__law_number kV__law_number dc__law_number pm__law_number cd__law_number ct__law_number : Value}
    {f__law_formula : Addr} {od__law_formula an__law_formula : Option Addr} {sl__law_formula : Array (Option Value)} {oc__law_formula kV__law_formula dc__law_formula pm__law_formula cd__law_formula ct__law_formula : Value}
    {f__law_saying : Addr} {od__law_saying an__law_saying : Option Addr} {sl__law_saying : Array (Option Value)} {oc__law_saying kV__law_saying dc__law_saying pm__law_saying cd__law_saying ct__law_saying : Value}
    {f__law_table : Addr} {od__law_table an__law_table : Option Addr} {sl__law_table : Array (Option Value)} {oc__law_table kV__law_table dc__law_table pm__law_table cd__law_table ct__law_table : Value}
    {f__law_on : Addr} {od__law_on an__law_on : Option Addr} {sl__law_on : Array (Option Value)} {oc__law_on kV__law_on dc__law_on pm__law_on cd__law_on ct__law_on : Value}
    {f__law_leads : Addr} {od__law_leads an__law_leads : Option Addr} {sl__law_leads : Array (Option Value)} {oc__law_leads kV__law_leads dc__law_leads pm__law_leads cd__law_leads ct__law_leads : Value}
    {f__law_by : Addr} {od__law_by an__law_by : Option Addr} {sl__law_by : Array (Option Value)} {oc__law_by kV__law_by dc__law_by pm__law_by cd__law_by ct__law_by : Value}
    {f__law_til : Addr} {od__law_til an__law_til : Option Addr} {sl__law_til : Array (Option Value)} {oc__law_til kV__law_til dc__law_til pm__law_til cd__law_til ct__law_til : Value}
    {f__law_day : Addr} {od__law_day an__law_day : Option Addr} {sl__law_day : Array (Option Value)} {oc__law_day kV__law_day dc__law_day pm__law_day cd__law_day ct__law_day : Value}
    {f__law_is_so : Addr} {od__law_is_so an__law_is_so : Option Addr} {sl__law_is_so : Array (Option Value)} {oc__law_is_so kV__law_is_so dc__law_is_so pm__law_is_so cd__law_is_so ct__law_is_so : Value}
    {f__law_parts : Addr} {od__law_parts an__law_parts : Option Addr} {sl__law_parts : Array (Option Value)} {oc__law_parts kV__law_parts dc__law_parts pm__law_parts cd__law_parts ct__law_parts : Value}
    {f__law_size : Addr} {od__law_size an__law_size : Option Addr} {sl__law_size : Array (Option Value)} {oc__law_size kV__law_size dc__law_size pm__law_size cd__law_size ct__law_size : Value}
    {f__law_days : Addr} {od__law_days an__law_days : Option Addr} {sl__law_days : Array (Option Value)} {oc__law_days kV__law_days dc__law_days pm__law_days cd__law_days ct__law_days : Value}
    {f__law_world : Addr} {od__law_world an__law_world : Option Addr} {sl__law_world : Array (Option Value)} {oc__law_world kV__law_world dc__law_world pm__law_world cd__law_world ct__law_world : Value}
    {f__law_tables : Addr} {od__law_tables an__law_tables : Option Addr} {sl__law_tables : Array (Option Value)} {oc__law_tables kV__law_tables dc__law_tables pm__law_tables cd__law_tables ct__law_tables : Value}
    {f_without_doubles : Addr} {od_without_doubles an_without_doubles : Option Addr} {sl_without_doubles : Array (Option Value)} {oc_without_doubles kV_without_doubles dc_without_doubles pm_without_doubles cd_without_doubles ct_without_doubles : Value}
    {f_ways : Addr} {od_ways an_ways : Option Addr} {sl_ways : Array (Option Value)} {oc_ways kV_ways dc_ways pm_ways cd_ways ct_ways : Value}
    {f__pushed_in : Addr} {od__pushed_in an__pushed_in : Option Addr} {sl__pushed_in : Array (Option Value)} {oc__pushed_in kV__pushed_in dc__pushed_in pm__pushed_in cd__pushed_in ct__pushed_in : Value}
    {f_contrary_of : Addr} {od_contrary_of an_contrary_of : Option Addr} {sl_contrary_of : Array (Option Value)} {oc_contrary_of kV_contrary_of dc_contrary_of pm_contrary_of cd_contrary_of ct_contrary_of : Value}
    {f__many_ways : Addr} {od__many_ways an__many_ways : Option Addr} {sl__many_ways : Array (Option Value)} {oc__many_ways kV__many_ways dc__many_ways pm__many_ways cd__many_ways ct__many_ways : Value}
    {f__all_ways : Addr} {od__all_ways an__all_ways : Option Addr} {sl__all_ways : Array (Option Value)} {oc__all_ways kV__all_ways dc__all_ways pm__all_ways cd__all_ways ct__all_ways : Value}
    {f__law_pushed : Addr} {od__law_pushed an__law_pushed : Option Addr} {sl__law_pushed : Array (Option Value)} {oc__law_pushed kV__law_pushed dc__law_pushed pm__law_pushed cd__law_pushed ct__law_pushed : Value}
    {f__law_many : Addr} {od__law_many an__law_many : Option Addr} {sl__law_many : Array (Option Value)} {oc__law_many kV__law_many dc__law_many pm__law_many cd__law_many ct__law_many : Value}
    {f__law_ways : Addr} {od__law_ways an__law_ways : Option Addr} {sl__law_ways : Array (Option Value)} {oc__law_ways kV__law_ways dc__law_ways pm__law_ways cd__law_ways ct__law_ways : Value}
    {f__law_heard : Addr} {od__law_heard an__law_heard : Option Addr} {sl__law_heard : Array (Option Value)} {oc__law_heard kV__law_heard dc__law_heard pm__law_heard cd__law_heard ct__law_heard : Value}
    {f__law_forms_right : Addr} {od__law_forms_right an__law_forms_right : Option Addr} {sl__law_forms_right : Array (Option Value)} {oc__law_forms_right kV__law_forms_right dc__law_forms_right pm__law_forms_right cd__law_forms_right ct__law_forms_right : Value}
    {f__law_is_just : Addr} {od__law_is_just an__law_is_just : Option Addr} {sl__law_is_just : Array (Option Value)} {oc__law_is_just kV__law_is_just dc__law_is_just pm__law_is_just cd__law_is_just ct__law_is_just : Value}
    {f__law_worths_right : Addr} {od__law_worths_right an__law_worths_right : Option Addr} {sl__law_worths_right : Array (Option Value)} {oc__law_worths_right kV__law_worths_right dc__law_worths_right pm__law_worths_right cd__law_worths_right ct__law_worths_right : Value}
    {f__law_right : Addr} {od__law_right an__law_right : Option Addr} {sl__law_right : Array (Option Value)} {oc__law_right kV__law_right dc__law_right pm__law_right cd__law_right ct__law_right : Value}
    {f_law : Addr} {od_law an_law : Option Addr} {sl_law : Array (Option Value)} {oc_law kV_law dc_law pm_law cd_law ct_law : Value}
    {cF PF : Addr} {e9 : Value} {dd9 : Option Addr} {vs9 : Array Value} {sl9 : Array (Option Value)}
    (aC : PySem.W.nsIn K mainGlobals "Table" = some (some (.ref C)))
    (pg : PySem.W.plainGet K C Str.empty = true)
    (hd : PySem.W.hasDictIn K C = true)
    (po : PySem.W.plainOver K C = true)
    (sa : PySem.W.findIn K (.ref C) "__setattr__" = some (some (.builtin "object.__setattr__")))
    (mk : PySem.W.makesIn K C = true)
    (kc : PySem.W.keepIn K (.ref C) = true)
    (n_days : PySem.W.findIn K (.ref C) "_days" = some none)
    (vMOST_LENGTH : PySem.W.findIn K (.ref C) "MOST_LENGTH" = some (some (.int 600 tk_MOST_LENGTH)))
    (wMOST_LENGTH : PySem.W.specialIn K (.int 600 tk_MOST_LENGTH) "__get__" = some none)
    (rd : PySem.W.readsIn K C (.type "type") = true)
    (ga : PySem.W.specialIn K (.ref C) "__getattribute__" = some (some (.builtin "type.__getattribute__")))
    (xMOST_LENGTH : PySem.W.findCls K (.ref C) (.type "type") "MOST_LENGTH" = some (.val (.int 600 tq_MOST_LENGTH)))
    (mo : PySem.W.mroIn K C (.type "object") = some true)
    (tc1 : PySem.W.findIn K (.ref C) "__class__" = some (some (.builtin "object.__class__")))
    (tc2 : PySem.W.specialIn K (.builtin "object.__class__") "__get__" = some (some (.builtin "getset_descriptor.__get__")))
    (tc3 : PySem.W.takesIn K (.builtin "object.__class__") = some true)
    (a_MOST_PIECES : PySem.W.nsIn K mainGlobals "MOST_PIECES" = some (some (.int 60 tk_MOST_PIECES)))
    (a_MOST_WAYS : PySem.W.nsIn K mainGlobals "MOST_WAYS" = some (some (.int 60 tk_MOST_WAYS)))
    (a_SZ : PySem.W.nsIn K mainGlobals "SIZES" = some (some (.ref SZ)))
    (l_SZ : K.lookup SZ = some ⟨.type "dict", none, .dict es_SZ n_SZ, #[]⟩)
    (kl_SZ : PySem.W.KeysLit w.params es_SZ.toList)
    (lo_SZ : (SZ == sysModules) = false)
    (v_SZ_day : PySem.W.nsIn K SZ "day" = some (some (.int 2 tk_SZ_day)))
    (v_SZ_num : PySem.W.nsIn K SZ "num" = some (some (.int 2 tk_SZ_num)))
    (v_SZ_on : PySem.W.nsIn K SZ "on" = some (some (.int 3 tk_SZ_on)))
    (v_SZ_by : PySem.W.nsIn K SZ "by" = some (some (.int 3 tk_SZ_by)))
    (v_SZ_til : PySem.W.nsIn K SZ "til" = some (some (.int 3 tk_SZ_til)))
    (v_SZ_add : PySem.W.nsIn K SZ "add" = some (some (.int 3 tk_SZ_add)))
    (v_SZ_late : PySem.W.nsIn K SZ "late" = some (some (.int 3 tk_SZ_late)))
    (v_SZ_soon : PySem.W.nsIn K SZ "soon" = some (some (.int 3 tk_SZ_soon)))
    (o_SZ_le : PySem.W.nsIn K SZ "le" = some none)
    (o_SZ_and : PySem.W.nsIn K SZ "and" = some none)
    (o_SZ_or : PySem.W.nsIn K SZ "or" = some none)
    (o_SZ_not : PySem.W.nsIn K SZ "not" = some none)
    (a_SY : PySem.W.nsIn K mainGlobals "SIZES_OF_SAYINGS" = some (some (.ref SY)))
    (l_SY : K.lookup SY = some ⟨.type "dict", none, .dict es_SY n_SY, #[]⟩)
    (kl_SY : PySem.W.KeysLit w.params es_SY.toList)
    (lo_SY : (SY == sysModules) = false)
    (v_SY_le : PySem.W.nsIn K SY "le" = some (some (.int 3 tk_SY_le)))
    (v_SY_and : PySem.W.nsIn K SY "and" = some (some (.int 3 tk_SY_and)))
    (v_SY_or : PySem.W.nsIn K SY "or" = some (some (.int 3 tk_SY_or)))
    (v_SY_not : PySem.W.nsIn K SY "not" = some (some (.int 2 tk_SY_not)))
    (a_CJ : PySem.W.nsIn K mainGlobals "CONTRARY_JOINTS" = some (some (.ref CJ)))
    (l_CJ : K.lookup CJ = some ⟨.type "dict", none, .dict es_CJ n_CJ, #[]⟩)
    (kl_CJ : PySem.W.KeysLit w.params es_CJ.toList)
    (lo_CJ : (CJ == sysModules) = false)
    (v_CJ_and : PySem.W.nsIn K CJ "and" = some (some (.str "or" tk_CJ_and)))
    (v_CJ_or : PySem.W.nsIn K CJ "or" = some (some (.str "and" tk_CJ_or)))
    (aC_TooMany : PySem.W.nsIn K mainGlobals "TooMany" = some (some (.ref C_TooMany)))
    (xC_TooMany : K.lookup C_TooMany = some (excClassObj nm_TooMany q_TooMany C_TooMany N_TooMany bs_TooMany [.ref TooMany_o0, .type "ArithmeticError", .type "Exception", .type "BaseException", .type "object"] true sn_TooMany sub_TooMany ab_TooMany col_TooMany dd_TooMany m0_TooMany m1_TooMany m2_TooMany m3_TooMany m5_TooMany "ArithmeticError.__new__"))
    (saC_TooMany : PySem.W.findIn K (.ref C_TooMany) "__setattr__" = some (some (.builtin "object.__setattr__")))
    (gaC_TooMany : PySem.W.findIn K (.ref C_TooMany) "__getattribute__" = some (some (.builtin "BaseException.__getattribute__")))
    (ggC_TooMany : PySem.W.findIn K (.ref C_TooMany) "__getattr__" = some none)
    (n_what_TooMany : PySem.W.findIn K (.ref C_TooMany) "what" = some none)
    (n_limit_TooMany : PySem.W.findIn K (.ref C_TooMany) "limit" = some none)
    (iC_TooMany : PySem.W.findIn K (.ref C_TooMany) "__init__" = some (some (.ref f_TooMany___init__)))
    (tI_TooMany : PySem.W.typeIn K (.ref f_TooMany___init__) = some (.type "function"))
    (l_TooMany___init__ : K.lookup f_TooMany___init__ = some ⟨oc_TooMany___init__, od_TooMany___init__, .func (PySem.W.fnOf "__init__" "TooMany.__init__" (defArgs s_TooMany___init__) (defBody s_TooMany___init__) (defScope s_TooMany___init__) .none kV_TooMany___init__ dc_TooMany___init__ pm_TooMany___init__ an_TooMany___init__ cd_TooMany___init__ ct_TooMany___init__), sl_TooMany___init__⟩)
    (c_TooMany___init__ : PySem.W.codeIn K cd_TooMany___init__ "TooMany.__init__" = true)
    (k_TooMany___init__ : PySem.W.keepIn K (.ref f_TooMany___init__) = true)
    (kC_TooMany : PySem.W.keepIn K (.ref C_TooMany) = true)
    (eC_TooMany : PySem.W.subIn K (.ref C_TooMany) (.type "BaseException") = some true)
    (tC_TooMany : PySem.W.typeIn K (.ref C_TooMany) = some (.type "type"))
    (hC_TooMany : PySem.W.hasDictIn K C_TooMany = true)
    (jC_TooMany : PySem.W.isClsIn K C_TooMany = true)
    (sC_TooMany : PySem.W.subIn K (.ref C_TooMany) (.ref C_TooMany) = some true)
    (a_is_day : PySem.W.nsIn K mainGlobals "is_day" = some (some (.ref f_is_day)))
    (l_is_day : K.lookup f_is_day = some ⟨oc_is_day, od_is_day, .func (PySem.W.fnOf "is_day" "is_day" (defArgs s_is_day) (defBody s_is_day) (defScope s_is_day) .none kV_is_day dc_is_day pm_is_day an_is_day cd_is_day ct_is_day), sl_is_day⟩)
    (c_is_day : PySem.W.codeIn K cd_is_day "is_day" = true)
    (k_is_day : PySem.W.keepIn K (.ref f_is_day) = true)
    (a_is_rule : PySem.W.nsIn K mainGlobals "is_rule" = some (some (.ref f_is_rule)))
    (l_is_rule : K.lookup f_is_rule = some ⟨oc_is_rule, od_is_rule, .func (PySem.W.fnOf "is_rule" "is_rule" (defArgs s_is_rule) (defBody s_is_rule) (defScope s_is_rule) .none kV_is_rule dc_is_rule pm_is_rule an_is_rule cd_is_rule ct_is_rule), sl_is_rule⟩)
    (c_is_rule : PySem.W.codeIn K cd_is_rule "is_rule" = true)
    (k_is_rule : PySem.W.keepIn K (.ref f_is_rule) = true)
    (a_is_name : PySem.W.nsIn K mainGlobals "is_name" = some (some (.ref f_is_name)))
    (l_is_name : K.lookup f_is_name = some ⟨oc_is_name, od_is_name, .func (PySem.W.fnOf "is_name" "is_name" (defArgs s_is_name) (defBody s_is_name) (defScope s_is_name) .none kV_is_name dc_is_name pm_is_name an_is_name cd_is_name ct_is_name), sl_is_name⟩)
    (c_is_name : PySem.W.codeIn K cd_is_name "is_name" = true)
    (k_is_name : PySem.W.keepIn K (.ref f_is_name) = true)
    (a_is_days : PySem.W.nsIn K mainGlobals "is_days" = some (some (.ref f_is_days)))
    (l_is_days : K.lookup f_is_days = some ⟨oc_is_days, od_is_days, .func (PySem.W.fnOf "is_days" "is_days" (defArgs s_is_days) (defBody s_is_days) (defScope s_is_days) .none kV_is_days dc_is_days pm_is_days an_is_days cd_is_days ct_is_days), sl_is_days⟩)
    (c_is_days : PySem.W.codeIn K cd_is_days "is_days" = true)
    (k_is_days : PySem.W.keepIn K (.ref f_is_days) = true)
    (a_need_day : PySem.W.nsIn K mainGlobals "need_day" = some (some (.ref f_need_day)))
    (l_need_day : K.lookup f_need_day = some ⟨oc_need_day, od_need_day, .func (PySem.W.fnOf "need_day" "need_day" (defArgs s_need_day) (defBody s_need_day) (defScope s_need_day) .none kV_need_day dc_need_day pm_need_day an_need_day cd_need_day ct_need_day), sl_need_day⟩)
    (c_need_day : PySem.W.codeIn K cd_need_day "need_day" = true)
    (k_need_day : PySem.W.keepIn K (.ref f_need_day) = true)
    (a_need_days : PySem.W.nsIn K mainGlobals "need_days" = some (some (.ref f_need_days)))
    (l_need_days : K.lookup f_need_days = some ⟨oc_need_days, od_need_days, .func (PySem.W.fnOf "need_days" "need_days" (defArgs s_need_days) (defBody s_need_days) (defScope s_need_days) .none kV_need_days dc_need_days pm_need_days an_need_days cd_need_days ct_need_days), sl_need_days⟩)
    (c_need_days : PySem.W.codeIn K cd_need_days "need_days" = true)
    (k_need_days : PySem.W.keepIn K (.ref f_need_days) = true)
    (a_is_list : PySem.W.nsIn K mainGlobals "is_list" = some (some (.ref f_is_list)))
    (l_is_list : K.lookup f_is_list = some ⟨oc_is_list, od_is_list, .func (PySem.W.fnOf "is_list" "is_list" (defArgs s_is_list) (defBody s_is_list) (defScope s_is_list) .none kV_is_list dc_is_list pm_is_list an_is_list cd_is_list ct_is_list), sl_is_list⟩)
    (c_is_list : PySem.W.codeIn K cd_is_list "is_list" = true)
    (k_is_list : PySem.W.keepIn K (.ref f_is_list) = true)
    (a_parts_of : PySem.W.nsIn K mainGlobals "parts_of" = some (some (.ref f_parts_of)))
    (l_parts_of : K.lookup f_parts_of = some ⟨oc_parts_of, od_parts_of, .func (PySem.W.fnOf "parts_of" "parts_of" (defArgs s_parts_of) (defBody s_parts_of) (defScope s_parts_of) .none kV_parts_of dc_parts_of pm_parts_of an_parts_of cd_parts_of ct_parts_of), sl_parts_of⟩)
    (c_parts_of : PySem.W.codeIn K cd_parts_of "parts_of" = true)
    (k_parts_of : PySem.W.keepIn K (.ref f_parts_of) = true)
    (a_all_pieces : PySem.W.nsIn K mainGlobals "all_pieces" = some (some (.ref f_all_pieces)))
    (l_all_pieces : K.lookup f_all_pieces = some ⟨oc_all_pieces, od_all_pieces, .func (PySem.W.fnOf "all_pieces" "all_pieces" (defArgs s_all_pieces) (defBody s_all_pieces) (defScope s_all_pieces) .none kV_all_pieces dc_all_pieces pm_all_pieces an_all_pieces cd_all_pieces ct_all_pieces), sl_all_pieces⟩)
    (c_all_pieces : PySem.W.codeIn K cd_all_pieces "all_pieces" = true)
    (k_all_pieces : PySem.W.keepIn K (.ref f_all_pieces) = true)
    (a_names_in : PySem.W.nsIn K mainGlobals "names_in" = some (some (.ref f_names_in)))
    (l_names_in : K.lookup f_names_in = some ⟨oc_names_in, od_names_in, .func (PySem.W.fnOf "names_in" "names_in" (defArgs s_names_in) (defBody s_names_in) (defScope s_names_in) .none kV_names_in dc_names_in pm_names_in an_names_in cd_names_in ct_names_in), sl_names_in⟩)
    (c_names_in : PySem.W.codeIn K cd_names_in "names_in" = true)
    (k_names_in : PySem.W.keepIn K (.ref f_names_in) = true)
    (a_rules_in : PySem.W.nsIn K mainGlobals "rules_in" = some (some (.ref f_rules_in)))
    (l_rules_in : K.lookup f_rules_in = some ⟨oc_rules_in, od_rules_in, .func (PySem.W.fnOf "rules_in" "rules_in" (defArgs s_rules_in) (defBody s_rules_in) (defScope s_rules_in) .none kV_rules_in dc_rules_in pm_rules_in an_rules_in cd_rules_in ct_rules_in), sl_rules_in⟩)
    (c_rules_in : PySem.W.codeIn K cd_rules_in "rules_in" = true)
    (k_rules_in : PySem.W.keepIn K (.ref f_rules_in) = true)
    (a_need_few_pieces : PySem.W.nsIn K mainGlobals "need_few_pieces" = some (some (.ref f_need_few_pieces)))
    (l_need_few_pieces : K.lookup f_need_few_pieces = some ⟨oc_need_few_pieces, od_need_few_pieces, .func (PySem.W.fnOf "need_few_pieces" "need_few_pieces" (defArgs s_need_few_pieces) (defBody s_need_few_pieces) (defScope s_need_few_pieces) .none kV_need_few_pieces dc_need_few_pieces pm_need_few_pieces an_need_few_pieces cd_need_few_pieces ct_need_few_pieces), sl_need_few_pieces⟩)
    (c_need_few_pieces : PySem.W.codeIn K cd_need_few_pieces "need_few_pieces" = true)
    (k_need_few_pieces : PySem.W.keepIn K (.ref f_need_few_pieces) = true)
    (a_Table___init__ : PySem.W.findIn K (.ref C) "__init__" = some (some (.ref f_Table___init__)))
    (i_Table___init__ : PySem.W.isFn K (.ref f_Table___init__) = true)
    (l_Table___init__ : K.lookup f_Table___init__ = some ⟨oc_Table___init__, od_Table___init__, .func (PySem.W.fnOf "__init__" "Table.__init__" (defArgs s_Table___init__) (defBody s_Table___init__) (defScope s_Table___init__) .none kV_Table___init__ dc_Table___init__ pm_Table___init__ an_Table___init__ cd_Table___init__ ct_Table___init__), sl_Table___init__⟩)
    (c_Table___init__ : PySem.W.codeIn K cd_Table___init__ "Table.__init__" = true)
    (k_Table___init__ : PySem.W.keepIn K (.ref f_Table___init__) = true)
    (a_Table_length : PySem.W.findIn K (.ref C) "length" = some (some (.ref p_Table_length)))
    (g_Table_length : PySem.W.specialIn K (.ref p_Table_length) "__get__" = some (some (.builtin "property.__get__")))
    (t_Table_length : PySem.W.takesIn K (.ref p_Table_length) = some true)
    (r_Table_length : PySem.W.recIn K p_Table_length "property" = some (.ref f_Table_length :: rs_Table_length))
    (l_Table_length : K.lookup f_Table_length = some ⟨oc_Table_length, od_Table_length, .func (PySem.W.fnOf "length" "Table.length" (defArgs s_Table_length) (defBody s_Table_length) (defScope s_Table_length) .none kV_Table_length dc_Table_length pm_Table_length an_Table_length cd_Table_length ct_Table_length), sl_Table_length⟩)
    (c_Table_length : PySem.W.codeIn K cd_Table_length "Table.length" = true)
    (k_Table_length : PySem.W.keepIn K (.ref f_Table_length) = true)
    (a_Table_on : PySem.W.findIn K (.ref C) "on" = some (some (.ref f_Table_on)))
    (i_Table_on : PySem.W.isFn K (.ref f_Table_on) = true)
    (l_Table_on : K.lookup f_Table_on = some ⟨oc_Table_on, od_Table_on, .func (PySem.W.fnOf "on" "Table.on" (defArgs s_Table_on) (defBody s_Table_on) (defScope s_Table_on) .none kV_Table_on dc_Table_on pm_Table_on an_Table_on cd_Table_on ct_Table_on), sl_Table_on⟩)
    (c_Table_on : PySem.W.codeIn K cd_Table_on "Table.on" = true)
    (k_Table_on : PySem.W.keepIn K (.ref f_Table_on) = true)
    (a_Table_by : PySem.W.findIn K (.ref C) "by" = some (some (.ref f_Table_by)))
    (i_Table_by : PySem.W.isFn K (.ref f_Table_by) = true)
    (l_Table_by : K.lookup f_Table_by = some ⟨oc_Table_by, od_Table_by, .func (PySem.W.fnOf "by" "Table.by" (defArgs s_Table_by) (defBody s_Table_by) (defScope s_Table_by) .none kV_Table_by dc_Table_by pm_Table_by an_Table_by cd_Table_by ct_Table_by), sl_Table_by⟩)
    (c_Table_by : PySem.W.codeIn K cd_Table_by "Table.by" = true)
    (k_Table_by : PySem.W.keepIn K (.ref f_Table_by) = true)
    (a_Table_til : PySem.W.findIn K (.ref C) "til" = some (some (.ref f_Table_til)))
    (i_Table_til : PySem.W.isFn K (.ref f_Table_til) = true)
    (l_Table_til : K.lookup f_Table_til = some ⟨oc_Table_til, od_Table_til, .func (PySem.W.fnOf "til" "Table.til" (defArgs s_Table_til) (defBody s_Table_til) (defScope s_Table_til) .none kV_Table_til dc_Table_til pm_Table_til an_Table_til cd_Table_til ct_Table_til), sl_Table_til⟩)
    (c_Table_til : PySem.W.codeIn K cd_Table_til "Table.til" = true)
    (k_Table_til : PySem.W.keepIn K (.ref f_Table_til) = true)
    (a_is_table : PySem.W.nsIn K mainGlobals "is_table" = some (some (.ref f_is_table)))
    (l_is_table : K.lookup f_is_table = some ⟨oc_is_table, od_is_table, .func (PySem.W.fnOf "is_table" "is_table" (defArgs s_is_table) (defBody s_is_table) (defScope s_is_table) .none kV_is_table dc_is_table pm_is_table an_is_table cd_is_table ct_is_table), sl_is_table⟩)
    (c_is_table : PySem.W.codeIn K cd_is_table "is_table" = true)
    (k_is_table : PySem.W.keepIn K (.ref f_is_table) = true)
    (a_is_world : PySem.W.nsIn K mainGlobals "is_world" = some (some (.ref f_is_world)))
    (l_is_world : K.lookup f_is_world = some ⟨oc_is_world, od_is_world, .func (PySem.W.fnOf "is_world" "is_world" (defArgs s_is_world) (defBody s_is_world) (defScope s_is_world) .none kV_is_world dc_is_world pm_is_world an_is_world cd_is_world ct_is_world), sl_is_world⟩)
    (c_is_world : PySem.W.codeIn K cd_is_world "is_world" = true)
    (k_is_world : PySem.W.keepIn K (.ref f_is_world) = true)
    (a_need_world : PySem.W.nsIn K mainGlobals "need_world" = some (some (.ref f_need_world)))
    (l_need_world : K.lookup f_need_world = some ⟨oc_need_world, od_need_world, .func (PySem.W.fnOf "need_world" "need_world" (defArgs s_need_world) (defBody s_need_world) (defScope s_need_world) .none kV_need_world dc_need_world pm_need_world an_need_world cd_need_world ct_need_world), sl_need_world⟩)
    (c_need_world : PySem.W.codeIn K cd_need_world "need_world" = true)
    (k_need_world : PySem.W.keepIn K (.ref f_need_world) = true)
    (a__many_ahead : PySem.W.nsIn K mainGlobals "_many_ahead" = some (some (.ref f__many_ahead)))
    (l__many_ahead : K.lookup f__many_ahead = some ⟨oc__many_ahead, od__many_ahead, .func (PySem.W.fnOf "_many_ahead" "_many_ahead" (defArgs s__many_ahead) (defBody s__many_ahead) (defScope s__many_ahead) .none kV__many_ahead dc__many_ahead pm__many_ahead an__many_ahead cd__many_ahead ct__many_ahead), sl__many_ahead⟩)
    (c__many_ahead : PySem.W.codeIn K cd__many_ahead "_many_ahead" = true)
    (k__many_ahead : PySem.W.keepIn K (.ref f__many_ahead) = true)
    (a_is_formula : PySem.W.nsIn K mainGlobals "is_formula" = some (some (.ref f_is_formula)))
    (l_is_formula : K.lookup f_is_formula = some ⟨oc_is_formula, od_is_formula, .func (PySem.W.fnOf "is_formula" "is_formula" (defArgs s_is_formula) (defBody s_is_formula) (defScope s_is_formula) .none kV_is_formula dc_is_formula pm_is_formula an_is_formula cd_is_formula ct_is_formula), sl_is_formula⟩)
    (c_is_formula : PySem.W.codeIn K cd_is_formula "is_formula" = true)
    (k_is_formula : PySem.W.keepIn K (.ref f_is_formula) = true)
    (a_need_rules : PySem.W.nsIn K mainGlobals "need_rules" = some (some (.ref f_need_rules)))
    (l_need_rules : K.lookup f_need_rules = some ⟨oc_need_rules, od_need_rules, .func (PySem.W.fnOf "need_rules" "need_rules" (defArgs s_need_rules) (defBody s_need_rules) (defScope s_need_rules) .none kV_need_rules dc_need_rules pm_need_rules an_need_rules cd_need_rules ct_need_rules), sl_need_rules⟩)
    (c_need_rules : PySem.W.codeIn K cd_need_rules "need_rules" = true)
    (k_need_rules : PySem.W.keepIn K (.ref f_need_rules) = true)
    (a_need_names : PySem.W.nsIn K mainGlobals "need_names" = some (some (.ref f_need_names)))
    (l_need_names : K.lookup f_need_names = some ⟨oc_need_names, od_need_names, .func (PySem.W.fnOf "need_names" "need_names" (defArgs s_need_names) (defBody s_need_names) (defScope s_need_names) .none kV_need_names dc_need_names pm_need_names an_need_names cd_need_names ct_need_names), sl_need_names⟩)
    (c_need_names : PySem.W.codeIn K cd_need_names "need_names" = true)
    (k_need_names : PySem.W.keepIn K (.ref f_need_names) = true)
    (a_need_known : PySem.W.nsIn K mainGlobals "need_known" = some (some (.ref f_need_known)))
    (l_need_known : K.lookup f_need_known = some ⟨oc_need_known, od_need_known, .func (PySem.W.fnOf "need_known" "need_known" (defArgs s_need_known) (defBody s_need_known) (defScope s_need_known) .none kV_need_known dc_need_known pm_need_known an_need_known cd_need_known ct_need_known), sl_need_known⟩)
    (c_need_known : PySem.W.codeIn K cd_need_known "need_known" = true)
    (k_need_known : PySem.W.keepIn K (.ref f_need_known) = true)
    (a_reckoned : PySem.W.nsIn K mainGlobals "reckoned" = some (some (.ref f_reckoned)))
    (l_reckoned : K.lookup f_reckoned = some ⟨oc_reckoned, od_reckoned, .func (PySem.W.fnOf "reckoned" "reckoned" (defArgs s_reckoned) (defBody s_reckoned) (defScope s_reckoned) .none kV_reckoned dc_reckoned pm_reckoned an_reckoned cd_reckoned ct_reckoned), sl_reckoned⟩)
    (c_reckoned : PySem.W.codeIn K cd_reckoned "reckoned" = true)
    (k_reckoned : PySem.W.keepIn K (.ref f_reckoned) = true)
    (a__is_piece : PySem.W.nsIn K mainGlobals "_is_piece" = some (some (.ref f__is_piece)))
    (l__is_piece : K.lookup f__is_piece = some ⟨oc__is_piece, od__is_piece, .func (PySem.W.fnOf "_is_piece" "_is_piece" (defArgs s__is_piece) (defBody s__is_piece) (defScope s__is_piece) .none kV__is_piece dc__is_piece pm__is_piece an__is_piece cd__is_piece ct__is_piece), sl__is_piece⟩)
    (c__is_piece : PySem.W.codeIn K cd__is_piece "_is_piece" = true)
    (k__is_piece : PySem.W.keepIn K (.ref f__is_piece) = true)
    (a_is_saying : PySem.W.nsIn K mainGlobals "is_saying" = some (some (.ref f_is_saying)))
    (l_is_saying : K.lookup f_is_saying = some ⟨oc_is_saying, od_is_saying, .func (PySem.W.fnOf "is_saying" "is_saying" (defArgs s_is_saying) (defBody s_is_saying) (defScope s_is_saying) .none kV_is_saying dc_is_saying pm_is_saying an_is_saying cd_is_saying ct_is_saying), sl_is_saying⟩)
    (c_is_saying : PySem.W.codeIn K cd_is_saying "is_saying" = true)
    (k_is_saying : PySem.W.keepIn K (.ref f_is_saying) = true)
    (a_need_saying : PySem.W.nsIn K mainGlobals "need_saying" = some (some (.ref f_need_saying)))
    (l_need_saying : K.lookup f_need_saying = some ⟨oc_need_saying, od_need_saying, .func (PySem.W.fnOf "need_saying" "need_saying" (defArgs s_need_saying) (defBody s_need_saying) (defScope s_need_saying) .none kV_need_saying dc_need_saying pm_need_saying an_need_saying cd_need_saying ct_need_saying), sl_need_saying⟩)
    (c_need_saying : PySem.W.codeIn K cd_need_saying "need_saying" = true)
    (k_need_saying : PySem.W.keepIn K (.ref f_need_saying) = true)
    (a_holds : PySem.W.nsIn K mainGlobals "holds" = some (some (.ref f_holds)))
    (l_holds : K.lookup f_holds = some ⟨oc_holds, od_holds, .func (PySem.W.fnOf "holds" "holds" (defArgs s_holds) (defBody s_holds) (defScope s_holds) .none kV_holds dc_holds pm_holds an_holds cd_holds ct_holds), sl_holds⟩)
    (c_holds : PySem.W.codeIn K cd_holds "holds" = true)
    (k_holds : PySem.W.keepIn K (.ref f_holds) = true)
    (a_is_so : PySem.W.nsIn K mainGlobals "is_so" = some (some (.ref f_is_so)))
    (l_is_so : K.lookup f_is_so = some ⟨oc_is_so, od_is_so, .func (PySem.W.fnOf "is_so" "is_so" (defArgs s_is_so) (defBody s_is_so) (defScope s_is_so) .none kV_is_so dc_is_so pm_is_so an_is_so cd_is_so ct_is_so), sl_is_so⟩)
    (c_is_so : PySem.W.codeIn K cd_is_so "is_so" = true)
    (k_is_so : PySem.W.keepIn K (.ref f_is_so) = true)
    (a__is_tuple_of_saying : PySem.W.nsIn K mainGlobals "_is_tuple_of_saying" = some (some (.ref f__is_tuple_of_saying)))
    (l__is_tuple_of_saying : K.lookup f__is_tuple_of_saying = some ⟨oc__is_tuple_of_saying, od__is_tuple_of_saying, .func (PySem.W.fnOf "_is_tuple_of_saying" "_is_tuple_of_saying" (defArgs s__is_tuple_of_saying) (defBody s__is_tuple_of_saying) (defScope s__is_tuple_of_saying) .none kV__is_tuple_of_saying dc__is_tuple_of_saying pm__is_tuple_of_saying an__is_tuple_of_saying cd__is_tuple_of_saying ct__is_tuple_of_saying), sl__is_tuple_of_saying⟩)
    (c__is_tuple_of_saying : PySem.W.codeIn K cd__is_tuple_of_saying "_is_tuple_of_saying" = true)
    (k__is_tuple_of_saying : PySem.W.keepIn K (.ref f__is_tuple_of_saying) = true)
    (a__law_pot : PySem.W.nsIn K mainGlobals "_law_pot" = some (some (.ref f__law_pot)))
    (l__law_pot : K.lookup f__law_pot = some ⟨oc__law_pot, od__law_pot, .func (PySem.W.fnOf "_law_pot" "_law_pot" (defArgs s__law_pot) (defBody s__law_pot) (defScope s__law_pot) .none kV__law_pot dc__law_pot pm__law_pot an__law_pot cd__law_pot ct__law_pot), sl__law_pot⟩)
    (c__law_pot : PySem.W.codeIn K cd__law_pot "_law_pot" = true)
    (k__law_pot : PySem.W.keepIn K (.ref f__law_pot) = true)
    (a__law_draw : PySem.W.nsIn K mainGlobals "_law_draw" = some (some (.ref f__law_draw)))
    (l__law_draw : K.lookup f__law_draw = some ⟨oc__law_draw, od__law_draw, .func (PySem.W.fnOf "_law_draw" "_law_draw" (defArgs s__law_draw) (defBody s__law_draw) (defScope s__law_draw) .none kV__law_draw dc__law_draw pm__law_draw an__law_draw cd__law_draw ct__law_draw), sl__law_draw⟩)
    (c__law_draw : PySem.W.codeIn K cd__law_draw "_law_draw" = true)
    (k__law_draw : PySem.W.keepIn K (.ref f__law_draw) = true)
    (a__law_pick : PySem.W.nsIn K mainGlobals "_law_pick" = some (some (.ref f__law_pick)))
    (l__law_pick : K.lookup f__law_pick = some ⟨oc__law_pick, od__law_pick, .func (PySem.W.fnOf "_law_pick" "_law_pick" (defArgs s__law_pick) (defBody s__law_pick) (defScope s__law_pick) .none kV__law_pick dc__law_pick pm__law_pick an__law_pick cd__law_pick ct__law_pick), sl__law_pick⟩)
    (c__law_pick : PySem.W.codeIn K cd__law_pick "_law_pick" = true)
    (k__law_pick : PySem.W.keepIn K (.ref f__law_pick) = true)
    (a__law_some : PySem.W.nsIn K mainGlobals "_law_some" = some (some (.ref f__law_some)))
    (l__law_some : K.lookup f__law_some = some ⟨oc__law_some, od__law_some, .func (PySem.W.fnOf "_law_some" "_law_some" (defArgs s__law_some) (defBody s__law_some) (defScope s__law_some) .none kV__law_some dc__law_some pm__law_some an__law_some cd__law_some ct__law_some), sl__law_some⟩)
    (c__law_some : PySem.W.codeIn K cd__law_some "_law_some" = true)
    (k__law_some : PySem.W.keepIn K (.ref f__law_some) = true)
    (a__law_number : PySem.W.nsIn K mainGlobals "_law_number" = some (some (.ref f__law_number)))
    (l__law_number : K.lookup f__law_number = some ⟨oc__law_number, od__law_number, .func (PySem.W.fnOf "_law_number" "_law_number" (defArgs s__law_number) (defBody s__law_number) (defScope s__law_number) .none kV__law_number dc__law_number pm__law_number an__law_number cd__law_number ct__law_number), sl__law_number⟩)
    (c__law_number : PySem.W.codeIn K cd__law_number "_law_number" = true)
    (k__law_number : PySem.W.keepIn K (.ref f__law_number) = true)
    (a__law_formula : PySem.W.nsIn K mainGlobals "_law_formula" = some (some (.ref f__law_formula)))
    (l__law_formula : K.lookup f__law_formula = some ⟨oc__law_formula, od__law_formula, .func (PySem.W.fnOf "_law_formula" "_law_formula" (defArgs s__law_formula) (defBody s__law_formula) (defScope s__law_formula) .none kV__law_formula dc__law_formula pm__law_formula an__law_formula cd__law_formula ct__law_formula), sl__law_formula⟩)
    (c__law_formula : PySem.W.codeIn K cd__law_formula "_law_formula" = true)
    (k__law_formula : PySem.W.keepIn K (.ref f__law_formula) = true)
    (a__law_saying : PySem.W.nsIn K mainGlobals "_law_saying" = some (some (.ref f__law_saying)))
    (l__law_saying : K.lookup f__law_saying = some ⟨oc__law_saying, od__law_saying, .func (PySem.W.fnOf "_law_saying" "_law_saying" (defArgs s__law_saying) (defBody s__law_saying) (defScope s__law_saying) .none kV__law_saying dc__law_saying pm__law_saying an__law_saying cd__law_saying ct__law_saying), sl__law_saying⟩)
    (c__law_saying : PySem.W.codeIn K cd__law_saying "_law_saying" = true)
    (k__law_saying : PySem.W.keepIn K (.ref f__law_saying) = true)
    (a__law_table : PySem.W.nsIn K mainGlobals "_law_table" = some (some (.ref f__law_table)))
    (l__law_table : K.lookup f__law_table = some ⟨oc__law_table, od__law_table, .func (PySem.W.fnOf "_law_table" "_law_table" (defArgs s__law_table) (defBody s__law_table) (defScope s__law_table) .none kV__law_table dc__law_table pm__law_table an__law_table cd__law_table ct__law_table), sl__law_table⟩)
    (c__law_table : PySem.W.codeIn K cd__law_table "_law_table" = true)
    (k__law_table : PySem.W.keepIn K (.ref f__law_table) = true)
    (a__law_on : PySem.W.nsIn K mainGlobals "_law_on" = some (some (.ref f__law_on)))
    (l__law_on : K.lookup f__law_on = some ⟨oc__law_on, od__law_on, .func (PySem.W.fnOf "_law_on" "_law_on" (defArgs s__law_on) (defBody s__law_on) (defScope s__law_on) .none kV__law_on dc__law_on pm__law_on an__law_on cd__law_on ct__law_on), sl__law_on⟩)
    (c__law_on : PySem.W.codeIn K cd__law_on "_law_on" = true)
    (k__law_on : PySem.W.keepIn K (.ref f__law_on) = true)
    (a__law_leads : PySem.W.nsIn K mainGlobals "_law_leads" = some (some (.ref f__law_leads)))
    (l__law_leads : K.lookup f__law_leads = some ⟨oc__law_leads, od__law_leads, .func (PySem.W.fnOf "_law_leads" "_law_leads" (defArgs s__law_leads) (defBody s__law_leads) (defScope s__law_leads) .none kV__law_leads dc__law_leads pm__law_leads an__law_leads cd__law_leads ct__law_leads), sl__law_leads⟩)
    (c__law_leads : PySem.W.codeIn K cd__law_leads "_law_leads" = true)
    (k__law_leads : PySem.W.keepIn K (.ref f__law_leads) = true)
    (a__law_by : PySem.W.nsIn K mainGlobals "_law_by" = some (some (.ref f__law_by)))
    (l__law_by : K.lookup f__law_by = some ⟨oc__law_by, od__law_by, .func (PySem.W.fnOf "_law_by" "_law_by" (defArgs s__law_by) (defBody s__law_by) (defScope s__law_by) .none kV__law_by dc__law_by pm__law_by an__law_by cd__law_by ct__law_by), sl__law_by⟩)
    (c__law_by : PySem.W.codeIn K cd__law_by "_law_by" = true)
    (k__law_by : PySem.W.keepIn K (.ref f__law_by) = true)
    (a__law_til : PySem.W.nsIn K mainGlobals "_law_til" = some (some (.ref f__law_til)))
    (l__law_til : K.lookup f__law_til = some ⟨oc__law_til, od__law_til, .func (PySem.W.fnOf "_law_til" "_law_til" (defArgs s__law_til) (defBody s__law_til) (defScope s__law_til) .none kV__law_til dc__law_til pm__law_til an__law_til cd__law_til ct__law_til), sl__law_til⟩)
    (c__law_til : PySem.W.codeIn K cd__law_til "_law_til" = true)
    (k__law_til : PySem.W.keepIn K (.ref f__law_til) = true)
    (a__law_day : PySem.W.nsIn K mainGlobals "_law_day" = some (some (.ref f__law_day)))
    (l__law_day : K.lookup f__law_day = some ⟨oc__law_day, od__law_day, .func (PySem.W.fnOf "_law_day" "_law_day" (defArgs s__law_day) (defBody s__law_day) (defScope s__law_day) .none kV__law_day dc__law_day pm__law_day an__law_day cd__law_day ct__law_day), sl__law_day⟩)
    (c__law_day : PySem.W.codeIn K cd__law_day "_law_day" = true)
    (k__law_day : PySem.W.keepIn K (.ref f__law_day) = true)
    (a__law_is_so : PySem.W.nsIn K mainGlobals "_law_is_so" = some (some (.ref f__law_is_so)))
    (l__law_is_so : K.lookup f__law_is_so = some ⟨oc__law_is_so, od__law_is_so, .func (PySem.W.fnOf "_law_is_so" "_law_is_so" (defArgs s__law_is_so) (defBody s__law_is_so) (defScope s__law_is_so) .none kV__law_is_so dc__law_is_so pm__law_is_so an__law_is_so cd__law_is_so ct__law_is_so), sl__law_is_so⟩)
    (c__law_is_so : PySem.W.codeIn K cd__law_is_so "_law_is_so" = true)
    (k__law_is_so : PySem.W.keepIn K (.ref f__law_is_so) = true)
    (a__law_parts : PySem.W.nsIn K mainGlobals "_law_parts" = some (some (.ref f__law_parts)))
    (l__law_parts : K.lookup f__law_parts = some ⟨oc__law_parts, od__law_parts, .func (PySem.W.fnOf "_law_parts" "_law_parts" (defArgs s__law_parts) (defBody s__law_parts) (defScope s__law_parts) .none kV__law_parts dc__law_parts pm__law_parts an__law_parts cd__law_parts ct__law_parts), sl__law_parts⟩)
    (c__law_parts : PySem.W.codeIn K cd__law_parts "_law_parts" = true)
    (k__law_parts : PySem.W.keepIn K (.ref f__law_parts) = true)
    (a__law_size : PySem.W.nsIn K mainGlobals "_law_size" = some (some (.ref f__law_size)))
    (l__law_size : K.lookup f__law_size = some ⟨oc__law_size, od__law_size, .func (PySem.W.fnOf "_law_size" "_law_size" (defArgs s__law_size) (defBody s__law_size) (defScope s__law_size) .none kV__law_size dc__law_size pm__law_size an__law_size cd__law_size ct__law_size), sl__law_size⟩)
    (c__law_size : PySem.W.codeIn K cd__law_size "_law_size" = true)
    (k__law_size : PySem.W.keepIn K (.ref f__law_size) = true)
    (a__law_days : PySem.W.nsIn K mainGlobals "_law_days" = some (some (.ref f__law_days)))
    (l__law_days : K.lookup f__law_days = some ⟨oc__law_days, od__law_days, .func (PySem.W.fnOf "_law_days" "_law_days" (defArgs s__law_days) (defBody s__law_days) (defScope s__law_days) .none kV__law_days dc__law_days pm__law_days an__law_days cd__law_days ct__law_days), sl__law_days⟩)
    (c__law_days : PySem.W.codeIn K cd__law_days "_law_days" = true)
    (k__law_days : PySem.W.keepIn K (.ref f__law_days) = true)
    (a__law_world : PySem.W.nsIn K mainGlobals "_law_world" = some (some (.ref f__law_world)))
    (l__law_world : K.lookup f__law_world = some ⟨oc__law_world, od__law_world, .func (PySem.W.fnOf "_law_world" "_law_world" (defArgs s__law_world) (defBody s__law_world) (defScope s__law_world) .none kV__law_world dc__law_world pm__law_world an__law_world cd__law_world ct__law_world), sl__law_world⟩)
    (c__law_world : PySem.W.codeIn K cd__law_world "_law_world" = true)
    (k__law_world : PySem.W.keepIn K (.ref f__law_world) = true)
    (a__law_tables : PySem.W.nsIn K mainGlobals "_law_tables" = some (some (.ref f__law_tables)))
    (l__law_tables : K.lookup f__law_tables = some ⟨oc__law_tables, od__law_tables, .func (PySem.W.fnOf "_law_tables" "_law_tables" (defArgs s__law_tables) (defBody s__law_tables) (defScope s__law_tables) .none kV__law_tables dc__law_tables pm__law_tables an__law_tables cd__law_tables ct__law_tables), sl__law_tables⟩)
    (c__law_tables : PySem.W.codeIn K cd__law_tables "_law_tables" = true)
    (k__law_tables : PySem.W.keepIn K (.ref f__law_tables) = true)
    (a_without_doubles : PySem.W.nsIn K mainGlobals "without_doubles" = some (some (.ref f_without_doubles)))
    (l_without_doubles : K.lookup f_without_doubles = some ⟨oc_without_doubles, od_without_doubles, .func (PySem.W.fnOf "without_doubles" "without_doubles" (defArgs s_without_doubles) (defBody s_without_doubles) (defScope s_without_doubles) .none kV_without_doubles dc_without_doubles pm_without_doubles an_without_doubles cd_without_doubles ct_without_doubles), sl_without_doubles⟩)
    (c_without_doubles : PySem.W.codeIn K cd_without_doubles "without_doubles" = true)
    (k_without_doubles : PySem.W.keepIn K (.ref f_without_doubles) = true)
    (a_ways : PySem.W.nsIn K mainGlobals "ways" = some (some (.ref f_ways)))
    (l_ways : K.lookup f_ways = some ⟨oc_ways, od_ways, .func (PySem.W.fnOf "ways" "ways" (defArgs s_ways) (defBody s_ways) (defScope s_ways) .none kV_ways dc_ways pm_ways an_ways cd_ways ct_ways), sl_ways⟩)
    (c_ways : PySem.W.codeIn K cd_ways "ways" = true)
    (k_ways : PySem.W.keepIn K (.ref f_ways) = true)
    (a__pushed_in : PySem.W.nsIn K mainGlobals "_pushed_in" = some (some (.ref f__pushed_in)))
    (l__pushed_in : K.lookup f__pushed_in = some ⟨oc__pushed_in, od__pushed_in, .func (PySem.W.fnOf "_pushed_in" "_pushed_in" (defArgs s__pushed_in) (defBody s__pushed_in) (defScope s__pushed_in) .none kV__pushed_in dc__pushed_in pm__pushed_in an__pushed_in cd__pushed_in ct__pushed_in), sl__pushed_in⟩)
    (c__pushed_in : PySem.W.codeIn K cd__pushed_in "_pushed_in" = true)
    (k__pushed_in : PySem.W.keepIn K (.ref f__pushed_in) = true)
    (a_contrary_of : PySem.W.nsIn K mainGlobals "contrary_of" = some (some (.ref f_contrary_of)))
    (l_contrary_of : K.lookup f_contrary_of = some ⟨oc_contrary_of, od_contrary_of, .func (PySem.W.fnOf "contrary_of" "contrary_of" (defArgs s_contrary_of) (defBody s_contrary_of) (defScope s_contrary_of) .none kV_contrary_of dc_contrary_of pm_contrary_of an_contrary_of cd_contrary_of ct_contrary_of), sl_contrary_of⟩)
    (c_contrary_of : PySem.W.codeIn K cd_contrary_of "contrary_of" = true)
    (k_contrary_of : PySem.W.keepIn K (.ref f_contrary_of) = true)
    (a__many_ways : PySem.W.nsIn K mainGlobals "_many_ways" = some (some (.ref f__many_ways)))
    (l__many_ways : K.lookup f__many_ways = some ⟨oc__many_ways, od__many_ways, .func (PySem.W.fnOf "_many_ways" "_many_ways" (defArgs s__many_ways) (defBody s__many_ways) (defScope s__many_ways) .none kV__many_ways dc__many_ways pm__many_ways an__many_ways cd__many_ways ct__many_ways), sl__many_ways⟩)
    (c__many_ways : PySem.W.codeIn K cd__many_ways "_many_ways" = true)
    (k__many_ways : PySem.W.keepIn K (.ref f__many_ways) = true)
    (a__all_ways : PySem.W.nsIn K mainGlobals "_all_ways" = some (some (.ref f__all_ways)))
    (l__all_ways : K.lookup f__all_ways = some ⟨oc__all_ways, od__all_ways, .func (PySem.W.fnOf "_all_ways" "_all_ways" (defArgs s__all_ways) (defBody s__all_ways) (defScope s__all_ways) .none kV__all_ways dc__all_ways pm__all_ways an__all_ways cd__all_ways ct__all_ways), sl__all_ways⟩)
    (c__all_ways : PySem.W.codeIn K cd__all_ways "_all_ways" = true)
    (k__all_ways : PySem.W.keepIn K (.ref f__all_ways) = true)
    (a__law_pushed : PySem.W.nsIn K mainGlobals "_law_pushed" = some (some (.ref f__law_pushed)))
    (l__law_pushed : K.lookup f__law_pushed = some ⟨oc__law_pushed, od__law_pushed, .func (PySem.W.fnOf "_law_pushed" "_law_pushed" (defArgs s__law_pushed) (defBody s__law_pushed) (defScope s__law_pushed) .none kV__law_pushed dc__law_pushed pm__law_pushed an__law_pushed cd__law_pushed ct__law_pushed), sl__law_pushed⟩)
    (c__law_pushed : PySem.W.codeIn K cd__law_pushed "_law_pushed" = true)
    (k__law_pushed : PySem.W.keepIn K (.ref f__law_pushed) = true)
    (a__law_many : PySem.W.nsIn K mainGlobals "_law_many" = some (some (.ref f__law_many)))
    (l__law_many : K.lookup f__law_many = some ⟨oc__law_many, od__law_many, .func (PySem.W.fnOf "_law_many" "_law_many" (defArgs s__law_many) (defBody s__law_many) (defScope s__law_many) .none kV__law_many dc__law_many pm__law_many an__law_many cd__law_many ct__law_many), sl__law_many⟩)
    (c__law_many : PySem.W.codeIn K cd__law_many "_law_many" = true)
    (k__law_many : PySem.W.keepIn K (.ref f__law_many) = true)
    (a__law_ways : PySem.W.nsIn K mainGlobals "_law_ways" = some (some (.ref f__law_ways)))
    (l__law_ways : K.lookup f__law_ways = some ⟨oc__law_ways, od__law_ways, .func (PySem.W.fnOf "_law_ways" "_law_ways" (defArgs s__law_ways) (defBody s__law_ways) (defScope s__law_ways) .none kV__law_ways dc__law_ways pm__law_ways an__law_ways cd__law_ways ct__law_ways), sl__law_ways⟩)
    (c__law_ways : PySem.W.codeIn K cd__law_ways "_law_ways" = true)
    (k__law_ways : PySem.W.keepIn K (.ref f__law_ways) = true)
    (a__law_heard : PySem.W.nsIn K mainGlobals "_law_heard" = some (some (.ref f__law_heard)))
    (l__law_heard : K.lookup f__law_heard = some ⟨oc__law_heard, od__law_heard, .func (PySem.W.fnOf "_law_heard" "_law_heard" (defArgs s__law_heard) (defBody s__law_heard) (defScope s__law_heard) .none kV__law_heard dc__law_heard pm__law_heard an__law_heard cd__law_heard ct__law_heard), sl__law_heard⟩)
    (c__law_heard : PySem.W.codeIn K cd__law_heard "_law_heard" = true)
    (k__law_heard : PySem.W.keepIn K (.ref f__law_heard) = true)
    (a__law_forms_right : PySem.W.nsIn K mainGlobals "_law_forms_right" = some (some (.ref f__law_forms_right)))
    (l__law_forms_right : K.lookup f__law_forms_right = some ⟨oc__law_forms_right, od__law_forms_right, .func (PySem.W.fnOf "_law_forms_right" "_law_forms_right" (defArgs s__law_forms_right) (defBody s__law_forms_right) (defScope s__law_forms_right) .none kV__law_forms_right dc__law_forms_right pm__law_forms_right an__law_forms_right cd__law_forms_right ct__law_forms_right), sl__law_forms_right⟩)
    (c__law_forms_right : PySem.W.codeIn K cd__law_forms_right "_law_forms_right" = true)
    (k__law_forms_right : PySem.W.keepIn K (.ref f__law_forms_right) = true)
    (a__law_is_just : PySem.W.nsIn K mainGlobals "_law_is_just" = some (some (.ref f__law_is_just)))
    (l__law_is_just : K.lookup f__law_is_just = some ⟨oc__law_is_just, od__law_is_just, .func (PySem.W.fnOf "_law_is_just" "_law_is_just" (defArgs s__law_is_just) (defBody s__law_is_just) (defScope s__law_is_just) .none kV__law_is_just dc__law_is_just pm__law_is_just an__law_is_just cd__law_is_just ct__law_is_just), sl__law_is_just⟩)
    (c__law_is_just : PySem.W.codeIn K cd__law_is_just "_law_is_just" = true)
    (k__law_is_just : PySem.W.keepIn K (.ref f__law_is_just) = true)
    (a__law_worths_right : PySem.W.nsIn K mainGlobals "_law_worths_right" = some (some (.ref f__law_worths_right)))
    (l__law_worths_right : K.lookup f__law_worths_right = some ⟨oc__law_worths_right, od__law_worths_right, .func (PySem.W.fnOf "_law_worths_right" "_law_worths_right" (defArgs s__law_worths_right) (defBody s__law_worths_right) (defScope s__law_worths_right) .none kV__law_worths_right dc__law_worths_right pm__law_worths_right an__law_worths_right cd__law_worths_right ct__law_worths_right), sl__law_worths_right⟩)
    (c__law_worths_right : PySem.W.codeIn K cd__law_worths_right "_law_worths_right" = true)
    (k__law_worths_right : PySem.W.keepIn K (.ref f__law_worths_right) = true)
    (a__law_right : PySem.W.nsIn K mainGlobals "_law_right" = some (some (.ref f__law_right)))
    (l__law_right : K.lookup f__law_right = some ⟨oc__law_right, od__law_right, .func (PySem.W.fnOf "_law_right" "_law_right" (defArgs s__law_right) (defBody s__law_right) (defScope s__law_right) .none kV__law_right dc__law_right pm__law_right an__law_right cd__law_right ct__law_right), sl__law_right⟩)
    (c__law_right : PySem.W.codeIn K cd__law_right "_law_right" = true)
    (k__law_right : PySem.W.keepIn K (.ref f__law_right) = true)
    (a_law : PySem.W.nsIn K mainGlobals "law" = some (some (.ref f_law)))
    (l_law : K.lookup f_law = some ⟨oc_law, od_law, .func (PySem.W.fnOf "law" "law" (defArgs s_law) (defBody s_law) (defScope s_law) .none kV_law dc_law pm_law an_law cd_law ct_law), sl_law⟩)
    (c_law : PySem.W.codeIn K cd_law "law" = true)
    (k_law : PySem.W.keepIn K (.ref f_law) = true)
    (kc9 : cd__law_forms_right = .ref cF)
    (lc9 : K.lookup cF = some ⟨e9, dd9, .fields vs9, sl9⟩)
    (tb9 : (vs9[11]? : Option Value) = some (.ref PF))
    (nP9 : K.lookup PF = none)
    (b_isinstance : PySem.W.nsIn K mainGlobals "isinstance" = some none)
    (b_int : PySem.W.nsIn K mainGlobals "int" = some none)
    (b_bool : PySem.W.nsIn K mainGlobals "bool" = some none)
    (b_list : PySem.W.nsIn K mainGlobals "list" = some none)
    (b_tuple : PySem.W.nsIn K mainGlobals "tuple" = some none)
    (b_str : PySem.W.nsIn K mainGlobals "str" = some none)
    (b_dict : PySem.W.nsIn K mainGlobals "dict" = some none)
    (b_len : PySem.W.nsIn K mainGlobals "len" = some none)
    (b_enumerate : PySem.W.nsIn K mainGlobals "enumerate" = some none)
    (b_range : PySem.W.nsIn K mainGlobals "range" = some none)
    (b_divmod : PySem.W.nsIn K mainGlobals "divmod" = some none)
    (b_min : PySem.W.nsIn K mainGlobals "min" = some none)
    (b_max : PySem.W.nsIn K mainGlobals "max" = some none)
    (b_all : PySem.W.nsIn K mainGlobals "all" = some none)
    (b_abs : PySem.W.nsIn K mainGlobals "abs" = some none)
    (b_repr : PySem.W.nsIn K mainGlobals "repr" = some none)
    (b_sum : PySem.W.nsIn K mainGlobals "sum" = some none)
    (b_set : PySem.W.nsIn K mainGlobals "set" = some none)
    (b_sorted : PySem.W.nsIn K mainGlobals "sorted" = some none)
    (b_any : PySem.W.nsIn K mainGlobals "any" = some none)
    : ∃ (c Pt : Addr) (fd : FuncData), PySem.W.tabIn K "_law_forms_right" = some (c, Pt) ∧ K.lookup Pt = none ∧ (∀ (s : Shared) (u : Value), BindsTo s fd ⟨[u], []⟩ [("_law_script", u)]) ∧ ∀ base : Heap, K.In base → base.Ns mainGlobals mg → TabB base mg c Pt → FnOk P w K mg base CX0 30 fa fd ["_law_script"] (sp_law K Pt) := by
  have ef : fa = f_law := by
    have z := PySem.W.mg_of X G a_law
    rw [hmg] at z
    cases z
    rfl
  subst ef
  have T : Txt P w K mg C SZ SY := { cl := ⟨pg, hd, po, sa⟩, nD := n_days, kc := kc, mki := mk, mg_Table := PySem.W.mg_of X G aC, tyC := fun H a dx fs e => .ins e ⟨pg, hd, po, sa⟩ tc1 tc2 tc3 mo, cM := ⟨_, _, ⟨rd, ga⟩, ⟨xMOST_LENGTH, ⟨_, rfl⟩⟩⟩, cL := ⟨_, vMOST_LENGTH, ⟨_, rfl⟩, wMOST_LENGTH, rfl⟩, z := kd_mk l_SZ kl_SZ lo_SZ (fm_cons ⟨_, v_SZ_day⟩ (fm_cons ⟨_, v_SZ_num⟩ (fm_cons ⟨_, v_SZ_on⟩ (fm_cons ⟨_, v_SZ_by⟩ (fm_cons ⟨_, v_SZ_til⟩ (fm_cons ⟨_, v_SZ_add⟩ (fm_cons ⟨_, v_SZ_late⟩ (fm_cons ⟨_, v_SZ_soon⟩ (fm_nil))))))))) (fm_cons o_SZ_le (fm_cons o_SZ_and (fm_cons o_SZ_or (fm_cons o_SZ_not (fm_nil))))), mg_SIZES := PySem.W.mg_of X G a_SZ, y := kd_mk l_SY kl_SY lo_SY (fm_cons ⟨_, v_SY_le⟩ (fm_cons ⟨_, v_SY_and⟩ (fm_cons ⟨_, v_SY_or⟩ (fm_cons ⟨_, v_SY_not⟩ (fm_nil))))) fm_nil, mg_SIZES_OF_SAYINGS := PySem.W.mg_of X G a_SY, mg_MOST_PIECES := ⟨_, PySem.W.mg_of X G a_MOST_PIECES⟩, b_isinstance := PySem.W.mg_none_of X G b_isinstance, b_int := PySem.W.mg_none_of X G b_int, b_bool := PySem.W.mg_none_of X G b_bool, b_list := PySem.W.mg_none_of X G b_list, b_tuple := PySem.W.mg_none_of X G b_tuple, b_str := PySem.W.mg_none_of X G b_str, b_dict := PySem.W.mg_none_of X G b_dict, b_len := PySem.W.mg_none_of X G b_len, b_enumerate := PySem.W.mg_none_of X G b_enumerate, b_range := PySem.W.mg_none_of X G b_range, b_divmod := PySem.W.mg_none_of X G b_divmod, b_min := PySem.W.mg_none_of X G b_min, b_max := PySem.W.mg_none_of X G b_max, b_all := PySem.W.mg_none_of X G b_all, b_abs := PySem.W.mg_none_of X G b_abs, b_repr := PySem.W.mg_none_of X G b_repr, b_sum := PySem.W.mg_none_of X G b_sum, b_set := PySem.W.mg_none_of X G b_set, b_sorted := PySem.W.mg_none_of X G b_sorted, b_any := PySem.W.mg_none_of X G b_any }
  have TE : Te K mg C_TooMany f_TooMany___init__ := { own_TooMany := ⟨PySem.F.excBase_ArithmeticError, tail_arith, ⟨_, _, _, _, _, _, _, _, _, _, _, _, _, _, _, xC_TooMany, [TooMany_o0], rfl⟩, saC_TooMany, eC_TooMany, tC_TooMany, kC_TooMany⟩, iC_TooMany := iC_TooMany, tI_TooMany := tI_TooMany, no_what := n_what_TooMany, no_limit := n_limit_TooMany, xf := ⟨gaC_TooMany, ggC_TooMany, eC_TooMany, hC_TooMany⟩, te := exm_at eC_TooMany jC_TooMany tC_TooMany sC_TooMany, mg_TooMany := PySem.W.mg_of X G aC_TooMany }
  have TJ : Tj w K mg CJ := ⟨PySem.W.mg_of X G a_CJ, ⟨_, _, _, l_CJ, kl_CJ, v_CJ_and, ⟨_, rfl⟩⟩, ⟨_, _, _, l_CJ, kl_CJ, v_CJ_or, ⟨_, rfl⟩⟩, ⟨_, PySem.W.mg_of X G a_MOST_WAYS⟩⟩
  have hc := kc9
  have tt := tab_mk a__law_forms_right l__law_forms_right hc lc9 tb9
  have F_is_day := fun_mk (K := K) (st := s_is_day) l_is_day c_is_day k_is_day
  have bd_is_day : Binds K _ ["value"] [] := F_is_day.binds (fun _ _ _ _ _ _ => us_1 fun _ => rfl)
  have F_is_rule := fun_mk (K := K) (st := s_is_rule) l_is_rule c_is_rule k_is_rule
  have bd_is_rule : Binds K _ ["value"] [] := F_is_rule.binds (fun _ _ _ _ _ _ => us_1 fun _ => rfl)
  have F_is_name := fun_mk (K := K) (st := s_is_name) l_is_name c_is_name k_is_name
  have bd_is_name : Binds K _ ["value"] [] := F_is_name.binds (fun _ _ _ _ _ _ => us_1 fun _ => rfl)
  have F_is_days := fun_mk (K := K) (st := s_is_days) l_is_days c_is_days k_is_days
  have bd_is_days : Binds K _ ["value"] [] := F_is_days.binds (fun _ _ _ _ _ _ => us_1 fun _ => rfl)
  have F_need_day := fun_mk (K := K) (st := s_need_day) l_need_day c_need_day k_need_day
  have bd_need_day : Binds K _ ["value"] [] := F_need_day.binds (fun _ _ _ _ _ _ => us_1 fun _ => rfl)
  have F_need_days := fun_mk (K := K) (st := s_need_days) l_need_days c_need_days k_need_days
  have bd_need_days : Binds K _ ["value"] [] := F_need_days.binds (fun _ _ _ _ _ _ => us_1 fun _ => rfl)
  have F_is_list := fun_mk (K := K) (st := s_is_list) l_is_list c_is_list k_is_list
  have bd_is_list : Binds K _ ["value"] [] := F_is_list.binds (fun _ _ _ _ _ _ => us_1 fun _ => rfl)
  have F_parts_of := fun_mk (K := K) (st := s_parts_of) l_parts_of c_parts_of k_parts_of
  have bd_parts_of : Binds K _ ["told"] [] := F_parts_of.binds (fun _ _ _ _ _ _ => us_1 fun _ => rfl)
  have F_all_pieces := fun_mk (K := K) (st := s_all_pieces) l_all_pieces c_all_pieces k_all_pieces
  have bd_all_pieces : Binds K _ ["told"] [] := F_all_pieces.binds (fun _ _ _ _ _ _ => us_1 fun _ => rfl)
  have F_names_in := fun_mk (K := K) (st := s_names_in) l_names_in c_names_in k_names_in
  have bd_names_in : Binds K _ ["told"] [] := F_names_in.binds (fun _ _ _ _ _ _ => us_1 fun _ => rfl)
  have F_rules_in := fun_mk (K := K) (st := s_rules_in) l_rules_in c_rules_in k_rules_in
  have bd_rules_in : Binds K _ ["told"] [] := F_rules_in.binds (fun _ _ _ _ _ _ => us_1 fun _ => rfl)
  have F_need_few_pieces := fun_mk (K := K) (st := s_need_few_pieces) l_need_few_pieces c_need_few_pieces k_need_few_pieces
  have bd_need_few_pieces : Binds K _ ["tolds"] [] := F_need_few_pieces.binds (fun _ _ _ _ _ _ => us_1 fun _ => rfl)
  have F_Table___init__ := fun_mk (K := K) (st := s_Table___init__) l_Table___init__ c_Table___init__ k_Table___init__
  have bd_Table___init__ : Binds K _ ["self", "days"] [] := F_Table___init__.binds (fun _ _ _ _ _ _ => us_2 fun _ _ => rfl)
  have F_Table_length := fun_mk (K := K) (st := s_Table_length) l_Table_length c_Table_length k_Table_length
  have bd_Table_length : Binds K _ ["self"] [] := F_Table_length.binds (fun _ _ _ _ _ _ => us_1 fun _ => rfl)
  have F_Table_on := fun_mk (K := K) (st := s_Table_on) l_Table_on c_Table_on k_Table_on
  have bd_Table_on : Binds K _ ["self", "day"] [] := F_Table_on.binds (fun _ _ _ _ _ _ => us_2 fun _ _ => rfl)
  have F_Table_by := fun_mk (K := K) (st := s_Table_by) l_Table_by c_Table_by k_Table_by
  have bd_Table_by : Binds K _ ["self", "day"] [] := F_Table_by.binds (fun _ _ _ _ _ _ => us_2 fun _ _ => rfl)
  have F_Table_til := fun_mk (K := K) (st := s_Table_til) l_Table_til c_Table_til k_Table_til
  have bd_Table_til : Binds K _ ["self", "day"] [] := F_Table_til.binds (fun _ _ _ _ _ _ => us_2 fun _ _ => rfl)
  have F_is_table := fun_mk (K := K) (st := s_is_table) l_is_table c_is_table k_is_table
  have bd_is_table : Binds K _ ["value"] [] := F_is_table.binds (fun _ _ _ _ _ _ => us_1 fun _ => rfl)
  have F_is_world := fun_mk (K := K) (st := s_is_world) l_is_world c_is_world k_is_world
  have bd_is_world : Binds K _ ["value"] [] := F_is_world.binds (fun _ _ _ _ _ _ => us_1 fun _ => rfl)
  have F_need_world := fun_mk (K := K) (st := s_need_world) l_need_world c_need_world k_need_world
  have bd_need_world : Binds K _ ["value"] [] := F_need_world.binds (fun _ _ _ _ _ _ => us_1 fun _ => rfl)
  have F__many_ahead := fun_mk (K := K) (st := s__many_ahead) l__many_ahead c__many_ahead k__many_ahead
  have bd__many_ahead : Binds K _ ["days", "day"] [] := F__many_ahead.binds (fun _ _ _ _ _ _ => us_2 fun _ _ => rfl)
  have F_is_formula := fun_mk (K := K) (st := s_is_formula) l_is_formula c_is_formula k_is_formula
  have bd_is_formula : Binds K _ ["value"] [] := F_is_formula.binds (fun _ _ _ _ _ _ => us_1 fun _ => rfl)
  have F_need_rules := fun_mk (K := K) (st := s_need_rules) l_need_rules c_need_rules k_need_rules
  have bd_need_rules : Binds K _ ["told", "world"] [] := F_need_rules.binds (fun _ _ _ _ _ _ => us_2 fun _ _ => rfl)
  have F_need_names := fun_mk (K := K) (st := s_need_names) l_need_names c_need_names k_need_names
  have bd_need_names : Binds K _ ["told", "days"] [] := F_need_names.binds (fun _ _ _ _ _ _ => us_2 fun _ _ => rfl)
  have F_need_known := fun_mk (K := K) (st := s_need_known) l_need_known c_need_known k_need_known
  have bd_need_known : Binds K _ ["told", "days", "world"] [] := F_need_known.binds (fun _ _ _ _ _ _ => us_3 fun _ _ _ => rfl)
  have F_reckoned := fun_mk (K := K) (st := s_reckoned) l_reckoned c_reckoned k_reckoned
  have bd_reckoned : Binds K _ ["formula", "days", "rules"] [] := F_reckoned.binds (fun _ _ _ _ _ _ => us_3 fun _ _ _ => rfl)
  have F__is_piece := fun_mk (K := K) (st := s__is_piece) l__is_piece c__is_piece k__is_piece
  have bd__is_piece : Binds K _ ["value"] [] := F__is_piece.binds (fun _ _ _ _ _ _ => us_1 fun _ => rfl)
  have F_is_saying := fun_mk (K := K) (st := s_is_saying) l_is_saying c_is_saying k_is_saying
  have bd_is_saying : Binds K _ ["value"] [] := F_is_saying.binds (fun _ _ _ _ _ _ => us_1 fun _ => rfl)
  have F_need_saying := fun_mk (K := K) (st := s_need_saying) l_need_saying c_need_saying k_need_saying
  have bd_need_saying : Binds K _ ["value"] [] := F_need_saying.binds (fun _ _ _ _ _ _ => us_1 fun _ => rfl)
  have F_holds := fun_mk (K := K) (st := s_holds) l_holds c_holds k_holds
  have bd_holds : Binds K _ ["saying", "days", "world"] [] := F_holds.binds (fun _ _ _ _ _ _ => us_3 fun _ _ _ => rfl)
  have F_is_so := fun_mk (K := K) (st := s_is_so) l_is_so c_is_so k_is_so
  have bd_is_so : Binds K _ ["saying", "days", "rules"] [] := F_is_so.binds (fun _ _ _ _ _ _ => us_3 fun _ _ _ => rfl)
  have F__is_tuple_of_saying := fun_mk (K := K) (st := s__is_tuple_of_saying) l__is_tuple_of_saying c__is_tuple_of_saying k__is_tuple_of_saying
  have bd__is_tuple_of_saying : Binds K _ ["value"] [] := F__is_tuple_of_saying.binds (fun _ _ _ _ _ _ => us_1 fun _ => rfl)
  have F__law_pot := fun_mk (K := K) (st := s__law_pot) l__law_pot c__law_pot k__law_pot
  have bd__law_pot : Binds K _ ["_law_script", "_law_k"] [] := F__law_pot.binds (fun _ _ _ _ _ _ => us_2 fun _ _ => rfl)
  have F__law_draw := fun_mk (K := K) (st := s__law_draw) l__law_draw c__law_draw k__law_draw
  have bd__law_draw : Binds K _ ["_law_pot_here", "_law_many_here"] [] := F__law_draw.binds (fun _ _ _ _ _ _ => us_2 fun _ _ => rfl)
  have F__law_pick := fun_mk (K := K) (st := s__law_pick) l__law_pick c__law_pick k__law_pick
  have bd__law_pick : Binds K _ ["_law_pot_here", "_law_some_here"] [] := F__law_pick.binds (fun _ _ _ _ _ _ => us_2 fun _ _ => rfl)
  have F__law_some := fun_mk (K := K) (st := s__law_some) l__law_some c__law_some k__law_some
  have bd__law_some : Binds K _ ["_law_pot_here", "_law_letters_here", "_law_many_here"] [] := F__law_some.binds (fun _ _ _ _ _ _ => us_3 fun _ _ _ => rfl)
  have F__law_number := fun_mk (K := K) (st := s__law_number) l__law_number c__law_number k__law_number
  have bd__law_number : Binds K _ ["_law_pot_here"] [] := F__law_number.binds (fun _ _ _ _ _ _ => us_1 fun _ => rfl)
  have F__law_formula := fun_mk (K := K) (st := s__law_formula) l__law_formula c__law_formula k__law_formula
  have bd__law_formula : Binds K _ ["_law_pot_here", "_law_deep", "_law_names", "_law_rules"] [] := F__law_formula.binds (fun _ _ _ _ _ _ => us_4 fun _ _ _ _ => rfl)
  have F__law_saying := fun_mk (K := K) (st := s__law_saying) l__law_saying c__law_saying k__law_saying
  have bd__law_saying : Binds K _ ["_law_pot_here", "_law_deep", "_law_some_here"] [] := F__law_saying.binds (fun _ _ _ _ _ _ => us_3 fun _ _ _ => rfl)
  have F__law_table := fun_mk (K := K) (st := s__law_table) l__law_table c__law_table k__law_table
  have bd__law_table : Binds K _ ["_law_pot_here"] [] := F__law_table.binds (fun _ _ _ _ _ _ => us_1 fun _ => rfl)
  have F__law_on := fun_mk (K := K) (st := s__law_on) l__law_on c__law_on k__law_on
  have bd__law_on : Binds K _ ["_law_days_here", "_law_day_here"] [] := F__law_on.binds (fun _ _ _ _ _ _ => us_2 fun _ _ => rfl)
  have F__law_leads := fun_mk (K := K) (st := s__law_leads) l__law_leads c__law_leads k__law_leads
  have bd__law_leads : Binds K _ ["_law_days_here"] [] := F__law_leads.binds (fun _ _ _ _ _ _ => us_1 fun _ => rfl)
  have F__law_by := fun_mk (K := K) (st := s__law_by) l__law_by c__law_by k__law_by
  have bd__law_by : Binds K _ ["_law_days_here", "_law_day_here"] [] := F__law_by.binds (fun _ _ _ _ _ _ => us_2 fun _ _ => rfl)
  have F__law_til := fun_mk (K := K) (st := s__law_til) l__law_til c__law_til k__law_til
  have bd__law_til : Binds K _ ["_law_days_here", "_law_day_here"] [] := F__law_til.binds (fun _ _ _ _ _ _ => us_2 fun _ _ => rfl)
  have F__law_day := fun_mk (K := K) (st := s__law_day) l__law_day c__law_day k__law_day
  have bd__law_day : Binds K _ ["_law_formula_here", "_law_days_here", "_law_world_here"] [] := F__law_day.binds (fun _ _ _ _ _ _ => us_3 fun _ _ _ => rfl)
  have F__law_is_so := fun_mk (K := K) (st := s__law_is_so) l__law_is_so c__law_is_so k__law_is_so
  have bd__law_is_so : Binds K _ ["_law_saying_here", "_law_days_here", "_law_world_here"] [] := F__law_is_so.binds (fun _ _ _ _ _ _ => us_3 fun _ _ _ => rfl)
  have F__law_parts := fun_mk (K := K) (st := s__law_parts) l__law_parts c__law_parts k__law_parts
  have bd__law_parts : Binds K _ ["_law_told"] [] := F__law_parts.binds (fun _ _ _ _ _ _ => us_1 fun _ => rfl)
  have F__law_size := fun_mk (K := K) (st := s__law_size) l__law_size c__law_size k__law_size
  have bd__law_size : Binds K _ ["_law_told"] [] := F__law_size.binds (fun _ _ _ _ _ _ => us_1 fun _ => rfl)
  have F__law_days := fun_mk (K := K) (st := s__law_days) l__law_days c__law_days k__law_days
  have bd__law_days : Binds K _ ["_law_pot_here", "_law_names"] [] := F__law_days.binds (fun _ _ _ _ _ _ => us_2 fun _ _ => rfl)
  have F__law_world := fun_mk (K := K) (st := s__law_world) l__law_world c__law_world k__law_world
  have bd__law_world : Binds K _ ["_law_pot_here", "_law_rules"] [] := F__law_world.binds (fun _ _ _ _ _ _ => us_2 fun _ _ => rfl)
  have F__law_tables := fun_mk (K := K) (st := s__law_tables) l__law_tables c__law_tables k__law_tables
  have bd__law_tables : Binds K _ ["_law_world_here"] [] := F__law_tables.binds (fun _ _ _ _ _ _ => us_1 fun _ => rfl)
  have F_without_doubles := fun_mk (K := K) (st := s_without_doubles) l_without_doubles c_without_doubles k_without_doubles
  have bd_without_doubles : Binds K _ ["things"] [] := F_without_doubles.binds (fun _ _ _ _ _ _ => us_1 fun _ => rfl)
  have F_ways := fun_mk (K := K) (st := s_ways) l_ways c_ways k_ways
  have bd_ways : Binds K _ ["saying"] [] := F_ways.binds (fun _ _ _ _ _ _ => us_1 fun _ => rfl)
  have F__pushed_in := fun_mk (K := K) (st := s__pushed_in) l__pushed_in c__pushed_in k__pushed_in
  have bd__pushed_in : Binds K _ ["saying"] [] := F__pushed_in.binds (fun _ _ _ _ _ _ => us_1 fun _ => rfl)
  have F_contrary_of := fun_mk (K := K) (st := s_contrary_of) l_contrary_of c_contrary_of k_contrary_of
  have bd_contrary_of : Binds K _ ["saying"] [] := F_contrary_of.binds (fun _ _ _ _ _ _ => us_1 fun _ => rfl)
  have F__many_ways := fun_mk (K := K) (st := s__many_ways) l__many_ways c__many_ways k__many_ways
  have bd__many_ways : Binds K _ ["saying"] [] := F__many_ways.binds (fun _ _ _ _ _ _ => us_1 fun _ => rfl)
  have F__all_ways := fun_mk (K := K) (st := s__all_ways) l__all_ways c__all_ways k__all_ways
  have bd__all_ways : Binds K _ ["saying"] [] := F__all_ways.binds (fun _ _ _ _ _ _ => us_1 fun _ => rfl)
  have F__law_pushed := fun_mk (K := K) (st := s__law_pushed) l__law_pushed c__law_pushed k__law_pushed
  have bd__law_pushed : Binds K _ ["_law_saying_here", "_law_is_so_here"] [] := F__law_pushed.binds (fun _ _ _ _ _ _ => us_2 fun _ _ => rfl)
  have F__law_many := fun_mk (K := K) (st := s__law_many) l__law_many c__law_many k__law_many
  have bd__law_many : Binds K _ ["_law_saying_here"] [] := F__law_many.binds (fun _ _ _ _ _ _ => us_1 fun _ => rfl)
  have F__law_ways := fun_mk (K := K) (st := s__law_ways) l__law_ways c__law_ways k__law_ways
  have bd__law_ways : Binds K _ ["_law_saying_here"] [] := F__law_ways.binds (fun _ _ _ _ _ _ => us_1 fun _ => rfl)
  have F__law_heard := fun_mk (K := K) (st := s__law_heard) l__law_heard c__law_heard k__law_heard
  have bd__law_heard : Binds K _ ["_law_call"] [] := F__law_heard.binds (fun _ _ _ _ _ _ => us_1 fun _ => rfl)
  have F__law_forms_right := fun_mk (K := K) (st := s__law_forms_right) l__law_forms_right c__law_forms_right k__law_forms_right
  have bd__law_forms_right : Binds K _ ["_law_saying_here"] [] := F__law_forms_right.binds (fun _ _ _ _ _ _ => us_1 fun _ => rfl)
  have F__law_is_just := fun_mk (K := K) (st := s__law_is_just) l__law_is_just c__law_is_just k__law_is_just
  have bd__law_is_just : Binds K _ ["_law_told", "_law_due"] [] := F__law_is_just.binds (fun _ _ _ _ _ _ => us_2 fun _ _ => rfl)
  have F__law_worths_right := fun_mk (K := K) (st := s__law_worths_right) l__law_worths_right c__law_worths_right k__law_worths_right
  have bd__law_worths_right : Binds K _ ["_law_pot_here", "_law_saying_here", "_law_names", "_law_rules"] [] := F__law_worths_right.binds (fun _ _ _ _ _ _ => us_4 fun _ _ _ _ => rfl)
  have F__law_right := fun_mk (K := K) (st := s__law_right) l__law_right c__law_right k__law_right
  have bd__law_right : Binds K _ ["_law_pot_here"] [] := F__law_right.binds (fun _ _ _ _ _ _ => us_1 fun _ => rfl)
  have F_law := fun_mk (K := K) (st := s_law) l_law c_law k_law
  have bd_law : Binds K _ ["_law_script"] [] := F_law.binds (fun _ _ _ _ _ _ => us_1 fun _ => rfl)
  have F_TooMany___init__ := fun_mk (K := K) (st := s_TooMany___init__) l_TooMany___init__ c_TooMany___init__ k_TooMany___init__
  have bd_TooMany___init__ : Binds K _ ["self", "what", "limit"] [] := F_TooMany___init__.binds (fun _ _ _ _ _ _ => us_3 fun _ _ _ => rfl)
  have kb_ways_saying := kb_of (ps := ["saying"]) (ks := ["saying"]) (n := 0) (g := fun us ws => us ++ ws) (gV := fun vs zs => vs ++ zs) F_ways (by intro _ _ _ _ _ _ us ws h1 h2; cases us_nil h1; obtain ⟨w0, tw0, rfl, kw0⟩ := us_cons (n := 0) h2; cases us_nil kw0; rfl) (fun a b => a.append b)
  refine ⟨cF, PF, PySem.W.fnOf "law" "law" (defArgs s_law) (defBody s_law) (defScope s_law) .none kV_law dc_law pm_law an_law cd_law ct_law, tt, nP9, ?bb, fun base kb nb TB => ?_⟩
  rotate_left
  have mkI : Mk K C f_Table___init__ := ⟨mk, a_Table___init__, i_Table___init__, kc⟩
  have c_parts_of : Cal P w K mg base "parts_of" f_parts_of _ _ _ _ := ⟨ok_parts_of (P := P) (w := w) (base := base) F_parts_of T, PySem.W.mg_of X G a_parts_of, k_parts_of, bd_parts_of⟩
  have c_all_pieces : Cal P w K mg base "all_pieces" f_all_pieces _ _ _ _ := ⟨ok_all_pieces (P := P) (w := w) (base := base) F_all_pieces T c_parts_of, PySem.W.mg_of X G a_all_pieces, k_all_pieces, bd_all_pieces⟩
  have c_is_rule : Cal P w K mg base "is_rule" f_is_rule _ _ _ _ := ⟨ok_is_rule (P := P) (w := w) (base := base) F_is_rule T, PySem.W.mg_of X G a_is_rule, k_is_rule, bd_is_rule⟩
  have c_is_name : Cal P w K mg base "is_name" f_is_name _ _ _ _ := ⟨ok_is_name (P := P) (w := w) (base := base) F_is_name T, PySem.W.mg_of X G a_is_name, k_is_name, bd_is_name⟩
  have c_is_day : Cal P w K mg base "is_day" f_is_day _ _ _ _ := ⟨ok_is_day (P := P) (w := w) (base := base) F_is_day T, PySem.W.mg_of X G a_is_day, k_is_day, bd_is_day⟩
  have c_names_in : Cal P w K mg base "names_in" f_names_in _ _ _ _ := ⟨ok_names_in (P := P) (w := w) (base := base) F_names_in T c_all_pieces, PySem.W.mg_of X G a_names_in, k_names_in, bd_names_in⟩
  have c_rules_in : Cal P w K mg base "rules_in" f_rules_in _ _ _ _ := ⟨ok_rules_in (P := P) (w := w) (base := base) F_rules_in T c_all_pieces, PySem.W.mg_of X G a_rules_in, k_rules_in, bd_rules_in⟩
  have c__is_piece : Cal P w K mg base "_is_piece" f__is_piece _ _ _ _ := ⟨ok__is_piece (P := P) (w := w) (base := base) F__is_piece T c_is_name c_is_day c_is_rule, PySem.W.mg_of X G a__is_piece, k__is_piece, bd__is_piece⟩
  have c_is_formula : Cal P w K mg base "is_formula" f_is_formula _ _ _ _ := ⟨ok_is_formula (P := P) (w := w) (base := base) F_is_formula T c__is_piece c_parts_of, PySem.W.mg_of X G a_is_formula, k_is_formula, bd_is_formula⟩
  have c__is_tuple_of_saying : Cal P w K mg base "_is_tuple_of_saying" f__is_tuple_of_saying _ _ _ _ := ⟨ok__is_tuple_of_saying (P := P) (w := w) (base := base) F__is_tuple_of_saying T, PySem.W.mg_of X G a__is_tuple_of_saying, k__is_tuple_of_saying, bd__is_tuple_of_saying⟩
  have c_is_saying : Cal P w K mg base "is_saying" f_is_saying _ _ _ _ := ⟨ok_is_saying (P := P) (w := w) (base := base) F_is_saying T c__is_tuple_of_saying c_parts_of c_is_formula, PySem.W.mg_of X G a_is_saying, k_is_saying, bd_is_saying⟩
  have c_need_saying : Cal P w K mg base "need_saying" f_need_saying _ _ _ _ := ⟨ok_need_saying (P := P) (w := w) (base := base) F_need_saying T c_is_saying, PySem.W.mg_of X G a_need_saying, k_need_saying, bd_need_saying⟩
  have c_is_days : Cal P w K mg base "is_days" f_is_days _ _ _ _ := ⟨ok_is_days (P := P) (w := w) (base := base) F_is_days T c_is_name c_is_day, PySem.W.mg_of X G a_is_days, k_is_days, bd_is_days⟩
  have c_need_days : Cal P w K mg base "need_days" f_need_days _ _ _ _ := ⟨ok_need_days (P := P) (w := w) (base := base) F_need_days T c_is_days, PySem.W.mg_of X G a_need_days, k_need_days, bd_need_days⟩
  have c_is_world : Cal P w K mg base "is_world" f_is_world _ _ _ _ := ⟨ok_is_world (P := P) (w := w) (base := base) F_is_world T c_is_rule, PySem.W.mg_of X G a_is_world, k_is_world, bd_is_world⟩
  have c_need_world : Cal P w K mg base "need_world" f_need_world _ _ _ _ := ⟨ok_need_world (P := P) (w := w) (base := base) F_need_world T c_is_world, PySem.W.mg_of X G a_need_world, k_need_world, bd_need_world⟩
  have c_need_few_pieces : Cal P w K mg base "need_few_pieces" f_need_few_pieces _ _ _ _ := ⟨ok_need_few_pieces (P := P) (w := w) (base := base) F_need_few_pieces T c_all_pieces, PySem.W.mg_of X G a_need_few_pieces, k_need_few_pieces, bd_need_few_pieces⟩
  have c_need_rules : Cal P w K mg base "need_rules" f_need_rules _ _ _ _ := ⟨ok_need_rules (P := P) (w := w) (base := base) F_need_rules T c_rules_in, PySem.W.mg_of X G a_need_rules, k_need_rules, bd_need_rules⟩
  have c_need_names : Cal P w K mg base "need_names" f_need_names _ _ _ _ := ⟨ok_need_names (P := P) (w := w) (base := base) F_need_names T c_names_in, PySem.W.mg_of X G a_need_names, k_need_names, bd_need_names⟩
  have c_need_known : Cal P w K mg base "need_known" f_need_known _ _ _ _ := ⟨ok_need_known (P := P) (w := w) (base := base) F_need_known T c_need_rules c_need_names c_need_few_pieces, PySem.W.mg_of X G a_need_known, k_need_known, bd_need_known⟩
  have c_need_day : Cal P w K mg base "need_day" f_need_day _ _ _ _ := ⟨ok_need_day (P := P) (w := w) (base := base) F_need_day T c_is_day, PySem.W.mg_of X G a_need_day, k_need_day, bd_need_day⟩
  have c_is_list : Cal P w K mg base "is_list" f_is_list _ _ _ _ := ⟨ok_is_list (P := P) (w := w) (base := base) F_is_list T, PySem.W.mg_of X G a_is_list, k_is_list, bd_is_list⟩
  have c_is_table : Cal P w K mg base "is_table" f_is_table _ _ _ _ := ⟨ok_is_table (P := P) (w := w) (base := base) F_is_table T c_is_list c_is_day, PySem.W.mg_of X G a_is_table, k_is_table, bd_is_table⟩
  have c__many_ahead : Cal P w K mg base "_many_ahead" f__many_ahead _ _ _ _ := ⟨ok_many (P := P) (w := w) (base := base) F__many_ahead T, PySem.W.mg_of X G a__many_ahead, k__many_ahead, bd__many_ahead⟩
  have m_init : Ini P w K mg base C f_Table___init__ _ := ⟨ok_init (P := P) (w := w) (base := base) F_Table___init__ T c_is_table, bd_Table___init__⟩
  have m_length : Prp P w K mg base C "length" p_Table_length f_Table_length _ _ _ _ := ⟨ok_length (P := P) (w := w) (base := base) F_Table_length T, ⟨a_Table_length, g_Table_length, t_Table_length, ⟨_, r_Table_length⟩⟩, bd_Table_length⟩
  have m_on : Met P w K mg base C "on" f_Table_on _ _ _ _ := ⟨ok_on (P := P) (w := w) (base := base) F_Table_on T c_need_day m_length, ⟨a_Table_on, i_Table_on, k_Table_on⟩, bd_Table_on⟩
  have m_by : Met P w K mg base C "by" f_Table_by _ _ _ _ := ⟨ok_by (P := P) (w := w) (base := base) F_Table_by T c_need_day m_length c__many_ahead, ⟨a_Table_by, i_Table_by, k_Table_by⟩, bd_Table_by⟩
  have m_til : Met P w K mg base C "til" f_Table_til _ _ _ _ := ⟨ok_til (P := P) (w := w) (base := base) F_Table_til T c_need_day m_by, ⟨a_Table_til, i_Table_til, k_Table_til⟩, bd_Table_til⟩
  have c_reckoned : Cal P w K mg base "reckoned" f_reckoned _ _ _ _ := ⟨ok_reckoned (P := P) (w := w) (base := base) F_reckoned T ⟨PySem.W.mg_of X G a_reckoned, k_reckoned, bd_reckoned⟩ c_parts_of m_on m_by m_til 10, PySem.W.mg_of X G a_reckoned, k_reckoned, bd_reckoned⟩
  have c_is_so : Cal P w K mg base "is_so" f_is_so _ _ _ _ := ⟨ok_is_so (P := P) (w := w) (base := base) F_is_so T ⟨PySem.W.mg_of X G a_is_so, k_is_so, bd_is_so⟩ c_reckoned 10, PySem.W.mg_of X G a_is_so, k_is_so, bd_is_so⟩
  have c_holds : Cal P w K mg base "holds" f_holds _ _ _ _ := ⟨ok_holds (P := P) (w := w) (base := base) F_holds T c_need_saying c_need_days c_need_world c_need_known c_is_so, PySem.W.mg_of X G a_holds, k_holds, bd_holds⟩
  have c__law_pot : Cal P w K mg base "_law_pot" f__law_pot _ _ _ _ := ⟨ok_pot (P := P) (w := w) (base := base) F__law_pot T, PySem.W.mg_of X G a__law_pot, k__law_pot, bd__law_pot⟩
  have c__law_draw : Cal P w K mg base "_law_draw" f__law_draw _ _ _ _ := ⟨ok_draw (P := P) (w := w) (base := base) F__law_draw T, PySem.W.mg_of X G a__law_draw, k__law_draw, bd__law_draw⟩
  have c__law_pick : Cal P w K mg base "_law_pick" f__law_pick _ _ _ _ := ⟨ok_pick (P := P) (w := w) (base := base) F__law_pick T c__law_draw, PySem.W.mg_of X G a__law_pick, k__law_pick, bd__law_pick⟩
  have c__law_number : Cal P w K mg base "_law_number" f__law_number _ _ _ _ := ⟨ok_number (P := P) (w := w) (base := base) F__law_number T c__law_draw c__law_pick, PySem.W.mg_of X G a__law_number, k__law_number, bd__law_number⟩
  have c__law_some : Cal P w K mg base "_law_some" f__law_some _ _ _ _ := ⟨ok_some (P := P) (w := w) (base := base) F__law_some T c__law_draw, PySem.W.mg_of X G a__law_some, k__law_some, bd__law_some⟩
  have c__law_formula : Cal P w K mg base "_law_formula" f__law_formula _ _ _ _ := ⟨ok_formula (P := P) (w := w) (base := base) F__law_formula T ⟨PySem.W.mg_of X G a__law_formula, k__law_formula, bd__law_formula⟩ c__law_draw c__law_pick c__law_number 4, PySem.W.mg_of X G a__law_formula, k__law_formula, bd__law_formula⟩
  have c__law_saying : Cal P w K mg base "_law_saying" f__law_saying _ _ _ _ := ⟨ok_saying (P := P) (w := w) (base := base) F__law_saying T ⟨PySem.W.mg_of X G a__law_saying, k__law_saying, bd__law_saying⟩ c__law_draw c__law_pick 5, PySem.W.mg_of X G a__law_saying, k__law_saying, bd__law_saying⟩
  have c__law_parts : Cal P w K mg base "_law_parts" f__law_parts _ _ _ _ := ⟨ok_parts (P := P) (w := w) (base := base) F__law_parts T, PySem.W.mg_of X G a__law_parts, k__law_parts, bd__law_parts⟩
  have c__law_size : Cal P w K mg base "_law_size" f__law_size _ _ _ _ := ⟨ok_size (P := P) (w := w) (base := base) F__law_size T ⟨PySem.W.mg_of X G a__law_size, k__law_size, bd__law_size⟩ c__law_parts 10, PySem.W.mg_of X G a__law_size, k__law_size, bd__law_size⟩
  have c__law_on : Cal P w K mg base "_law_on" f__law_on _ _ _ _ := ⟨ok_lon (P := P) (w := w) (base := base) F__law_on T, PySem.W.mg_of X G a__law_on, k__law_on, bd__law_on⟩
  have c__law_leads : Cal P w K mg base "_law_leads" f__law_leads _ _ _ _ := ⟨ok_leads (P := P) (w := w) (base := base) F__law_leads T, PySem.W.mg_of X G a__law_leads, k__law_leads, bd__law_leads⟩
  have c__law_by : Cal P w K mg base "_law_by" f__law_by _ _ _ _ := ⟨ok_lby (P := P) (w := w) (base := base) F__law_by T c__law_on c__law_leads, PySem.W.mg_of X G a__law_by, k__law_by, bd__law_by⟩
  have c__law_til : Cal P w K mg base "_law_til" f__law_til _ _ _ _ := ⟨ok_ltil (P := P) (w := w) (base := base) F__law_til T c__law_on c__law_leads, PySem.W.mg_of X G a__law_til, k__law_til, bd__law_til⟩
  have c__law_table : Cal P w K mg base "_law_table" f__law_table _ _ _ _ := ⟨ok_table (P := P) (w := w) (base := base) F__law_table T c__law_draw c__law_pick, PySem.W.mg_of X G a__law_table, k__law_table, bd__law_table⟩
  have c__law_day : Cal P w K mg base "_law_day" f__law_day _ _ _ _ := ⟨ok_lday (P := P) (w := w) (base := base) F__law_day T ⟨PySem.W.mg_of X G a__law_day, k__law_day, bd__law_day⟩ c__law_on c__law_by c__law_til 10, PySem.W.mg_of X G a__law_day, k__law_day, bd__law_day⟩
  have c__law_is_so : Cal P w K mg base "_law_is_so" f__law_is_so _ _ _ _ := ⟨ok_lso (P := P) (w := w) (base := base) F__law_is_so T ⟨PySem.W.mg_of X G a__law_is_so, k__law_is_so, bd__law_is_so⟩ c__law_day 10, PySem.W.mg_of X G a__law_is_so, k__law_is_so, bd__law_is_so⟩
  have c__law_days : Cal P w K mg base "_law_days" f__law_days _ _ _ _ := ⟨ok_days (P := P) (w := w) (base := base) F__law_days T c__law_draw, PySem.W.mg_of X G a__law_days, k__law_days, bd__law_days⟩
  have c__law_world : Cal P w K mg base "_law_world" f__law_world _ _ _ _ := ⟨ok_world (P := P) (w := w) (base := base) F__law_world T c__law_table, PySem.W.mg_of X G a__law_world, k__law_world, bd__law_world⟩
  have c__law_tables : Cal P w K mg base "_law_tables" f__law_tables _ _ _ _ := ⟨ok_tables (P := P) (w := w) (base := base) F__law_tables T mkI m_init, PySem.W.mg_of X G a__law_tables, k__law_tables, bd__law_tables⟩
  have c__many_ways : Cal P w K mg base "_many_ways" f__many_ways _ _ _ _ := ⟨ok__many_ways (P := P) (w := w) (base := base) F__many_ways T ⟨PySem.W.mg_of X G a__many_ways, k__many_ways, bd__many_ways⟩ 20, PySem.W.mg_of X G a__many_ways, k__many_ways, bd__many_ways⟩
  have c__law_many : Cal P w K mg base "_law_many" f__law_many _ _ _ _ := ⟨ok_lmany (P := P) (w := w) (base := base) F__law_many T ⟨PySem.W.mg_of X G a__law_many, k__law_many, bd__law_many⟩ 12, PySem.W.mg_of X G a__law_many, k__law_many, bd__law_many⟩
  have c__law_pushed : Cal P w K mg base "_law_pushed" f__law_pushed _ _ _ _ := ⟨ok_lpush (P := P) (w := w) (base := base) F__law_pushed T ⟨PySem.W.mg_of X G a__law_pushed, k__law_pushed, bd__law_pushed⟩ 10, PySem.W.mg_of X G a__law_pushed, k__law_pushed, bd__law_pushed⟩
  have c__pushed_in : Cal P w K mg base "_pushed_in" f__pushed_in _ _ _ _ := ⟨ok__pushed_in (P := P) (w := w) (base := base) F__pushed_in F_contrary_of T TJ ⟨PySem.W.mg_of X G a__pushed_in, k__pushed_in, bd__pushed_in⟩ ⟨PySem.W.mg_of X G a_contrary_of, k_contrary_of, bd_contrary_of⟩ 20, PySem.W.mg_of X G a__pushed_in, k__pushed_in, bd__pushed_in⟩
  have c_without_doubles : Cal P w K mg base "without_doubles" f_without_doubles _ _ _ _ := ⟨ok_without_doubles (P := P) (w := w) (base := base) F_without_doubles T, PySem.W.mg_of X G a_without_doubles, k_without_doubles, bd_without_doubles⟩
  have c__all_ways : Cal P w K mg base "_all_ways" f__all_ways _ _ _ _ := ⟨ok__all_ways (P := P) (w := w) (base := base) F__all_ways T ⟨PySem.W.mg_of X G a__all_ways, k__all_ways, bd__all_ways⟩ 20, PySem.W.mg_of X G a__all_ways, k__all_ways, bd__all_ways⟩
  have c__law_is_just : Cal P w K mg base "_law_is_just" f__law_is_just _ _ _ _ := ⟨ok_is_just (P := P) (w := w) (base := base) F__law_is_just T, PySem.W.mg_of X G a__law_is_just, k__law_is_just, bd__law_is_just⟩
  have c__law_ways : Cal P w K mg base "_law_ways" f__law_ways _ _ _ _ := ⟨ok_lways (P := P) (w := w) (base := base) F__law_ways T ⟨PySem.W.mg_of X G a__law_ways, k__law_ways, bd__law_ways⟩ 12, PySem.W.mg_of X G a__law_ways, k__law_ways, bd__law_ways⟩
  have i_TooMany : IniX P w K mg base C_TooMany f_TooMany___init__ _ := ⟨ok_tm (P := P) (w := w) (base := base) F_TooMany___init__ TE, bd_TooMany___init__⟩
  have cX_need_few_pieces : CalX P w K mg base "need_few_pieces" f_need_few_pieces _ _ _ _ := ⟨ok_X_need_few (P := P) (w := w) (base := base) F_need_few_pieces T TE c_all_pieces i_TooMany, PySem.W.mg_of X G a_need_few_pieces, k_need_few_pieces, bd_need_few_pieces⟩
  have c_ways : CalX P w K mg base "ways" f_ways _ _ _ _ := ⟨ok_ways (P := P) (w := w) (base := base) F_ways T TJ TE c_need_saying cX_need_few_pieces c__pushed_in c__many_ways c__all_ways c_without_doubles i_TooMany, PySem.W.mg_of X G a_ways, k_ways, bd_ways⟩
  have c__law_forms_right : Cal P w K mg base "_law_forms_right" f__law_forms_right _ _ _ _ := ⟨ok_forms (P := P) (w := w) (base := base) F__law_forms_right T TE hc TB F__law_heard ⟨PySem.W.mg_of X G a__law_heard, k__law_heard, bd__law_heard⟩ c__law_pushed c_ways c__law_size c__law_many c__law_ways kb_ways_saying, PySem.W.mg_of X G a__law_forms_right, k__law_forms_right, bd__law_forms_right⟩
  have c__law_worths_right : Cal P w K mg base "_law_worths_right" f__law_worths_right _ _ _ _ := ⟨ok_worths (P := P) (w := w) (base := base) F__law_worths_right T c__law_size c__law_many c__law_pushed c_ways c__law_days c__law_world c__law_tables c_holds c__law_is_so c__law_is_just, PySem.W.mg_of X G a__law_worths_right, k__law_worths_right, bd__law_worths_right⟩
  have c__law_right : Cal P w K mg base "_law_right" f__law_right _ _ _ _ := ⟨ok_right (P := P) (w := w) (base := base) F__law_right T c__law_some c__law_formula c__law_saying c__law_forms_right c__law_worths_right, PySem.W.mg_of X G a__law_right, k__law_right, bd__law_right⟩
  exact ok_law (P := P) (w := w) (base := base) F_law T c__law_pot c__law_right
  exact fun s u => BindsTo.of_looks fun M => PySem.W.Looks.of_pure rfl
end
end K25
end
section
open PySem PySem.W PyProof.Rows L2
set_option maxHeartbeats 0 in
theorem PySem.Challenge.cw_leadrules_k25_whole_ways_of_sayings_holds : PySem.Challenge.rw_leadrules_k25_whole_ways_of_sayings.Holds := by
  w_on; o_law; k_head; (case hw => w_witness2)
  k_fill
  refine K25.walkT (l := PySem.Challenge.rw_leadrules_k25_whole_ways_of_sayings) (n := 63) (k := 30) (x := "_law_script") (x2 := "_law_forms_right") (CX := CX0) (sp := K25.sp_law) rfl (by decide) rfl ⟨rfl, by decide, by decide⟩ (by decide +kernel) (fun w h Y => PySem.W.km_in_of Y) ?Fq ?Sq ?Nq
  case Sq => exact fun K Pt H a ns hl hP hS => ⟨a, ns, rfl, hS, hl, fun p hp => by cases List.mem_singleton.mp hp; exact LamX.TabS.nil hP, fun H2 => rfl⟩
  case Nq => exact fun H s e s' h => h
  case Fq =>
    intro w mg fa h KX G0 hmg
    refine' K25.all_mk KX G0 hmg ?aC ?pg ?hd ?po ?sa ?mk ?kc ?n_days ?vMOST_LENGTH ?wMOST_LENGTH ?rd ?ga ?xMOST_LENGTH ?mo ?tc1 ?tc2 ?tc3 ?a_MOST_PIECES ?a_MOST_WAYS ?a_SZ ?l_SZ ?kl_SZ ?lo_SZ ?v_SZ_day ?v_SZ_num ?v_SZ_on ?v_SZ_by ?v_SZ_til ?v_SZ_add ?v_SZ_late ?v_SZ_soon ?o_SZ_le ?o_SZ_and ?o_SZ_or ?o_SZ_not ?a_SY ?l_SY ?kl_SY ?lo_SY ?v_SY_le ?v_SY_and ?v_SY_or ?v_SY_not ?a_CJ ?l_CJ ?kl_CJ ?lo_CJ ?v_CJ_and ?v_CJ_or ?aC_TooMany ?xC_TooMany ?saC_TooMany ?gaC_TooMany ?ggC_TooMany ?n_what_TooMany ?n_limit_TooMany ?iC_TooMany ?tI_TooMany ?l_TooMany___init__ ?c_TooMany___init__ ?k_TooMany___init__ ?kC_TooMany ?eC_TooMany ?tC_TooMany ?hC_TooMany ?jC_TooMany ?sC_TooMany ?a_is_day ?l_is_day ?c_is_day ?k_is_day ?a_is_rule ?l_is_rule ?c_is_rule ?k_is_rule ?a_is_name ?l_is_name ?c_is_name ?k_is_name ?a_is_days ?l_is_days ?c_is_days ?k_is_days ?a_need_day ?l_need_day ?c_need_day ?k_need_day ?a_need_days ?l_need_days ?c_need_days ?k_need_days ?a_is_list ?l_is_list ?c_is_list ?k_is_list ?a_parts_of ?l_parts_of ?c_parts_of ?k_parts_of ?a_all_pieces ?l_all_pieces ?c_all_pieces ?k_all_pieces ?a_names_in ?l_names_in ?c_names_in ?k_names_in ?a_rules_in ?l_rules_in ?c_rules_in ?k_rules_in ?a_need_few_pieces ?l_need_few_pieces ?c_need_few_pieces ?k_need_few_pieces ?a_Table___init__ ?i_Table___init__ ?l_Table___init__ ?c_Table___init__ ?k_Table___init__ ?a_Table_length ?g_Table_length ?t_Table_length ?r_Table_length ?l_Table_length ?c_Table_length ?k_Table_length ?a_Table_on ?i_Table_on ?l_Table_on ?c_Table_on ?k_Table_on ?a_Table_by ?i_Table_by ?l_Table_by ?c_Table_by ?k_Table_by ?a_Table_til ?i_Table_til ?l_Table_til ?c_Table_til ?k_Table_til ?a_is_table ?l_is_table ?c_is_table ?k_is_table ?a_is_world ?l_is_world ?c_is_world ?k_is_world ?a_need_world ?l_need_world ?c_need_world ?k_need_world ?a__many_ahead ?l__many_ahead ?c__many_ahead ?k__many_ahead ?a_is_formula ?l_is_formula ?c_is_formula ?k_is_formula ?a_need_rules ?l_need_rules ?c_need_rules ?k_need_rules ?a_need_names ?l_need_names ?c_need_names ?k_need_names ?a_need_known ?l_need_known ?c_need_known ?k_need_known ?a_reckoned ?l_reckoned ?c_reckoned ?k_reckoned ?a__is_piece ?l__is_piece ?c__is_piece ?k__is_piece ?a_is_saying ?l_is_saying ?c_is_saying ?k_is_saying ?a_need_saying ?l_need_saying ?c_need_saying ?k_need_saying ?a_holds ?l_holds ?c_holds ?k_holds ?a_is_so ?l_is_so ?c_is_so ?k_is_so ?a__is_tuple_of_saying ?l__is_tuple_of_saying ?c__is_tuple_of_saying ?k__is_tuple_of_saying ?a__law_pot ?l__law_pot ?c__law_pot ?k__law_pot ?a__law_draw ?l__law_draw ?c__law_draw ?k__law_draw ?a__law_pick ?l__law_pick ?c__law_pick ?k__law_pick ?a__law_some ?l__law_some ?c__law_some ?k__law_some ?a__law_number ?l__law_number ?c__law_number ?k__law_number ?a__law_formula ?l__law_formula ?c__law_formula ?k__law_formula ?a__law_saying ?l__law_saying ?c__law_saying ?k__law_saying ?a__law_table ?l__law_table ?c__law_table ?k__law_table ?a__law_on ?l__law_on ?c__law_on ?k__law_on ?a__law_leads ?l__law_leads ?c__law_leads ?k__law_leads ?a__law_by ?l__law_by ?c__law_by ?k__law_by ?a__law_til ?l__law_til ?c__law_til ?k__law_til ?a__law_day ?l__law_day ?c__law_day ?k__law_day ?a__law_is_so ?l__law_is_so ?c__law_is_so ?k__law_is_so ?a__law_parts ?l__law_parts ?c__law_parts ?k__law_parts ?a__law_size ?l__law_size ?c__law_size ?k__law_size ?a__law_days ?l__law_days ?c__law_days ?k__law_days ?a__law_world ?l__law_world ?c__law_world ?k__law_world ?a__law_tables ?l__law_tables ?c__law_tables ?k__law_tables ?a_without_doubles ?l_without_doubles ?c_without_doubles ?k_without_doubles ?a_ways ?l_ways ?c_ways ?k_ways ?a__pushed_in ?l__pushed_in ?c__pushed_in ?k__pushed_in ?a_contrary_of ?l_contrary_of ?c_contrary_of ?k_contrary_of ?a__many_ways ?l__many_ways ?c__many_ways ?k__many_ways ?a__all_ways ?l__all_ways ?c__all_ways ?k__all_ways ?a__law_pushed ?l__law_pushed ?c__law_pushed ?k__law_pushed ?a__law_many ?l__law_many ?c__law_many ?k__law_many ?a__law_ways ?l__law_ways ?c__law_ways ?k__law_ways ?a__law_heard ?l__law_heard ?c__law_heard ?k__law_heard ?a__law_forms_right ?l__law_forms_right ?c__law_forms_right ?k__law_forms_right ?a__law_is_just ?l__law_is_just ?c__law_is_just ?k__law_is_just ?a__law_worths_right ?l__law_worths_right ?c__law_worths_right ?k__law_worths_right ?a__law_right ?l__law_right ?c__law_right ?k__law_right ?a_law ?l_law ?c_law ?k_law ?kc9 ?lc9 ?tb9 ?nP9 ?b_isinstance ?b_int ?b_bool ?b_list ?b_tuple ?b_str ?b_dict ?b_len ?b_enumerate ?b_range ?b_divmod ?b_min ?b_max ?b_all ?b_abs ?b_repr ?b_sum ?b_set ?b_sorted ?b_any
    (case aC => k_is)
    (case pg => k_is)
    (case hd => k_is)
    (case po => k_is)
    (case sa => k_is)
    (case mk => k_is)
    (case kc => k_is)
    (case n_days => k_is)
    (case vMOST_LENGTH => k_is)
    (case wMOST_LENGTH => k_is)
    (case rd => k_is)
    (case ga => k_is)
    (case xMOST_LENGTH => k_is)
    (case mo => k_is)
    (case tc1 => k_is)
    (case tc2 => k_is)
    (case tc3 => k_is)
    (case a_MOST_PIECES => k_is)
    (case a_MOST_WAYS => k_is)
    (case a_SZ => k_is)
    (case l_SZ => k_is)
    (case kl_SZ => repeat' (first | exact trivial | refine ⟨⟨_, _, rfl, rfl⟩, ?_⟩))
    (case lo_SZ => (first | rfl | decide))
    (case v_SZ_day => k_is)
    (case v_SZ_num => k_is)
    (case v_SZ_on => k_is)
    (case v_SZ_by => k_is)
    (case v_SZ_til => k_is)
    (case v_SZ_add => k_is)
    (case v_SZ_late => k_is)
    (case v_SZ_soon => k_is)
    (case o_SZ_le => k_is)
    (case o_SZ_and => k_is)
    (case o_SZ_or => k_is)
    (case o_SZ_not => k_is)
    (case a_SY => k_is)
    (case l_SY => k_is)
    (case kl_SY => repeat' (first | exact trivial | refine ⟨⟨_, _, rfl, rfl⟩, ?_⟩))
    (case lo_SY => (first | rfl | decide))
    (case v_SY_le => k_is)
    (case v_SY_and => k_is)
    (case v_SY_or => k_is)
    (case v_SY_not => k_is)
    (case a_CJ => k_is)
    (case l_CJ => k_is)
    (case kl_CJ => repeat' (first | exact trivial | refine ⟨⟨_, _, rfl, rfl⟩, ?_⟩))
    (case lo_CJ => (first | rfl | decide))
    (case v_CJ_and => k_is)
    (case v_CJ_or => k_is)
    (case aC_TooMany => k_is)
    (case xC_TooMany => k_is)
    (case saC_TooMany => k_is)
    (case gaC_TooMany => k_is)
    (case ggC_TooMany => k_is)
    (case n_what_TooMany => k_is)
    (case n_limit_TooMany => k_is)
    (case iC_TooMany => k_is)
    (case tI_TooMany => k_is)
    (case l_TooMany___init__ => k_is)
    (case c_TooMany___init__ => k_is)
    (case k_TooMany___init__ => k_is)
    (case kC_TooMany => k_is)
    (case eC_TooMany => k_is)
    (case tC_TooMany => k_is)
    (case hC_TooMany => k_is)
    (case jC_TooMany => k_is)
    (case sC_TooMany => k_is)
    (case a_is_day => k_is)
    (case l_is_day => k_is)
    (case c_is_day => k_is)
    (case k_is_day => k_is)
    (case a_is_rule => k_is)
    (case l_is_rule => k_is)
    (case c_is_rule => k_is)
    (case k_is_rule => k_is)
    (case a_is_name => k_is)
    (case l_is_name => k_is)
    (case c_is_name => k_is)
    (case k_is_name => k_is)
    (case a_is_days => k_is)
    (case l_is_days => k_is)
    (case c_is_days => k_is)
    (case k_is_days => k_is)
    (case a_need_day => k_is)
    (case l_need_day => k_is)
    (case c_need_day => k_is)
    (case k_need_day => k_is)
    (case a_need_days => k_is)
    (case l_need_days => k_is)
    (case c_need_days => k_is)
    (case k_need_days => k_is)
    (case a_is_list => k_is)
    (case l_is_list => k_is)
    (case c_is_list => k_is)
    (case k_is_list => k_is)
    (case a_parts_of => k_is)
    (case l_parts_of => k_is)
    (case c_parts_of => k_is)
    (case k_parts_of => k_is)
    (case a_all_pieces => k_is)
    (case l_all_pieces => k_is)
    (case c_all_pieces => k_is)
    (case k_all_pieces => k_is)
    (case a_names_in => k_is)
    (case l_names_in => k_is)
    (case c_names_in => k_is)
    (case k_names_in => k_is)
    (case a_rules_in => k_is)
    (case l_rules_in => k_is)
    (case c_rules_in => k_is)
    (case k_rules_in => k_is)
    (case a_need_few_pieces => k_is)
    (case l_need_few_pieces => k_is)
    (case c_need_few_pieces => k_is)
    (case k_need_few_pieces => k_is)
    (case a_Table___init__ => k_is)
    (case i_Table___init__ => k_is)
    (case l_Table___init__ => k_is)
    (case c_Table___init__ => k_is)
    (case k_Table___init__ => k_is)
    (case a_Table_length => k_is)
    (case g_Table_length => k_is)
    (case t_Table_length => k_is)
    (case r_Table_length => k_is)
    (case l_Table_length => k_is)
    (case c_Table_length => k_is)
    (case k_Table_length => k_is)
    (case a_Table_on => k_is)
    (case i_Table_on => k_is)
    (case l_Table_on => k_is)
    (case c_Table_on => k_is)
    (case k_Table_on => k_is)
    (case a_Table_by => k_is)
    (case i_Table_by => k_is)
    (case l_Table_by => k_is)
    (case c_Table_by => k_is)
    (case k_Table_by => k_is)
    (case a_Table_til => k_is)
    (case i_Table_til => k_is)
    (case l_Table_til => k_is)
    (case c_Table_til => k_is)
    (case k_Table_til => k_is)
    (case a_is_table => k_is)
    (case l_is_table => k_is)
    (case c_is_table => k_is)
    (case k_is_table => k_is)
    (case a_is_world => k_is)
    (case l_is_world => k_is)
    (case c_is_world => k_is)
    (case k_is_world => k_is)
    (case a_need_world => k_is)
    (case l_need_world => k_is)
    (case c_need_world => k_is)
    (case k_need_world => k_is)
    (case a__many_ahead => k_is)
    (case l__many_ahead => k_is)
    (case c__many_ahead => k_is)
    (case k__many_ahead => k_is)
    (case a_is_formula => k_is)
    (case l_is_formula => k_is)
    (case c_is_formula => k_is)
    (case k_is_formula => k_is)
    (case a_need_rules => k_is)
    (case l_need_rules => k_is)
    (case c_need_rules => k_is)
    (case k_need_rules => k_is)
    (case a_need_names => k_is)
    (case l_need_names => k_is)
    (case c_need_names => k_is)
    (case k_need_names => k_is)
    (case a_need_known => k_is)
    (case l_need_known => k_is)
    (case c_need_known => k_is)
    (case k_need_known => k_is)
    (case a_reckoned => k_is)
    (case l_reckoned => k_is)
    (case c_reckoned => k_is)
    (case k_reckoned => k_is)
    (case a__is_piece => k_is)
    (case l__is_piece => k_is)
    (case c__is_piece => k_is)
    (case k__is_piece => k_is)
    (case a_is_saying => k_is)
    (case l_is_saying => k_is)
    (case c_is_saying => k_is)
    (case k_is_saying => k_is)
    (case a_need_saying => k_is)
    (case l_need_saying => k_is)
    (case c_need_saying => k_is)
    (case k_need_saying => k_is)
    (case a_holds => k_is)
    (case l_holds => k_is)
    (case c_holds => k_is)
    (case k_holds => k_is)
    (case a_is_so => k_is)
    (case l_is_so => k_is)
    (case c_is_so => k_is)
    (case k_is_so => k_is)
    (case a__is_tuple_of_saying => k_is)
    (case l__is_tuple_of_saying => k_is)
    (case c__is_tuple_of_saying => k_is)
    (case k__is_tuple_of_saying => k_is)
    (case a__law_pot => k_is)
    (case l__law_pot => k_is)
    (case c__law_pot => k_is)
    (case k__law_pot => k_is)
    (case a__law_draw => k_is)
    (case l__law_draw => k_is)
    (case c__law_draw => k_is)
    (case k__law_draw => k_is)
    (case a__law_pick => k_is)
    (case l__law_pick => k_is)
    (case c__law_pick => k_is)
    (case k__law_pick => k_is)
    (case a__law_some => k_is)
    (case l__law_some => k_is)
    (case c__law_some => k_is)
    (case k__law_some => k_is)
    (case a__law_number => k_is)
    (case l__law_number => k_is)
    (case c__law_number => k_is)
    (case k__law_number => k_is)
    (case a__law_formula => k_is)
    (case l__law_formula => k_is)
    (case c__law_formula => k_is)
    (case k__law_formula => k_is)
    (case a__law_saying => k_is)
    (case l__law_saying => k_is)
    (case c__law_saying => k_is)
    (case k__law_saying => k_is)
    (case a__law_table => k_is)
    (case l__law_table => k_is)
    (case c__law_table => k_is)
    (case k__law_table => k_is)
    (case a__law_on => k_is)
    (case l__law_on => k_is)
    (case c__law_on => k_is)
    (case k__law_on => k_is)
    (case a__law_leads => k_is)
    (case l__law_leads => k_is)
    (case c__law_leads => k_is)
    (case k__law_leads => k_is)
    (case a__law_by => k_is)
    (case l__law_by => k_is)
    (case c__law_by => k_is)
    (case k__law_by => k_is)
    (case a__law_til => k_is)
    (case l__law_til => k_is)
    (case c__law_til => k_is)
    (case k__law_til => k_is)
    (case a__law_day => k_is)
    (case l__law_day => k_is)
    (case c__law_day => k_is)
    (case k__law_day => k_is)
    (case a__law_is_so => k_is)
    (case l__law_is_so => k_is)
    (case c__law_is_so => k_is)
    (case k__law_is_so => k_is)
    (case a__law_parts => k_is)
    (case l__law_parts => k_is)
    (case c__law_parts => k_is)
    (case k__law_parts => k_is)
    (case a__law_size => k_is)
    (case l__law_size => k_is)
    (case c__law_size => k_is)
    (case k__law_size => k_is)
    (case a__law_days => k_is)
    (case l__law_days => k_is)
    (case c__law_days => k_is)
    (case k__law_days => k_is)
    (case a__law_world => k_is)
    (case l__law_world => k_is)
    (case c__law_world => k_is)
    (case k__law_world => k_is)
    (case a__law_tables => k_is)
    (case l__law_tables => k_is)
    (case c__law_tables => k_is)
    (case k__law_tables => k_is)
    (case a_without_doubles => k_is)
    (case l_without_doubles => k_is)
    (case c_without_doubles => k_is)
    (case k_without_doubles => k_is)
    (case a_ways => k_is)
    (case l_ways => k_is)
    (case c_ways => k_is)
    (case k_ways => k_is)
    (case a__pushed_in => k_is)
    (case l__pushed_in => k_is)
    (case c__pushed_in => k_is)
    (case k__pushed_in => k_is)
    (case a_contrary_of => k_is)
    (case l_contrary_of => k_is)
    (case c_contrary_of => k_is)
    (case k_contrary_of => k_is)
    (case a__many_ways => k_is)
    (case l__many_ways => k_is)
    (case c__many_ways => k_is)
    (case k__many_ways => k_is)
    (case a__all_ways => k_is)
    (case l__all_ways => k_is)
    (case c__all_ways => k_is)
    (case k__all_ways => k_is)
    (case a__law_pushed => k_is)
    (case l__law_pushed => k_is)
    (case c__law_pushed => k_is)
    (case k__law_pushed => k_is)
    (case a__law_many => k_is)
    (case l__law_many => k_is)
    (case c__law_many => k_is)
    (case k__law_many => k_is)
    (case a__law_ways => k_is)
    (case l__law_ways => k_is)
    (case c__law_ways => k_is)
    (case k__law_ways => k_is)
    (case a__law_heard => k_is)
    (case l__law_heard => k_is)
    (case c__law_heard => k_is)
    (case k__law_heard => k_is)
    (case a__law_forms_right => k_is)
    (case l__law_forms_right => k_is)
    (case c__law_forms_right => k_is)
    (case k__law_forms_right => k_is)
    (case a__law_is_just => k_is)
    (case l__law_is_just => k_is)
    (case c__law_is_just => k_is)
    (case k__law_is_just => k_is)
    (case a__law_worths_right => k_is)
    (case l__law_worths_right => k_is)
    (case c__law_worths_right => k_is)
    (case k__law_worths_right => k_is)
    (case a__law_right => k_is)
    (case l__law_right => k_is)
    (case c__law_right => k_is)
    (case k__law_right => k_is)
    (case a_law => k_is)
    (case l_law => k_is)
    (case c_law => k_is)
    (case k_law => k_is)
    (case kc9 => rfl)
    (case lc9 => k_is)
    (case tb9 => rfl)
    (case nP9 => (first | rfl | decide +kernel))
    (case b_isinstance => k_is)
    (case b_int => k_is)
    (case b_bool => k_is)
    (case b_list => k_is)
    (case b_tuple => k_is)
    (case b_str => k_is)
    (case b_dict => k_is)
    (case b_len => k_is)
    (case b_enumerate => k_is)
    (case b_range => k_is)
    (case b_divmod => k_is)
    (case b_min => k_is)
    (case b_max => k_is)
    (case b_all => k_is)
    (case b_abs => k_is)
    (case b_repr => k_is)
    (case b_sum => k_is)
    (case b_set => k_is)
    (case b_sorted => k_is)
    (case b_any => k_is)
end
