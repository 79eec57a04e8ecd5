import PyProof.Rows.All
import Wide.All
import OpenK.AllK
import Wide.FinOn
import HandS.ForMost
import HandS.Evl
import HandS.Property
import HandS.Star
import HandS.ClsMeth
import HandS.Defaults
import HandS.MakeKwOnly
import HandS.FStr
import HandS.Conv
import HandS.Gcd
import HandS.IsInst
import HandS.Wide
import PyProof.ReprRoads
import PyProof.ListNew
import PyProof.ListRange
import HandS.Style
import HandS.OwnEq
import HandS.More
import KE.KMathGC
import HandS.Exc
import HandS.ExcInit
import HandS.ExcField
import HandS.Sort
import HandS.ExcOwn
import HandS.WordsExc
import HandS.TupAny
import HandS.Lambda
import HandS.Strs
import HandS.TupSets
import PyProof.Rows.SortShellK
import PyProof.Rows.SortKeyStr
import PyProof.Rows.SortStr
import HandS.Iter
import HandS.Walk
import HandS.Ends
import PyProof.ListStr
import PySem.Challenge.RW_leadrules_k20_any_value_judged
set_option Elab.async false
set_option linter.all false
set_option maxRecDepth 100000
section
set_option maxHeartbeats 2000000
namespace G
open PySem PySem.Spec PyProof.Rows L2

/-! ### a def's promise where no repr is running around it -/
structure FnG (P : Program) (w : World) (K : PySem.W.Frag) (mg : Str → Option Value) (base : Heap) (CX : CXT) (k : Nat) (f : Addr) (fd : FuncData) (ps : List Str) (sp : Sp) : Prop where
  len : ∀ vs H Q E, sp vs H Q E → vs.length = ps.length
  run : ∀ (A : Around) (outer : List Env) (s : Shared) (H : Hp) (args : Args) (us : List Value) (vs : List V) (Q : VK) (E : XK), A.guards = some [] → Room k A → Env0 P w K mg base A outer s H → BindsTo s fd args (ps.zip us) → Vals vs us → sp vs H Q E →
    codeAny (model P w) A (.call (.ref f) args) (CR CX outer P w H s Q E) s

theorem fnG_of {CX : CXT} {P : Program} {w : World} {K : PySem.W.Frag} {mg : Str → Option Value} {base : Heap} {k : Nat} {f : Addr} {name qual : Str} {params : Arguments} {body : List Stmt} {scope : Scope} {dV kV doc pm cdv ct oc : Value} {an od : Option Addr}
    {osl : Array (Option Value)} {N ps : List Str} {sp : Sp} (lk : K.lookup f = some ⟨oc, od, .func (PySem.W.fnOf name qual params body scope dV kV doc pm an cdv ct), osl⟩) (hcd : PySem.W.codeIn K cdv qual = true) (S : FnScope N ps scope)
    (len : ∀ vs H Q E, sp vs H Q E → vs.length = ps.length)
    (hbody : ∀ (A : Around) (outer : List Env) (s : Shared) (H : Hp) (vs : List V) (Q : VK) (E : XK), A.guards = some [] → Room k (A.deeper (envOfC qual scope s.heap.objs.size f cdv)) → sp vs H Q E →
      ∃ t, PSs (cxOf CX P w K mg base N qual scope f cdv A outer s H E) body t ∧ t { nx := fun _ H' => Q .non H', rt := Q } (start N vs) H) :
    FnG P w K mg base CX (k + 1) f (PySem.W.fnOf name qual params body scope dV kV doc pm an cdv ct) ps sp := by
  refine ⟨len, fun A outer s H args us vs Q E hgd hr e0 hb r hsp => ?_⟩
  have hl := len _ _ _ _ hsp
  have KX : K.In s.heap := e0.mod.kin.keeps fun b o e => (e0.bs b o e).1
  have lim : s.heap.NoLimit := e0.mod.nolimit.keeps fun b o e => (e0.bs b o e).1
  have hkind : ∀ y ∈ ps.zip us, scope.names.lookup y.1 = some .local ∨ (scope.names.lookup y.1 = some .cell ∧ ((cellsFrom (s.heap.objs.size + 1) scope.names []).lookup y.1).isSome = true) := fun ⟨n, v⟩ hy => by
    rcases S.par n (List.of_mem_zip hy).1 with q | q
    · exact .inl q
    · exact .inr ⟨q, PySem.W.cellsFrom_some _ _ _ (.inl q)⟩
  refine codeAny_call_function hr.depth (KX _ _ lk) rfl S.co S.gen rfl (PySem.W.codeRec_of KX hcd) (hb _ _ _ _ ?_)
  refine wpAny_newFunctionEnv_cells S.kind hkind fun env he s1 x => ?_
  subst he
  refine ⟨lim.keeps x.toInCall.keep, codeAny_func ?_⟩
  obtain ⟨t, ht, hq⟩ := hbody A outer s H vs Q E hgd (hr.deeper _) hsp
  have I : Inv (cxOf CX P w K mg base N qual scope f cdv A outer s H E) [] (start N vs) H s1 := inv_start S hr.hd e0 hl r x
  refine wpAny_mono (ht.run [] s1 (start N vs) H _ I hq) (fun fl s' hs => ?_) fun e s' hs => hs
  have fin : ∀ {σ' : L2.St} {H' : Hp} {v : V} {u : Value}, Inv (cxOf CX P w K mg base N qual scope f cdv A outer s H E) [] σ' H' s' → RelV v u → Q v H' → CE outer P w H s Q u s' :=
    fun {σ' H' v u} J rv q => ⟨v, H', J.os, J.bare, J.base, J.hok, rv, q⟩
  cases fl with
  | ret u =>
    obtain ⟨v, σ', H', J, rv, q⟩ := hs
    exact fin J rv q
  | next =>
    obtain ⟨σ', H', J, q⟩ := hs
    exact fin (v := V.non) (u := Value.none) J rfl q
  | brk =>
    obtain ⟨_, _, _, q⟩ := hs
    exact False.elim q
  | cont =>
    obtain ⟨_, _, _, q⟩ := hs
    exact False.elim q

theorem okG {P : Program} {w : World} {K : PySem.W.Frag} {mg : Str → Option Value} {base : Heap} {x qual : Str} {st : Stmt} {f : Addr} {fd : FuncData} {N ps : List Str} {k : Nat} {sp : Sp} (F : Fun K x qual st f fd) (S : FnScope N ps (defScope st)) (len : ∀ vs H Q E, sp vs H Q E → vs.length = ps.length)
    (hbody : ∀ (cdv : Value) (A : Around) (outer : List Env) (s : Shared) (H : Hp) (vs : List V) (Q : VK) (E : XK), A.guards = some [] → Room k (A.deeper (envOfC qual (defScope st) s.heap.objs.size f cdv)) → sp vs H Q E →
      ∃ t, PSs (cxOf CX0 P w K mg base N qual (defScope st) f cdv A outer s H E).nox (defBody st) t ∧ t { nx := fun _ H' => Q .non H', rt := Q } (start N vs) H) : FnG P w K mg base CX0 (k + 1) f fd ps sp := by
  obtain ⟨oc, od, kV, doc, pm, an, cdv, ct, osl, rfl, lk, hcd⟩ := F.ex
  refine fnG_of lk hcd S len fun A outer s H vs Q E hg hr hsp => ?_
  obtain ⟨t, h, q⟩ := hbody cdv A outer s H vs Q E hg hr hsp
  exact ⟨t, h.nox, q⟩

section
variable {X : Cx} {CX : CXT} {k n : Nat} {f C : Addr} {fd : FuncData} {ps ks : List Str} {sp : Sp} {dvs : List V} {ds : List Value} {E : XK} {x m : Str} {p pos apos : Pos} {e o : Expr} {es : List Expr} {kws : List Keyword} {ta : TE} {t tk : TA} {g : List Value → List Value → List Value} {gV : List V → List V → List V}
theorem run_fnG {pins : List (Addr × Obj)} {σ : L2.St} {H : Hp} {s : Shared} {Q : VK} {us : List Value} {vs : List V} (F : FnG X.prog X.w X.K X.mg X.base CX k f fd ps sp) (hgd : X.A.guards = some []) (hr : Room k X.A) (hb : Binds X.K fd ps ds) (hd : Vals dvs ds) (hx : Passes CX X E)
    (I : Inv X pins σ H s) (r : Vals vs us) (h : sp (vs ++ dvs) H Q E) : wpAny (model X.prog X.w) X.A (call (.ref f) us) (EP X pins σ Q) X.xe s := by
  have r2 : Vals (vs ++ dvs) (us ++ ds) := r.append hd
  have hl : (us ++ ds).length = ps.length := by rw [← r2.length]; exact F.len _ _ _ _ h
  refine wpAny_call (codeAny_mono (F.run X.A X.stack s H ⟨us, []⟩ (us ++ ds) (vs ++ dvs) Q E hgd hr I.env0 (hb s us I.kIn hl) r2 h) fun r s' hq => ?_)
  cases r with
  | error e => exact hx pins σ H s e s' I hq
  | ok fl =>
    cases fl with
    | ret u => exact I.after hq
    | next => exact False.elim hq
    | brk => exact False.elim hq
    | cont => exact False.elim hq
/-- f(e, ..) -/
theorem pe_callG (F : FnG X.prog X.w X.K X.mg X.base CX k f fd ps sp) (hgd : X.A.guards = some []) (hr : Room k X.A) (hg : Gl X x) (hm : X.mg x = some (.ref f)) (hk : PySem.W.keepIn X.K (.ref f) = true) (hb : Binds X.K fd ps ds) (hd : Vals dvs ds) (hx : Passes CX X E)
    (ha : PA X (e :: es) t) (hdb : (x == ("__debug__" : Str)) = false := by decide) (he : starEach (e :: es) X.env = (false, eval e X.env) :: starEach es X.env := by rfl) (hpl : (backTo pos (starEach es X.env)).any (·.1) = false := by rfl) :
    PE X (.Call (.Name x p) (e :: es) [] pos) (tCall sp dvs E t) := by
  refine ⟨fun pins s σ H Q I h => ?_⟩
  refine wpAny_Call_Name_kw (ld_glob I hg hm ?_ hdb)
  refine PySem.W.callWith_K (h₀ := X.base) I.ok.mod.kin hk (thn (ha.run pos pins s σ H _ I h) fun us s1 ⟨vs, H1, I1, r, q⟩ => ⟨I1.kIn, ?_⟩) he hpl
  exact run_fnG F hgd hr hb hd hx I1 r q
/-- o.m(k = v, ..) -/
noncomputable def tMethN (C : Addr) (m : Str) (n j : Nat) (sp : Sp) (gV : List V → List V → List V) (E : XK) (ta : TE) (t tk : TA) : TE := fun σ H Q => ta σ H fun x H1 => ∃ a dx fs, x = .ref a ∧ H1 a = some (.ins C dx fs) ∧ fs.lookup m = none ∧
  t σ H1 fun vs H2 => tk σ H2 fun zs H3 => vs.length = n ∧ zs.length = j ∧ sp (gV (x :: vs) zs) H3 Q E
end

/-! ### repr of data; repr of an own instance; {x} of data -/
mutual
theorem dp_nodict {K : PySem.W.Frag} {H : Hp} : ∀ {d : PyData} {v : V}, Dp K H v d → d.hasDict = false
  | .none, _, _ => by simp [PyData.hasDict]
  | .bool _, _, _ => by simp [PyData.hasDict]
  | .int _, _, _ => by simp [PyData.hasDict]
  | .str _, _, _ => by simp [PyData.hasDict]
  | .list ds, _, h => by
    cases h with
    | lst _ ha => simpa [PyData.hasDict] using dp_nodictAll ha
  | .tuple ds, _, h => by
    cases h with
    | tup _ ha => simpa [PyData.hasDict] using dp_nodictAll ha
  | .dict _, _, h => by cases h
theorem dp_nodictAll {K : PySem.W.Frag} {H : Hp} : ∀ {ds : List PyData} {vs : List V}, DpAll K H vs ds → PyData.hasDictAll ds = false
  | [], _, _ => by simp [PyData.hasDictAll]
  | d :: ds, _, h => by
    cases h with
    | cons h1 h2 => simp [PyData.hasDictAll, dp_nodict h1, dp_nodictAll h2]
end
noncomputable def rRepr (K : PySem.W.Frag) : List V → Hp → VK → Prop := fun xs H Q => ∃ (a : Addr) (d : PyData), xs = [.ref a] ∧ Dp K H (.ref a) d ∧ d.showable = true ∧ d.depth ≤ 60 ∧ d.shown.length ≤ sizeLine ∧ Q (.str d.shown) H
end G
end
section
set_option maxHeartbeats 2000000
namespace G
open PySem PySem.Spec PyProof.Rows L2
section
variable {X : Cx} {CX : CXT} {k : Nat} {f C : Addr} {fd : FuncData} {ps : List Str} {sp : Sp} {E : XK}
noncomputable def rReprO (C : Addr) (sp : Sp) (E : XK) : List V → Hp → VK → Prop := fun xs H Q => ∃ (a dx : Addr) (fs : List (Str × V)), xs = [.ref a] ∧ H a = some (.ins C dx fs) ∧ sp [.ref a] H (fun v H' => (∃ y, v = .str y) ∧ Q v H') E

/-- {x} of data, as a text -/
noncomputable def tFmtD (K : PySem.W.Frag) (te : TE) : TE := fun σ H Q => te σ H fun x H1 => ∃ (a : Addr) (d : PyData), x = .ref a ∧ Dp K H1 (.ref a) d ∧ d.showable = true ∧ d.depth ≤ 60 ∧ d.shown.length ≤ sizeLine ∧ Q (.str d.shown) H1
end
end G
end
section
set_option maxHeartbeats 2000000
namespace G
open PySem PySem.Spec PyProof.Rows L2

/-! ### list(enumerate(xs)) -/
noncomputable def enObj (f0 f1 : Value) (it : Addr) (i : Int) (old : Value) : Obj := { cls := .type "enumerate", dict := none, data := .fields #[f0, f1, .ref it, rawInt i, .none, old], slots := #[] }
noncomputable def IsEn (h : Heap) (e it : Addr) (i : Int) : Prop := ∃ f0 f1 old, h.get? e = some (enObj f0 f1 it i old) ∧ (f0 = .none ∨ ∃ a : Addr, f0 = rawInt a)
section
variable {prog : Program} {w : World} {A : Around} {E : Value → Shared → Prop} {s : Shared}


end
end G
end
section
set_option maxHeartbeats 2000000
namespace G
open PySem PySem.Spec PyProof.Rows L2
namespace F
end F
section
variable {prog : Program} {w : World} {A : Around} {E : Value → Shared → Prop} {s : Shared} {R : Result → Shared → Prop}

/-- the tuples made so far -/
noncomputable def Tups (h : Heap) (acc items : Array Value) (n B : Nat) : Prop := acc.size = n ∧ ∀ j, j < n → ∃ (T : Addr) (tk : Tok) (x : Value), acc[j]? = some (.ref T) ∧ items[j]? = some x ∧ B ≤ T ∧ h.get? T = some { cls := .type "tuple", data := .seq #[.int j tk, x] }


end
end G
end
section
set_option maxHeartbeats 2000000
namespace G
open PySem PySem.Spec PyProof.Rows L2
section
variable {prog : Program} {w : World} {A : Around} {E : Value → Shared → Prop} {s : Shared}
end

open Classical in
/-- what is new: the list at S, a pair for each item -/
noncomputable def enH (H : Hp) (S : Addr) (acc : List Addr) (xs : List V) : Hp := fun b =>
  if b = S then some (.lst (acc.map V.ref)) else if h : ∃ (j : Nat) (x : V), acc[j]? = some b ∧ xs[j]? = some x then some (.tup [.int ((Classical.choose h : Nat) : Int), Classical.choose (Classical.choose_spec h)]) else H b

section
variable {X : Cx}
noncomputable def tListEn (K : PySem.W.Frag) (te : TE) : TE := fun σ H Q => te σ H fun x H1 => ∃ (a : Addr) (xs : List V), x = .ref a ∧ SqL K H1 a xs ∧
  ∀ (l : Addr) (ts : List Addr) (H2 : Hp), H1 l = none → Evl.Ex H1 H2 → H2 l = some (.lst (ts.map V.ref)) → ts.length = xs.length → (∀ (j : Nat) (T : Addr) (x : V), ts[j]? = some T → xs[j]? = some x → H2 T = some (.tup [.int (j : Int), x])) → Q (.ref l) H2
end
end G
end
section
set_option maxHeartbeats 2000000
namespace G
open PySem L2 Evl

/-! ### data at any depth -/
mutual
theorem dp_mono {K : PySem.W.Frag} {H H' : Hp} (e : Ex H H') : ∀ {d : PyData} {v : V}, Dp K H v d → Dp K H' v d
  | .none, _, h => by cases h; exact .non
  | .bool _, _, h => by cases h; exact .bl _
  | .int _, _, h => by cases h; exact .int _
  | .str _, _, h => by cases h; exact .str _
  | .list ds, _, h => by
    cases h with
    | lst hs ha => exact .lst (ex_l e hs) (dp_monoAll e ha)
  | .tuple ds, _, h => by
    cases h with
    | tup hs ha => exact .tup (ex_t e hs) (dp_monoAll e ha)
  | .dict _, _, h => by cases h
theorem dp_monoAll {K : PySem.W.Frag} {H H' : Hp} (e : Ex H H') : ∀ {ds : List PyData} {vs : List V}, DpAll K H vs ds → DpAll K H' vs ds
  | [], _, h => by cases h; exact .nil
  | d :: ds, _, h => by
    cases h with
    | cons h1 h2 => exact .cons (dp_mono e h1) (dp_monoAll e h2)
end
noncomputable def dInts (ns : List Int) : PyData := .list (ns.map PyData.int)
theorem dpAll_ints {K : PySem.W.Frag} {H : Hp} : ∀ (ns : List Int), DpAll K H (ns.map V.int) (ns.map PyData.int)
  | [] => .nil
  | n :: ns => .cons (.int n) (dpAll_ints ns)
theorem dp_ints {K : PySem.W.Frag} {H : Hp} {a : Addr} {ns : List Int} (h : SqL K H a (ns.map V.int)) : Dp K H (.ref a) (dInts ns) := .lst h (dpAll_ints ns)
theorem dp_len {K : PySem.W.Frag} {H : Hp} : ∀ {ds : List PyData} {vs : List V}, DpAll K H vs ds → vs.length = ds.length
  | _, _, .nil => rfl
  | _, _, .cons _ h => by simp [dp_len h]

/-! ### what evaluates to data -/
variable {K : PySem.W.Frag} {σ : L2.St} {H H' : Hp} {ta tb te tx : TE} {tt : TT} {x y z v : V} {d : PyData} {ds : List PyData} {p C dx : Addr} {fs : List (Str × V)} {f m : Str} {sp : Sp} {dvs vs : List V} {E : XK} {tA tr tk : TA}
noncomputable def EvD (K : PySem.W.Frag) (te : TE) (σ : L2.St) (H : Hp) (d : PyData) : Prop := ∀ H1, Ex H H1 → ∀ Q : VK, (∀ v H2, Ex H1 H2 → Dp K H2 v d → Q v H2) → te σ H1 Q
noncomputable def EvAD (K : PySem.W.Frag) (ta : TA) (σ : L2.St) (H : Hp) (ds : List PyData) : Prop := ∀ H1, Ex H H1 → ∀ Q : List V → Hp → Prop, (∀ vs H2, Ex H1 H2 → DpAll K H2 vs ds → Q vs H2) → ta σ H1 Q
theorem evd_v (h : Ev te σ H v) (hd : ∀ H1, Ex H H1 → Dp K H1 v d) : EvD K te σ H d := fun H1 e Q q => h H1 e Q fun H2 e2 => q v H2 e2 (hd H2 (e.trans e2))
theorem evd_ref (h : Ev te σ H v) (hd : Dp K H v d) : EvD K te σ H d := evd_v h fun _ e => dp_mono e hd
theorem evad_nil : EvAD K tNil σ H [] := fun H1 _ _ q => q [] H1 (Ex.refl H1) .nil
theorem evd_lst (h : EvAD K tA σ H ds) (hl : ds.length ≤ 100000) : EvD K (tLst tA) σ H (.list ds) := fun H1 e Q q =>
  h H1 e _ fun vs H2 e2 hv => ⟨sz_of (by rw [dp_len hv]; exact hl), fun p hp => q _ _ (e2.trans (Ex.new hp)) (.lst (sq_of upd_same) (dp_monoAll (Ex.new hp) hv))⟩
theorem evd_tup (h : EvAD K tA σ H ds) (hl : ds.length ≤ 100000) : EvD K (tTup tA) σ H (.tuple ds) := fun H1 e Q q =>
  h H1 e _ fun vs H2 e2 hv => ⟨sz_of (by rw [dp_len hv]; exact hl), fun p hp => q _ _ (e2.trans (Ex.new hp)) (.tup (st_of upd_same) (dp_monoAll (Ex.new hp) hv))⟩
theorem dp_app {Hx : Hp} : ∀ {as bs : List V} {cs es : List PyData}, DpAll K Hx as cs → DpAll K Hx bs es → DpAll K Hx (as ++ bs) (cs ++ es)
  | _, _, _, _, .nil, h2 => h2
  | _, _, _, _, .cons q1 q2, h2 => .cons q1 (dp_app q2 h2)
theorem dp_repl {Hx : Hp} {as : List V} {cs : List PyData} (h : DpAll K Hx as cs) : ∀ k : Nat, DpAll K Hx (List.replicate k as).flatten (List.replicate k cs).flatten
  | 0 => .nil
  | k + 1 => by
    rw [List.replicate_succ, List.replicate_succ, List.flatten_cons, List.flatten_cons]
    exact dp_app h (dp_repl h k)

/-! ### fields, methods, properties -/
noncomputable def SpD (K : PySem.W.Frag) (sp : Sp) (vs : List V) (H : Hp) (d : PyData) : Prop := ∀ H1, Ex H H1 → ∀ Q : VK, (∀ v H2, Ex H1 H2 → Dp K H2 v d → Q v H2) → ∀ E : XK, sp vs H1 Q E

variable {D : Ends} {tu tw tz : TS}
end G
end
section
set_option maxHeartbeats 2000000
namespace G
open PySem L2 Evl
variable {K : PySem.W.Frag} {σ : L2.St} {H H' : Hp} {ta tb te tx : TE} {tt : TT} {x y z v : V} {p C dx : Addr} {tA tr tk : TA}

/-! ### calls of built-ins, by their answers -/
theorem rc_len {n : Nat} {ys : List V} (h : SqL K H p ys ∨ SqT K H p ys) (hn : ys.length = n) : RC (fun xs H Q => ∃ p ys, xs = [.ref p] ∧ (SqL K H p ys ∨ SqT K H p ys) ∧ Q (.int (ys.length : Int)) H) [.ref p] H (.int (n : Int)) := fun H1 e Q q =>
  ⟨p, ys, rfl, h.imp (ex_l e) (ex_t e), by rw [hn]; exact q H1 (Ex.refl _)⟩
theorem rc_abs {i : Int} : RC (fun xs H Q => ∃ i, xs = [.int i] ∧ Q (.int (if i < 0 then -i else i)) H) [.int i] H (.int (if i < 0 then -i else i)) := fun H1 e Q q => ⟨i, rfl, q H1 (Ex.refl _)⟩
theorem rc_max2 {i j : Int} : RC (fun xs H Q => ∃ i j, xs = [.int i, .int j] ∧ Q (.int (if j > i then j else i)) H) [.int i, .int j] H (.int (if j > i then j else i)) := fun H1 e Q q => ⟨i, j, rfl, q H1 (Ex.refl _)⟩
theorem rc_min2 {i j : Int} : RC (fun xs H Q => ∃ i j, xs = [.int i, .int j] ∧ Q (.int (if j < i then j else i)) H) [.int i, .int j] H (.int (if j < i then j else i)) := fun H1 e Q q => ⟨i, j, rfl, q H1 (Ex.refl _)⟩
theorem rc_int1 {i : Int} : RC (fun xs H Q => (∃ i, xs = [.int i] ∧ Q (.int i) H) ∨ ∃ k, xs = [.bl k] ∧ Q (.int (if k then 1 else 0)) H) [.int i] H (.int i) := fun H1 e Q q => .inl ⟨i, rfl, q H1 (Ex.refl _)⟩
theorem rc_sum {ns : List Int} (h : SqL K H p (ns.map V.int)) : RC (rSum K) [.ref p] H (.int ns.sum) := fun H1 e Q q => ⟨p, ns, rfl, ex_l e h, q H1 (Ex.refl _)⟩
theorem rc_all {bs : List Bool} (h : SqL K H p (bs.map V.bl)) : RC (rAll K) [.ref p] H (.bl (bs.all id)) := fun H1 e Q q => ⟨p, bs, rfl, ex_l e h, q H1 (Ex.refl _)⟩
theorem rc_isi {c : V} {t u : Value} {b : Bool} (k : ClsV c u) (ty : ∀ H1, Ex H H1 → TyX K H1 x t) (hb : PySem.W.kitOne K t u = some b) : RC (rIsi K) [x, c] H (.bl b) := fun H1 e Q q => ⟨x, c, t, u, b, rfl, k, ty H1 e, hb, q H1 (Ex.refl _)⟩
/-- a built-in asked of a list that is new -/
theorem ev_cbL {r : List V → Hp → VK → Prop} {xs : List V} (h : EvL ta σ H xs) (hr : ∀ p H1, Ex H H1 → H1 p = some (.lst xs) → RC r [.ref p] H1 z) : Ev (tCB r (tCons ta tNil)) σ H z := fun H1 e Q q =>
  h H1 e _ fun p H2 _ e2 h2 => hr p H2 (e.trans e2) h2 H2 (Ex.refl _) Q fun H3 e3 => q H3 (e2.trans e3)

theorem q_par {D : Ends} {tz : TS} {i j : Nat} {v w : V} (h : EvA tA σ H [v, w]) (k : ∀ H1, Ex H H1 → tz D ((σ.set i (some v)).set j (some w)) H1) : tSeq (tPar i j tA) tz D σ H := h H (Ex.refl H) _ fun H1 e => ⟨v, w, rfl, k H1 e⟩
theorem ev_allT {n : Nat} (h : EvL te σ H (given n (fun _ => true) (fun _ => V.bl true))) : Ev (tCB (rAll K) (tCons te tNil)) σ H (.bl true) := ev_cbL h fun p H1 e h1 => by
  have e1 : given n (fun _ => true) (fun _ => V.bl true) = (List.replicate n true).map V.bl := by
    unfold given
    rw [List.filter_eq_self.mpr (fun _ _ => rfl)]
    apply List.ext_getElem <;> simp
  have := rc_all (K := K) (H := H1) (p := p) (bs := List.replicate n true) (sq_of (by rw [← e1]; exact h1))
  have e2 : (List.replicate n true).all id = true := by simp
  rw [e2] at this
  exact this
theorem el_lcT {a : Addr} {xs : List V} {tl : TE} {j : Nat} {vs : List Nat} (f : Nat → Bool) (v : Nat → V) (h : Ev tl σ H (.ref a)) (hx : SqT K H a xs) (hz : xs.length ≤ 40000) (hw : ∀ x, wipe ((wipe σ vs).set j (some x)) vs = wipe σ vs)
    (ht : ∀ (i : Nat) (x : V) H1, Ex H H1 → xs[i]? = some x → EvT tt ((wipe σ vs).set j (some x)) H1 (f i)) (he : ∀ (i : Nat) (x : V) H1, Ex H H1 → xs[i]? = some x → f i = true → Ev te ((wipe σ vs).set j (some x)) H1 (v i)) :
    EvL (tLc (iTup K tl) (gName j) tt te vs) σ H (given xs.length f v) := fun H0 e Q q => h H0 e _ fun H1 e1 => ⟨a, rfl, ⟨xs, ex_t (e.trans e1) hx⟩, fun Dl hD =>
  lc_tup (xs := xs) (Cw H1 f v Dl) ⟨hD, Ex.new hD, upd_same⟩ (fun i H' _ p => ex_t ((e.trans e1).trans p.2.1) hx) (fun i x H' hi p => ⟨hw x, cw_turn p (by have := (List.getElem?_eq_some_iff.mp hi).1; omega) (ht i x H1 (e.trans e1) hi) (fun hf => he i x H1 (e.trans e1) hi hf)⟩)
    (fun H' p => q Dl H' (fresh_back e1 p.1) (e1.trans p.2.1) p.2.2)⟩
theorem lc_yes : EvT tYes σ H true := fun H1 _ _ q => q H1 (Ex.refl _)
section
variable {X : Cx} {e : Expr} {f : Str} {pos : Pos}
theorem ixL (hK : X.K = K) : IxR X (rIxL K) := hK ▸ ix_list
theorem ixT (hK : X.K = K) : IxR X (rIxT K) := hK ▸ ix_tup
theorem lenS (hK : X.K = K) : CallR X (.builtin "len") (fun xs H Q => ∃ p ys, xs = [.ref p] ∧ (SqL K H p ys ∨ SqT K H p ys) ∧ Q (.int (ys.length : Int)) H) := hK ▸ call_len_seq
theorem neD (hK : X.K = K) (hu : X.A.units + 64 < cLine) : OpR X (compareOp .NotEq) (rNeD K) := hK ▸ op_neD hu
theorem sumL (hK : X.K = K) (hc : X.calm = true) : CallR X (.builtin "sum") (rSum K) := hK ▸ cr_sum hc
theorem allL (hK : X.K = K) (hc : X.calm = true) : CallR X (.builtin "all") (rAll K) := hK ▸ cr_all hc
end
theorem eu_divmod {i j : Int} (ha : Ev ta σ H (.int i)) (hb : Ev tb σ H (.int j)) (h0 : 0 < j) (h1 : j < 1073741824) :
    EvU (tCB (fun xs H Q => ∃ i j, xs = [.int i, .int j] ∧ CDiv i j ∧ ∀ p, H p = none → Q (.ref p) (upd H p (.tup [.int (i / j), .int (i % j)]))) (tCons ta (tCons tb tNil))) σ H [.int (i / j), .int (i % j)] := fun H1 e Q q =>
  ha H1 e _ fun H2 e2 => hb H2 (e.trans e2) _ fun H3 e3 => ⟨i, j, rfl, ⟨h0, h1⟩, fun p hp => q p _ (fresh_back (e2.trans e3) hp) ((e2.trans e3).trans (Ex.new hp)) upd_same⟩
theorem q_asgG {D : Ends} {tz : TS} {g : TG} {xs : List V} (h : EvU te σ H xs) (k : ∀ p H1, H p = none → Ex H H1 → H1 p = some (.tup xs) → g (.ref p) σ H1 fun σ' H' => tz D σ' H') : tSeq (tAsg te g) tz D σ H := h H (Ex.refl H) _ fun p H1 hp e h1 => k p H1 hp e h1
/-! ### comprehensions whose target is a pair -/
section
variable {D : Ends} {f : Nat → Bool} {g : Nat → V} {i j : Nat} {vs : List Nat}
/-- what evaluates to a new list of new pairs (number, item) -/
noncomputable def EvR (te : TE) (σ : L2.St) (H : Hp) (xs : List V) : Prop := ∀ H1, Ex H H1 → ∀ Q : VK, (∀ (l : Addr) (ts : List Addr) (H2 : Hp), H1 l = none → Ex H1 H2 → H2 l = some (.lst (ts.map V.ref)) → ts.length = xs.length → (∀ (j : Nat) (T : Addr) (x : V), ts[j]? = some T → xs[j]? = some x → H2 T = some (.tup [.int (j : Int), x])) → Q (.ref l) H2) → te σ H1 Q
noncomputable def SpR (sp : Sp) (vs : List V) (H : Hp) (xs : List V) : Prop := ∀ H1, Ex H H1 → ∀ Q : VK, (∀ (l : Addr) (ts : List Addr) (H2 : Hp), H1 l = none → Ex H1 H2 → H2 l = some (.lst (ts.map V.ref)) → ts.length = xs.length → (∀ (j : Nat) (T : Addr) (x : V), ts[j]? = some T → xs[j]? = some x → H2 T = some (.tup [.int (j : Int), x])) → Q (.ref l) H2) → ∀ E : XK, sp vs H1 Q E
end
end G
end
section
set_option maxHeartbeats 2000000
namespace G
open PySem L2 Evl
/-! ### lists and tuples of pairs of numbers -/
noncomputable abbrev Row := Int × Int
noncomputable def rowV (r : Row) : List V := [.int r.1, .int r.2]
noncomputable def RowsAt (H : Hp) (ts : List Addr) (rs : List Row) : Prop := ts.length = rs.length ∧ ∀ (j : Nat) (T : Addr) (r : Row), ts[j]? = some T → rs[j]? = some r → H T = some (.tup (rowV r))
noncomputable def RowsL (H : Hp) (a : Addr) (rs : List Row) : Prop := ∃ ts : List Addr, H a = some (.lst (ts.map V.ref)) ∧ RowsAt H ts rs
noncomputable def RowsU (H : Hp) (a : Addr) (rs : List Row) : Prop := ∃ ts : List Addr, H a = some (.tup (ts.map V.ref)) ∧ RowsAt H ts rs
variable {K : PySem.W.Frag} {σ : L2.St} {H H' : Hp} {ta tb te tl tx : TE} {tt : TT} {x y z v w : V} {p a q C dx : Addr} {tA tr tk : TA} {ts us : List Addr} {rs ss : List Row} {vs : List Nat} {i j : Nat} {Q : VK} {D : Ends} {tz : TS}
theorem given_rows {f : Row → V} : given rs.length (fun _ => true) (fun k => f (rs.getD k (0, 0))) = rs.map f := by
  unfold given
  rw [List.filter_eq_self.mpr (fun _ _ => rfl)]
  apply List.ext_getElem
  · simp
  · intro k h1 h2
    have hk : k < rs.length := by simpa using h2
    simp [List.getD_eq_getElem?_getD, List.getElem?_eq_getElem hk]

/-! ### what evaluates to a new list of pairs -/
noncomputable def EvP (te : TE) (σ : L2.St) (H : Hp) (rs : List Row) : Prop := ∀ H1, Ex H H1 → ∀ Q : VK, (∀ p H2, H1 p = none → Ex H1 H2 → RowsL H2 p rs → Q (.ref p) H2) → te σ H1 Q
noncomputable def SpP (sp : Sp) (vs : List V) (H : Hp) (rs : List Row) : Prop := ∀ H1, Ex H H1 → ∀ Q : VK, (∀ p H2, H1 p = none → Ex H1 H2 → RowsL H2 p rs → Q (.ref p) H2) → ∀ E : XK, sp vs H1 Q E
/-- tuple(rows) -/
noncomputable def EvPU (te : TE) (σ : L2.St) (H : Hp) (rs : List Row) : Prop := ∀ H1, Ex H H1 → ∀ Q : VK, (∀ p H2, H1 p = none → Ex H1 H2 → RowsU H2 p rs → Q (.ref p) H2) → te σ H1 Q
end G
end
section
set_option maxHeartbeats 2000000
namespace G
open PySem PySem.Spec PyProof.Rows L2 Evl
/-! ### == and != of two instances by the text's own == -/
section
variable {prog : Program} {w : World} {A : Around} {Er : Value → Shared → Prop} {s : Shared} {K : PySem.W.Frag} {x C f : Addr} {ox : Obj} {od : Option Obj} {b : Value}
end
section
variable {X : Cx} {CX : CXT} {k : Nat} {f C : Addr} {fd : FuncData} {ps : List Str} {sp : Sp} {E : XK}
/-- x == y, x != y of two instances of the class at C, by its own == -/
noncomputable def rEqO (C : Addr) (sp : Sp) (E : XK) : R2 := fun x y H Q => ∃ a b dx dy fs gs, x = .ref a ∧ y = .ref b ∧ H a = some (.ins C dx fs) ∧ H b = some (.ins C dy gs) ∧ sp [.ref a, .ref b] H (fun v H' => (∃ c, v = .bl c) ∧ Q v H') E
noncomputable def rNeO (C : Addr) (sp : Sp) (E : XK) : R2 := fun x y H Q => ∃ a b dx dy fs gs, x = .ref a ∧ y = .ref b ∧ H a = some (.ins C dx fs) ∧ H b = some (.ins C dy gs) ∧ sp [.ref a, .ref b] H (fun v H' => ∃ c, v = .bl c ∧ Q (.bl (!c)) H') E
end
end G
end
section
set_option maxHeartbeats 2000000
namespace G
open PySem PySem.Spec PyProof.Rows L2 Evl
section
variable {X : Cx} {CX : CXT} {k j : Nat} {f : Addr} {fd : FuncData} {ps ks : List Str} {sp : Sp} {E : XK} {x : Str} {p pos : Pos} {kws : List Keyword} {tk : TA} {g : List Value → List Value → List Value} {gV : List V → List V → List V}
/-- f(k = v, ..) -/
noncomputable def tCallN0 (j : Nat) (sp : Sp) (gV : List V → List V → List V) (E : XK) (tk : TA) : TE := fun σ H Q => tk σ H fun zs H1 => zs.length = j ∧ sp (gV [] zs) H1 Q E
theorem pe_callN0 (F : FnOk X.prog X.w X.K X.mg X.base CX k f fd ps sp) (hr : Room k X.A) (hg : Gl X x) (hm : X.mg x = some (.ref f)) (hk : PySem.W.keepIn X.K (.ref f) = true) (hb : KBn X.K fd ps 0 ks g gV) (hx : Passes CX X E) (hkw : PK X kws tk)
    (hall : (backToKw pos (keywordEach kws X.env)).all (·.1.isSome) = true := by rfl) (hks : (backToKw pos (keywordEach kws X.env)).filterMap (·.1) = ks := by rfl) (hdb : (x == ("__debug__" : Str)) = false := by decide)
    (hpl : ((backTo pos (starEach [] X.env)).any (·.1) || (backToKw pos (keywordEach kws X.env)).any (·.1.isNone)) = false := by rfl) : PE X (.Call (.Name x p) [] kws pos) (tCallN0 ks.length sp gV E tk) := by
  refine ⟨fun pins s σ H Q I h => wpAny_Call_Name_kw (ld_glob I hg hm ?_ hdb)⟩
  refine PySem.W.callWith_KW0 (first := []) (h₀ := X.base) I.ok.mod.kin hk hall ?_ hpl
  refine thn (hkw.run pos pins s σ H _ I h) fun ws s1 ⟨zs, H1, I1, rz, l1, q1⟩ => ⟨I1.kIn, ?_⟩
  rw [hks]
  exact run_fnN (us := []) (vs := []) F hr hb hx I1 .nil rz rfl l1 q1
end
section
variable {X : Cx} {K : PySem.W.Frag} {tg e : Expr} {te : TE}
theorem piL (hK : X.K = K) (h : PE X e te) : PI X tg e (iList K te) := hK ▸ pi_list h
theorem piT (hK : X.K = K) (h : PE X e te) : PI X tg e (iTup K te) := hK ▸ pi_tup h
end
/-- lcm(a, b) -/
noncomputable def rLcm : List V → Hp → VK → Prop := fun vs H Q => ∃ a b : Int, vs = [.int a, .int b] ∧ a.natAbs < 18446744073709551616 ∧ b.natAbs < 18446744073709551616 ∧ Q (.int ((Nat.lcm a.natAbs b.natAbs : Nat) : Int)) H
variable {K : PySem.W.Frag} {σ : L2.St} {H H' : Hp} {ta tb te tl tx tc : TE} {tt : TT} {x y z v w : V} {p a q C dx : Addr} {tA tr tk : TA} {rs ss : List Row} {vs : List Nat} {i j : Nat} {Q : VK} {E : XK} {D : Ends} {tz : TS} {d : PyData} {ds : List PyData} {sp : Sp} {ws zs : List V} {gV : List V → List V → List V} {xs : List V}
theorem ev_callN0 {n : Nat} (h : EvA tk σ H zs) (hn : zs.length = n) (hs : SpV sp (gV [] zs) H z) : Ev (tCallN0 n sp gV E tk) σ H z := fun H1 e Q q => h H1 e _ fun H2 e2 => ⟨hn, hs H2 (e.trans e2) Q (fun H3 e3 => q H3 (e2.trans e3)) E⟩
/-! ### a new instance, as a value -/
/-- what evaluates to an instance of the class at C of which M tells -/
noncomputable def EvM (te : TE) (σ : L2.St) (H : Hp) (M : Hp → Addr → Prop) : Prop := ∀ H1, Ex H H1 → ∀ Q : VK, (∀ p H2, H1 p = none → Ex H1 H2 → M H2 p → Q (.ref p) H2) → te σ H1 Q
noncomputable def SpM (sp : Sp) (vs : List V) (H : Hp) (M : Hp → Addr → Prop) : Prop := ∀ H1, Ex H H1 → ∀ Q : VK, (∀ p H2, H1 p = none → Ex H1 H2 → M H2 p → Q (.ref p) H2) → ∀ E : XK, sp vs H1 Q E
/-! ### data, once more -/
noncomputable def dRow (r : Row) : PyData := .tuple [.int r.1, .int r.2]
noncomputable def dRows (rs : List Row) : PyData := .list (rs.map dRow)
theorem evd_neD {d e : PyData} (ha : EvD K ta σ H d) (hb : EvD K tb σ H e) (h1 : SeqAt.shaped d = true) (h2 : SeqAt.shaped e = true) : Ev (tOp (rNeD K) ta tb) σ H (.bl (!PyData.eqv d e)) := fun H1 e1 Q q =>
  ha H1 e1 _ fun v H2 e2 hv => hb H2 (e1.trans e2) _ fun u H3 e3 hu => ⟨_, _, dp_mono e3 hv, hu, h1, h2, q H3 (e2.trans e3)⟩
end G
end
section
set_option maxHeartbeats 4000000
/-! own errors over any built-in one -/
namespace G
open PySem PySem.W PySem.Calls PyProof.Rows PySem.HandSPX PySem.OEX
section
open Builtin Builtin.ObjectAttr
structure Tail (tl : List Value) : Prop where
  pass : ∀ self, refuseLoop self "__setattr__" tl = pure ()
  ne : tl.isEmpty = false
  ob : tl.contains (.type "object") = true
noncomputable def Over (tl bm : List Value) : Prop := ∃ cs : List Addr, bm = cs.map Value.ref ++ tl
variable {prog : Program} {w : World} {A : Around} {R : Result → Shared → Prop} {hp : Heap} {g : Array GenState} {d : Drawn} {t : Nat} {os : OsState} {K : Frag} {name : Str} {tk : Tok} {v : Value} {x C dx : Addr} {fv : Array Value} {cd : ClassData} {m0 : Str → Option Value} {nl : List Str} {tl : List Value} {od : Option Addr} {oo : Option Obj}
end
end G
namespace G
open PySem PySem.Spec PyProof.Rows L2 Evl
/-- an own error's class, over the built-in error B -/
structure Own (K : PySem.W.Frag) (B newId initId : String) (tl : List Value) (C : Addr) : Prop where
  base : ExcBaseFacts B newId initId tl
  tail : Tail tl
  cls : ∃ nm q N bs bm sn sub ab col dd k0 k1 k2 k3 k5, K.lookup C = some (excClassObj nm q C N bs bm true sn sub ab col dd k0 k1 k2 k3 k5 newId) ∧ Over tl bm
  sa : PySem.W.findIn K (.ref C) "__setattr__" = some (some (.builtin "object.__setattr__"))
  exC : PySem.W.subIn K (.ref C) (.type "BaseException") = some true
  tyC : PySem.W.typeIn K (.ref C) = some (.type "type")
  kC : PySem.W.keepIn K (.ref C) = true
section
variable {X : Cx} {pins : List (Addr × Obj)} {σ : L2.St} {H : Hp} {s : Shared} {a C dx : Addr} {f : Str} {y : V} {u : Value} {fs : List (Str × V)} {Q : Unit → Shared → Prop} {Er : Value → Shared → Prop} {A : Around} {B newId initId : String} {tl : List Value}
end
/-- self.f = e in an own error's __init__ -/
noncomputable def tOwn (K : PySem.W.Frag) (f : Str) (to te : TE) : TS := fun D σ H => te σ H fun y H1 => to σ H1 fun x H2 => ∃ (a C : Addr) (B newId initId : String) (tl : List Value), x = .ref a ∧ Own K B newId initId tl C ∧ PySem.W.findIn K (.ref C) f = some none ∧
  ((H2 a = some (exo a C none) ∧ ∀ dx, H2 dx = none → dx ≠ a → D.nx σ (upd (upd H2 dx (exd dx [(f, y)])) a (exo a C (some dx)))) ∨
    ∃ (dx : Addr) (fs : List (Str × V)), H2 a = some (exo a C (some dx)) ∧ H2 dx = some (exd dx fs) ∧ fs.length ≤ 900 ∧ D.nx σ (upd H2 dx (exd dx ((f, y) :: fs))))
section
variable {X : Cx} {o e : Expr} {es : List Expr} {to te : TE} {ta : TA} {f : Str} {p p' pos : Pos} {B newId initId : String} {tl : List Value}
end
end G
end
section
set_option maxHeartbeats 2000000
namespace G
open PySem PySem.Spec PyProof.Rows L2 Evl
/-! ### ranges that have a name -/
noncomputable def iRgV (te : TE) : TI := fun σ H R => te σ H fun x H1 => ∃ (p : Addr) (j : Int), x = .ref p ∧ H1 p = some (.rng 0 j) ∧ -(2 ^ 62) ≤ j ∧ j < 2 ^ 62 ∧ R (Itr 0 j.toNat) H1
variable {K : PySem.W.Frag} {σ : L2.St} {H : Hp} {tl te ta : TE} {p : Addr} {n : Nat} {j i : Nat} {vs : List Nat} {D : Ends} {tz : TS} {tA : TA} {z0 : Int}
/-! ### calls of a def that a name holds -/
section
variable {X : Cx} {CX : CXT} {k : Nat} {sp : Sp} {E : L2.St → XK} {pos : Pos} {fe e : Expr} {es : List Expr} {tf : TE} {t : TA}
noncomputable def tCallV (S : Addr → Prop) (sp : Sp) (E : L2.St → XK) (tf : TE) (t : TA) : TE := fun σ H Q => tf σ H fun x H1 => ∃ f, x = .ref f ∧ S f ∧ t σ H1 fun vs H2 => sp vs H2 Q (E σ)
end
end G
end
section
set_option maxHeartbeats 2000000
namespace G
open PySem L2 Evl
/-! ### data that stand apart from what else changes: B the heap whose data may be shared, H1 the heap ahead -/
noncomputable def Sep (B H1 H2 : Hp) : Hp := fun b => if H1 b = none ∨ (B b).isSome = true then H2 b else none
section
variable {B B' H H' H1 H2 H3 : Hp} {b : Addr} {o : HO}
end
variable {K : PySem.W.Frag} {σ : L2.St} {B H H' : Hp} {ta tb te tx tl : TE} {tt : TT} {x y z v : V} {d d' : PyData} {ds es : List PyData} {p C dx a : Addr} {fs : List (Str × V)} {f m : Str} {sp : Sp} {dvs vs xs : List V} {E : XK} {tA tr tk : TA} {js : List Nat} {j i : Nat} {D : Ends} {tz : TS}
/-- what evaluates to data, B the heap whose data may be shared (a part of H) -/
noncomputable def EvN (K : PySem.W.Frag) (B : Hp) (te : TE) (σ : L2.St) (H : Hp) (d : PyData) : Prop := ∀ H1, Ex H H1 → ∀ Q : VK, (∀ v H2, Ex H1 H2 → Dp K (Sep B H1 H2) v d → Q v H2) → te σ H1 Q
noncomputable def EvAN (K : PySem.W.Frag) (B : Hp) (ta : TA) (σ : L2.St) (H : Hp) (ds : List PyData) : Prop := ∀ H1, Ex H H1 → ∀ Q : List V → Hp → Prop, (∀ vs H2, Ex H1 H2 → DpAll K (Sep B H1 H2) vs ds → Q vs H2) → ta σ H1 Q
/-- the promise's end: data -/
noncomputable def RetN (K : PySem.W.Frag) (B : Hp) (d : PyData) (H : Hp) (Q : VK) : Prop := ∀ v H2, Ex H H2 → Dp K (Sep B H H2) v d → Q v H2
noncomputable def SpN (K : PySem.W.Frag) (B : Hp) (sp : Sp) (vs : List V) (H : Hp) (d : PyData) : Prop := ∀ H1, Ex H H1 → ∀ Q : VK, RetN K B d H1 Q → ∀ E : XK, sp vs H1 Q E
/-- a def that is given data: its promise holds for whatever heap the data stand in -/
noncomputable def SpF (K : PySem.W.Frag) (sp : Sp) (ds : List PyData) (d : PyData) : Prop := ∀ (B H : Hp) (vs : List V), Ex B H → DpAll K B vs ds → ∀ Q : VK, RetN K B d H Q → ∀ E : XK, sp vs H Q E
end G
end
section
set_option maxHeartbeats 2000000
/-! list.extend of a tuple, t[::-1] of a tuple -/
namespace SX
open PySem PySem.Spec PyProof.Rows L2
open AutoSeq1 (wpAny_loadPart' idx_int)
open MeetsSeq MeetsSeq2 MeetsSeq3 SeqRoads2
set_option maxRecDepth 8000 in
theorem extend_tup (l : Addr) (items : Array Value) (n : Nat) (b : Addr) (items2 : Array Value) (n2 : Nat) (dd : Option Addr) (sl : Array (Option Value)) (hs0 : ¬(!items.isEmpty && Builtin.List.listTooLong (items.size + items2.size)) = true) (hs1 : items.size ≤ sizeLine) (hs2 : items.size + items2.size ≤ sizeLine + 1) :
    Meets (Builtin.«list.extend» ⟨[.ref l, .ref b], []⟩) (fun _ R s => s.heap.get? l = some { cls := .type "list", dict := none, data := .seq items n, slots := #[] } ∧ s.heap.get? b = some { cls := .type "tuple", dict := dd, data := .seq items2 n2, slots := sl } ∧ R (.ok (.ret Value.none)) { s with heap := s.heap.update l (Obj.mapSeq fun x => x ++ items2), toks := s.toks }) :=
  .of_wp fun prog w A R s h => by
    obtain ⟨hp, g, d, tk, os⟩ := s; obtain ⟨hl, hb, h⟩ := h; have f1 := idx_int; have f2 := AutoSeq1.sub_tuple_tuple; have f3 := AutoSeq1.sub_list_list; have f4 := AutoSeq1.sub_tuple_list; have f5 := AutoSeq1.sub_list_tuple;
    have hz' : (items ++ items2).size ≤ sizeLine + 1 := by rw [Array.size_append]; exact hs2
    wp_walk using (wpAny_updateSeq hl rfl (hz := hs1) (_hz' := hz')), wpAny_loadPart' hl, wpAny_loadPart' hb; exact ⟨_, rfl, h⟩
noncomputable def rExtT (K : PySem.W.Frag) : V → List V → Hp → VK → Prop := fun x vs H Q => ∃ l b xs zs, x = .ref l ∧ vs = [.ref b] ∧ H l = some (.lst xs) ∧ SqT K H b zs ∧ xs.length + zs.length ≤ sizeLine ∧ Q .non (upd H l (.lst (xs ++ zs)))
theorem mt_extT {X : Cx} {K : PySem.W.Frag} (hK : X.K = K) : MtR X "list.extend" (rExtT K) := by
  subst hK
  intro pins s σ H x vs v us Q I rx rv h
  obtain ⟨l, b, xs, zs, rfl, rfl, hH, hB, hz, q⟩ := h
  cases rx
  obtain ⟨u, rfl, ru⟩ := rv.one
  cases ru
  obtain ⟨z, its, n, r, hl, e⟩ := I.lstM hH
  obtain ⟨its2, r2, pl, hz2⟩ := I.tuple hB
  obtain ⟨⟨cls, dd, dt, sl⟩, e2, hc, n2, hd⟩ := pl
  simp only at hc hd
  subst hc
  subst hd
  have hl2 := r2.length
  have hsz : its.toArray.size + its2.toArray.size ≤ sizeLine := by rw [List.size_toArray, List.size_toArray]; omega
  have hlong : ¬ (!its.toArray.isEmpty && Builtin.List.listTooLong (its.toArray.size + its2.toArray.size)) = true := by
    rw [notLongL hsz, Bool.and_false]
    exact Bool.false_ne_true
  refine call_meets PySem.F.slot_list_extend ⟨_, e, rfl⟩ PySem.F.entry_list_extend (PySem.F.args_list_extend_2 _ _)
    (extend_tup l its.toArray n b its2.toArray n2 dd sl hlong (by rw [List.size_toArray]; omega) (by omega)) ⟨e, e2, ?_⟩
  refine ⟨.non, _, I.lset (its' := its ++ its2) hH e (by simp) (r.append r2) ?_, rfl, q⟩
  rw [List.length_append]
  omega
theorem adjust_rev (n : Nat) : Builtin.Slice.sliceAdjust none none (-1) (n : Int) = ((n : Int) - 1, -1) := by
  unfold Builtin.Slice.sliceAdjust
  rfl
theorem places_rev (n : Nat) : Builtin.Slice.slicePlaces ((n : Int) - 1) (-1) (-1) = n := by
  unfold Builtin.Slice.slicePlaces
  rw [if_neg (by decide)]
  split
  · have : ((n : Int) - 1 - -1 - 1) / (- -1) + 1 = (n : Int) := by
      rw [show (- -1 : Int) = 1 from rfl, Int.ediv_one]
      omega
    rw [this]
    exact Int.toNat_natCast n
  · show (0 : Int).toNat = n
    omega
theorem pick_rev (xs : Array Value) : ((List.range xs.size).filterMap fun (k : Nat) => xs[((xs.size : Int) - 1 + (k : Int) * (-1)).toNat]?).toArray = xs.toList.reverse.toArray := by
  congr 1
  apply List.ext_getElem?
  intro i
  have e : (List.range xs.size).filterMap (fun (k : Nat) => xs[((xs.size : Int) - 1 + (k : Int) * (-1)).toNat]?) = (List.range xs.size).filterMap (fun (k : Nat) => xs.toList.reverse[k]?) := by
    have key : ∀ l : List Nat, (∀ k ∈ l, k < xs.size) → l.filterMap (fun (k : Nat) => xs[((xs.size : Int) - 1 + (k : Int) * (-1)).toNat]?) = l.filterMap (fun (k : Nat) => xs.toList.reverse[k]?) := by
      intro l
      induction l with
      | nil => intro _; rfl
      | cons k l ih =>
        intro h
        rw [List.filterMap_cons, List.filterMap_cons, ih fun j hj => h j (List.mem_cons_of_mem _ hj)]
        have hk' : k < xs.size := h k List.mem_cons_self
        have e1 : xs[((xs.size : Int) - 1 + (k : Int) * (-1)).toNat]? = xs.toList.reverse[k]? := by
          rw [List.getElem?_reverse (by rw [Array.length_toList]; exact hk'), Array.length_toList, Array.getElem?_toList]
          congr 1
          omega
        rw [e1]
    exact key _ fun k hk => List.mem_range.mp hk
  rw [e]
  have e2 : xs.size = xs.toList.reverse.length := by rw [List.length_reverse, Array.length_toList]
  rw [e2]
  generalize xs.toList.reverse = l
  congr 1
  induction l with
  | nil => rfl
  | cons y l ih =>
    rw [List.length_cons, List.range_succ_eq_map, List.filterMap_cons]
    show y :: _ = _
    rw [List.filterMap_map]
    exact congrArg _ ih
section
variable {prog : Program} {w : World} {A : Around} {E : Value → Shared → Prop} {s : Shared}
theorem getItem_tuple_rev {t sl : Addr} {items : Array Value} {tk : Tok} {Q : Value → Shared → Prop} (ht : IsTup s.heap t items) (hs : s.heap.IsSliceOf sl .none .none (.int (-1) tk))
    (h : Q (.ref s.heap.objs.size) { s with heap := s.heap.push { cls := .type "tuple", data := .seq items.toList.reverse.toArray } }) (hsz : items.size ≤ sizeLine) : wpAny (model prog w) A (getItem (.ref t) (.ref sl)) Q E s := by
  have htake : sizeOk (.seq items.toList.reverse.toArray) := by
    show items.toList.reverse.toArray.size ≤ sizeLine
    rw [List.size_toArray, List.length_reverse, Array.length_toList]
    exact hsz
  obtain ⟨os, hos, hcs, hds⟩ := id hs
  have hTs : s.TypeIs (.ref sl) "slice" := ⟨os, hos, hcs⟩
  unfold getItem
  try with_reducible refine wpAny_holding ?_
  first | refine wpAny_bind (wpAny_pure ?_) | skip
  refine wpAny_bind (wpAny_sequenceKey ht.typeIs (by decide) ?_)
  refine wpAny_bind (wpAny_callSpecial?_slot (name := Str.ofString "__getitem__") ht.typeIs PyProof.Rows.slot_tuple_getitem
    (wpAny_call_entry PyProof.Rows.slot_tuple_getitem ht.typeIs entry_tuple_getitem ?_ (args_tuple_getitem _ _)))
  show wpAny _ _ (Builtin.Tuple.tupleItemsOf (.ref t) >>= _) _ _ s
  refine wpAny_bind (tupleItemsOf_ ht ?_)
  refine wpAny_bind (wpAny_typeOf hTs ?_)
  rw [if_pos (by decide)]
  refine wpAny_bind ?_
  unfold Builtin.Slice.sliceApplied Builtin.Slice.sliceFields
  refine wpAny_bind (wpAny_bind (wpAny_field hos hds (x := .none) rfl (wpAny_bind (wpAny_field hos hds (x := .none) rfl (wpAny_bind (wpAny_field hos hds (x := .int (-1) tk) rfl (wpAny_pure ?_)))))))
  refine wpAny_bind (slicePart_int ?_)
  show wpAny _ _ (if ((-1 : Int) == 0) = true then _ else _) _ _ s
  rw [if_neg (by decide)]
  refine wpAny_bind (slicePart_none (wpAny_bind (slicePart_none (wpAny_bind (wpAny_pure ?_)))))
  show wpAny _ _ (match Builtin.Slice.sliceAdjust none none (-1) (items.size : Int) with | (lo, hi) => pure (lo, (-1 : Int), Builtin.Slice.slicePlaces lo hi (-1))) _ _ s
  rw [adjust_rev]
  show wpAny _ _ (pure (((items.size : Int) - 1), (-1 : Int), Builtin.Slice.slicePlaces ((items.size : Int) - 1) (-1) (-1))) _ _ s
  rw [places_rev]
  refine wpAny_pure ?_
  have hno : ¬ ((((items.size : Int) - 1) == 0 && (-1 : Int) == 1 && items.size == items.size) = true) := by
    intro q
    rw [Bool.and_eq_true, Bool.and_eq_true] at q
    exact absurd q.1.2 (by decide)
  show wpAny _ _ (if (((items.size : Int) - 1) == 0 && (-1 : Int) == 1 && items.size == items.size) = true then _ else _) _ _ s
  rw [if_neg hno, pick_rev]
  first
    | exact wpAny_bind (m := Builtin.Tuple.tupleExact _) (wpAny_newObj_type (wpAny_pure ⟨_, rfl, wpAny_pure h⟩) htake)
    | exact wpAny_bind (m := Builtin.Tuple.tupleExact _) (wpAny_newObj_type (wpAny_bind (wpAny_pure (wpAny_pure ⟨_, rfl, wpAny_pure h⟩))) htake)
    | exact wpAny_bind (wpAny_bind (m := Builtin.Tuple.tupleExact _) (wpAny_newObj_type (wpAny_pure (wpAny_pure ⟨_, rfl, wpAny_pure h⟩)) htake))
    | exact wpAny_bind (wpAny_bind (m := Builtin.Tuple.tupleExact _) (wpAny_newObj_type (wpAny_pure ⟨_, rfl, wpAny_pure h⟩) htake))
end
noncomputable def tRevT (K : PySem.W.Frag) (te : TE) : TE := fun σ H Q => te σ H fun x H1 => ∃ a xs, x = .ref a ∧ SqT K H1 a xs ∧ ∀ p, H1 p = none → Q (.ref p) (upd H1 p (.tup xs.reverse))
theorem pe_revT {X : Cx} {K : PySem.W.Frag} (hK : X.K = K) {e : Expr} {te : TE} {k : Nat} {p1 p2 p3 pos : Pos} (he : PE X e te) : PE X (.Subscript e (.Slice none none (some (.UnaryOp .USub (.Constant (.int 1) k p1) p2)) p3) pos) (tRevT K te) := by
  subst hK
  refine ⟨fun pins s σ H Q I h => ?_⟩
  refine Subscript_ (thn (he.run pins s σ H _ I h) fun v s1 ⟨x, H1, I1, r1, q1⟩ => ?_)
  obtain ⟨a, xs, ex, hx, q⟩ := q1
  subst ex
  cases r1
  have hst : PO X (some (.UnaryOp .USub (.Constant (.int 1) k p1) p2)) (tPart (tUn (rU fun i => .int (-i)) (tC (.int 1)))) := po_some (pe_un un_neg pe_int)
  refine wpAny_Slice (thn (po_none.run pins s1 σ H1 (fun o H2 => o = none ∧ H2 = H1) I1 ⟨rfl, rfl⟩) fun vl s2 ⟨l, H2, I2, pl, el, e2⟩ => ?_)
  subst el e2
  refine thn (po_none.run pins s2 σ H2 (fun o H3 => o = none ∧ H3 = H2) I2 ⟨rfl, rfl⟩) fun vu s3 ⟨u, H3, I3, pu, eu, e3⟩ => ?_
  subst eu e3
  refine thn (hst.run pins s3 σ H3 (fun o H4 => o = some (-1) ∧ H4 = H3) I3 ⟨1, rfl, -1, rfl, rfl, rfl⟩) fun vs s4 ⟨o, H4, I4, ps, eo, e4⟩ => ?_
  subst eo e4
  cases pl
  cases pu
  obtain ⟨tk, rfl⟩ : ∃ tk, vs = Value.int (-1) tk := by cases ps; exact ⟨_, rfl⟩
  have I5 : L2.Inv X pins σ H4 { s4 with heap := s4.heap.push { cls := .type "slice", data := .fields #[.none, .none, .int (-1) tk] } } := I4.kept (t' := s4.toks) fun b ob q => Heap.get?_push_of_some _ q
  obtain ⟨its, r, ht, hz⟩ := I5.tuple hx
  have hlen := r.length
  show wpAny (model X.prog X.w) X.A (subscriptTail e (.Slice none none (some (.UnaryOp .USub (.Constant (.int 1) k p1) p2)) p3) (.ref a) (.ref s4.heap.objs.size)) (EP X pins σ Q) X.xe { s4 with heap := s4.heap.push { cls := .type "slice", data := .fields #[.none, .none, .int (-1) tk] } }
  refine tail_any (ops := [.ref a, .ref s4.heap.objs.size]) ht.typeIs (PyProof.Rows.slot_tuple_getitem.lookup) ?_ (by with_unfolding_all rfl)
  refine getItem_tuple_rev ht (Heap.IsSliceOf.new _ .none .none (.int (-1) tk)) ?_ (by rw [List.size_toArray]; omega)
  refine ⟨.ref _, _, I5.laid (t' := s4.toks) (o := .tup xs.reverse) (fun b ob q => Heap.get?_push_of_some _ q) (Nat.le_refl _) ?_, rfl, q _ (I5.hok.fresh (Nat.le_refl _))⟩
  exact ⟨by rw [List.length_reverse]; exact hz, _, r.reverse, IsTup.new _ _⟩
end SX
end
section
namespace TM
/-! the mathematics of lists of days -/
noncomputable def onL (ns : List Int) (x : Int) : Int := ns.getD (x % (ns.length : Int)).toNat 0 + x / (ns.length : Int) * (ns.length : Int)
structure Good (ns : List Int) : Prop where
  pos : 1 ≤ ns.length
  most : ns.length ≤ 600
  up : ∀ i j : Nat, i ≤ j → j < ns.length → ns.getD i 0 ≤ ns.getD j 0
  span : ns.getD (ns.length - 1) 0 - ns.getD 0 0 ≤ (ns.length : Int)
section
variable {ns : List Int} (g : Good ns)
include g
end
/-- m is the first day with which y is served -/
noncomputable def IsBy (ns : List Int) (y m : Int) : Prop := y ≤ onL ns m ∧ onL ns (m - 1) < y
/-- so many of ns, from the left, are below d -/
noncomputable def IsCnt (ns : List Int) (d : Int) (c : Nat) : Prop := c ≤ ns.length ∧ (∀ i, i < c → ns.getD i 0 < d) ∧ ∀ i, c ≤ i → i < ns.length → d ≤ ns.getD i 0
open Classical in
noncomputable def byL (ns : List Int) (y : Int) : Int := if h : ∃ m, IsBy ns y m then Classical.choose h else 0
end TM
end
section
namespace TM
/-! the mathematics of rules through rows -/
noncomputable def IsMinL (l : List Int) (m : Int) : Prop := m ∈ l ∧ ∀ y, y ∈ l → m ≤ y
noncomputable def IsMaxL (l : List Int) (m : Int) : Prop := m ∈ l ∧ ∀ y, y ∈ l → y ≤ m
open Classical in
noncomputable def mxI (l : List Int) : Int := if h : ∃ m, IsMaxL l m then Classical.choose h else 0
open Classical in
noncomputable def mnI (l : List Int) : Int := if h : ∃ m, IsMinL l m then Classical.choose h else 0
noncomputable def early (L : Int) (r : Int × Int) (d : Int) : Int := r.2 + (d - r.1) / L * L
noncomputable def late (L : Int) (r : Int × Int) (d : Int) : Int := r.2 - (r.1 - d) / L * L
section
variable {L : Int} (hL : 0 < L)
include hL
omit hL in
omit hL in
omit hL in
end
noncomputable def earT (L : Int) (rs : List (Int × Int)) (d : Int) : Int := mxI (rs.map fun r => early L r d)
noncomputable def latT (L : Int) (rs : List (Int × Int)) (d : Int) : Int := mnI (rs.map fun r => late L r d)
section
variable {L : Int} {rs ss : List (Int × Int)} (h0 : rs ≠ [])
include h0
end
noncomputable def keptB (L : Int) (rs : List (Int × Int)) : Bool := rs.all fun r => rs.all fun o => decide (early L r o.1 ≤ o.2)
/-- the list of a rule's first days -/
noncomputable def listF (n : Nat) (f : Int → Int) : List Int := (List.range n).map fun (i : Nat) => f (i : Int)
section
variable {n : Nat} {f : Int → Int} (h1 : 1 ≤ n) (h2 : n ≤ 600) (hm : ∀ d e : Int, d ≤ e → f d ≤ f e) (hp : ∀ d : Int, f (d + (n : Int)) = f d + (n : Int))
include h1 h2 hm hp
omit h1 h2 hm in
end
/-- rows of a rule -/
noncomputable def Reads (ns : List Int) (rs : List (Int × Int)) : Prop := ∀ r, r ∈ rs → onL ns r.1 = r.2
noncomputable def endRows (ns : List Int) (first : Int) : List (Int × Int) := (List.range ns.length).map fun (i : Nat) => (first + (i : Int), onL ns (first + (i : Int)))
end TM
end
section
namespace TM
/-! the mathematics of two rules -/
noncomputable def Per (f : Int → Int) (n : Int) : Prop := ∀ x, f (x + n) = f x + n
noncomputable def Mono (f : Int → Int) : Prop := ∀ d e : Int, d ≤ e → f d ≤ f e
noncomputable def tilL (ns : List Int) (y : Int) : Int := byL ns (y + 1) - 1
/-- a rule told by a map with a period -/
structure Rule (n : Nat) (f : Int → Int) : Prop where
  pos : 1 ≤ n
  most : n ≤ 600
  mono : Mono f
  per : Per f (n : Int)
/-- the least length of a rule -/
structure Least (ns : List Int) (d : Nat) : Prop where
  pos : 1 ≤ d
  dvd : d ∣ ns.length
  per : Per (onL ns) (d : Int)
  min : ∀ e : Nat, 1 ≤ e → e ∣ ns.length → Per (onL ns) (e : Int) → d ≤ e
/-! behind, later, sooner and what is asked back -/
section
variable {ns ms : List Int} (g : Good ns) (k : Good ms) {L : Nat} (h1 : 1 ≤ L) (h2 : L ≤ 600) (hn : ns.length ∣ L) (hm : ms.length ∣ L)
include g k h1 h2 hn hm
end
end TM
end
section
set_option maxHeartbeats 2000000
namespace G
open PySem
mutual
noncomputable def bnd : PyData → Nat
  | .none => 4
  | .bool _ => 5
  | .int _ => 22
  | .str _ => 100000000
  | .list xs => bndAll xs + 2
  | .tuple xs => bndAll xs + 4
  | .dict _ => 100000000
noncomputable def bndAll : List PyData → Nat
  | [] => 0
  | x :: xs => bnd x + 2 + bndAll xs
end
mutual
noncomputable def smallD : PyData → Bool
  | .none => true
  | .bool _ => true
  | .int i => decide (i.natAbs < 10 ^ 20)
  | .str _ => false
  | .list xs => smallAll xs
  | .tuple xs => smallAll xs
  | .dict _ => false
noncomputable def smallAll : List PyData → Bool
  | [] => true
  | x :: xs => smallD x && smallAll xs
end
end G
end
section
set_option maxHeartbeats 2000000
namespace K20
open PySem L2
noncomputable def top (i : Nat) : Stmt := PySem.Challenge.pw_leadrules_k20_any_value_judged.main.body.getD i (.Pass ⟨0, 0, 0, 0⟩)
noncomputable abbrev s_is_day : Stmt := (top 1)
theorem sc_is_day : FnScope ["value"] ["value"] (defScope s_is_day) := ⟨rfl, rfl, rfl, by decide +kernel, rfl, by decide +kernel, by decide +kernel⟩
noncomputable abbrev s_is_rule : Stmt := (top 2)
theorem sc_is_rule : FnScope ["value"] ["value"] (defScope s_is_rule) := ⟨rfl, rfl, rfl, by decide +kernel, rfl, by decide +kernel, by decide +kernel⟩
noncomputable abbrev s_is_name : Stmt := (top 3)
theorem sc_is_name : FnScope ["value"] ["value"] (defScope s_is_name) := ⟨rfl, rfl, rfl, by decide +kernel, rfl, by decide +kernel, by decide +kernel⟩
noncomputable abbrev s_parts_of : Stmt := (top 5)
theorem sc_parts_of : FnScope ["told"] ["told"] (defScope s_parts_of) := ⟨rfl, rfl, rfl, by decide +kernel, rfl, by decide +kernel, by decide +kernel⟩
noncomputable abbrev s_all_pieces : Stmt := (top 6)
theorem sc_all_pieces : FnScope ["told", "found", "waiting", "piece"] ["told"] (defScope s_all_pieces) := ⟨rfl, rfl, rfl, by decide +kernel, rfl, by decide +kernel, by decide +kernel⟩
noncomputable abbrev s_is_formula : Stmt := (top 9)
theorem sc_is_formula : FnScope ["value", "waiting", "piece"] ["value"] (defScope s_is_formula) := ⟨rfl, rfl, rfl, by decide +kernel, rfl, by decide +kernel, by decide +kernel⟩
noncomputable abbrev s_is_chain : Stmt := (top 10)
theorem sc_is_chain : FnScope ["value", "piece"] ["value"] (defScope s_is_chain) := ⟨rfl, rfl, rfl, by decide +kernel, rfl, by decide +kernel, by decide +kernel⟩
noncomputable abbrev s__is_piece : Stmt := (top 11)
theorem sc__is_piece : FnScope ["value", "word"] ["value"] (defScope s__is_piece) := ⟨rfl, rfl, rfl, by decide +kernel, rfl, by decide +kernel, by decide +kernel⟩
noncomputable abbrev s_is_saying : Stmt := (top 14)
theorem sc_is_saying : FnScope ["value", "waiting", "saying"] ["value"] (defScope s_is_saying) := ⟨rfl, rfl, rfl, by decide +kernel, rfl, by decide +kernel, by decide +kernel⟩
noncomputable abbrev s__is_tuple_of_saying : Stmt := (top 15)
theorem sc__is_tuple_of_saying : FnScope ["value"] ["value"] (defScope s__is_tuple_of_saying) := ⟨rfl, rfl, rfl, by decide +kernel, rfl, by decide +kernel, by decide +kernel⟩
noncomputable abbrev s__law_pot : Stmt := (top 17)
theorem sc__law_pot : FnScope ["_law_script", "_law_k", "_law_cell"] ["_law_script", "_law_k"] (defScope s__law_pot) := ⟨rfl, rfl, rfl, by decide +kernel, rfl, by decide +kernel, by decide +kernel⟩
noncomputable abbrev s__law_draw : Stmt := (top 18)
theorem sc__law_draw : FnScope ["_law_pot_here", "_law_many", "_law_digit"] ["_law_pot_here", "_law_many"] (defScope s__law_draw) := ⟨rfl, rfl, rfl, by decide +kernel, rfl, by decide +kernel, by decide +kernel⟩
noncomputable abbrev s__law_pick : Stmt := (top 19)
theorem sc__law_pick : FnScope ["_law_pot_here", "_law_some_here"] ["_law_pot_here", "_law_some_here"] (defScope s__law_pick) := ⟨rfl, rfl, rfl, by decide +kernel, rfl, by decide +kernel, by decide +kernel⟩
noncomputable abbrev s__law_some : Stmt := (top 20)
theorem sc__law_some : FnScope ["_law_pot_here", "_law_letters", "_law_many", "_law_left", "_law_found", "_law_turn"] ["_law_pot_here", "_law_letters", "_law_many"] (defScope s__law_some) := ⟨rfl, rfl, rfl, by decide +kernel, rfl, by decide +kernel, by decide +kernel⟩
noncomputable abbrev s__law_number : Stmt := (top 21)
theorem sc__law_number : FnScope ["_law_pot_here"] ["_law_pot_here"] (defScope s__law_number) := ⟨rfl, rfl, rfl, by decide +kernel, rfl, by decide +kernel, by decide +kernel⟩
noncomputable abbrev s__law_formula : Stmt := (top 22)
theorem sc__law_formula : FnScope ["_law_pot_here", "_law_deep_here", "_law_names", "_law_rules", "_law_way", "_law_one"] ["_law_pot_here", "_law_deep_here", "_law_names", "_law_rules"] (defScope s__law_formula) := ⟨rfl, rfl, rfl, by decide +kernel, rfl, by decide +kernel, by decide +kernel⟩
noncomputable abbrev s__law_saying : Stmt := (top 23)
theorem sc__law_saying : FnScope ["_law_pot_here", "_law_deep_here", "_law_names", "_law_rules", "_law_way", "_law_one"] ["_law_pot_here", "_law_deep_here", "_law_names", "_law_rules"] (defScope s__law_saying) := ⟨rfl, rfl, rfl, by decide +kernel, rfl, by decide +kernel, by decide +kernel⟩
noncomputable abbrev s__law_odd : Stmt := (top 24)
theorem sc__law_odd : FnScope ["_law_pot_here", "_law_some_here"] ["_law_pot_here"] (defScope s__law_odd) := ⟨rfl, rfl, rfl, by decide +kernel, rfl, by decide +kernel, by decide +kernel⟩
noncomputable abbrev s__law_spoilt : Stmt := (top 25)
theorem sc__law_spoilt : FnScope ["_law_pot_here", "_law_told", "_law_places", "_law_place", "_law_way", "_law_words"] ["_law_pot_here", "_law_told"] (defScope s__law_spoilt) := ⟨rfl, rfl, rfl, by decide +kernel, rfl, by decide +kernel, by decide +kernel⟩
noncomputable abbrev s__law_is_letter : Stmt := (top 26)
theorem sc__law_is_letter : FnScope ["_law_value", "_law_letters"] ["_law_value", "_law_letters"] (defScope s__law_is_letter) := ⟨rfl, rfl, rfl, by decide +kernel, rfl, by decide +kernel, by decide +kernel⟩
noncomputable abbrev s__law_is_integer : Stmt := (top 27)
theorem sc__law_is_integer : FnScope ["_law_value"] ["_law_value"] (defScope s__law_is_integer) := ⟨rfl, rfl, rfl, by decide +kernel, rfl, by decide +kernel, by decide +kernel⟩
noncomputable abbrev s__law_is_formula : Stmt := (top 28)
theorem sc__law_is_formula : FnScope ["_law_value", "_law_word", "_law_many"] ["_law_value"] (defScope s__law_is_formula) := ⟨rfl, rfl, rfl, by decide +kernel, rfl, by decide +kernel, by decide +kernel⟩
noncomputable abbrev s__law_is_saying : Stmt := (top 29)
theorem sc__law_is_saying : FnScope ["_law_value", "_law_word", "_law_many"] ["_law_value"] (defScope s__law_is_saying) := ⟨rfl, rfl, rfl, by decide +kernel, rfl, by decide +kernel, by decide +kernel⟩
noncomputable abbrev s__law_is_single : Stmt := (top 30)
theorem sc__law_is_single : FnScope ["_law_formula_here"] ["_law_formula_here"] (defScope s__law_is_single) := ⟨rfl, rfl, rfl, by decide +kernel, rfl, by decide +kernel, by decide +kernel⟩
noncomputable abbrev s__law_is_chain : Stmt := (top 31)
theorem sc__law_is_chain : FnScope ["_law_value"] ["_law_value"] (defScope s__law_is_chain) := ⟨rfl, rfl, rfl, by decide +kernel, rfl, by decide +kernel, by decide +kernel⟩
noncomputable abbrev s__law_judged : Stmt := (top 32)
theorem sc__law_judged : FnScope ["_law_value", "_law_shown", "_law_due", "_law_turn", "_law_told", "_law_one"] ["_law_value"] (defScope s__law_judged) := ⟨rfl, rfl, rfl, by decide +kernel, rfl, by decide +kernel, by decide +kernel⟩
noncomputable abbrev s__law_wide : Stmt := (top 33)
theorem sc__law_wide : FnScope ["_law_many", "_law_leaf"] ["_law_many", "_law_leaf"] (defScope s__law_wide) := ⟨rfl, rfl, rfl, by decide +kernel, rfl, by decide +kernel, by decide +kernel⟩
noncomputable abbrev s__law_deep : Stmt := (top 34)
theorem sc__law_deep : FnScope ["_law_many", "_law_leaf", "_law_found", "_law_turn"] ["_law_many", "_law_leaf"] (defScope s__law_deep) := ⟨rfl, rfl, rfl, by decide +kernel, rfl, by decide +kernel, by decide +kernel⟩
noncomputable abbrev s__law_great_right : Stmt := (top 35)
theorem sc__law_great_right : FnScope ["_law_pot_here", "_law_leaf", "_law_wide_here", "_law_deep_here", "_law_value"] ["_law_pot_here", "_law_leaf"] (defScope s__law_great_right) := ⟨rfl, rfl, rfl, by decide +kernel, rfl, by decide +kernel, by decide +kernel⟩
noncomputable abbrev s__law_right : Stmt := (top 36)
theorem sc__law_right : FnScope ["_law_pot_here", "_law_names", "_law_rules", "_law_formula_here", "_law_saying_here", "_law_values", "_law_told", "_law_spoilt_here", "_law_value"] ["_law_pot_here"] (defScope s__law_right) := ⟨rfl, rfl, rfl, by decide +kernel, rfl, by decide +kernel, by decide +kernel⟩
noncomputable abbrev s_law : Stmt := (top 37)
theorem sc_law : FnScope ["_law_script", "_law_k"] ["_law_script"] (defScope s_law) := ⟨rfl, rfl, rfl, by decide +kernel, rfl, by decide +kernel, by decide +kernel⟩
end K20
end
section
set_option maxHeartbeats 4000000
namespace OQ
open PySem PySem.Spec PyProof.Rows L2 Evl G
/-! ### data with dicts of texts and numbers in it -/
noncomputable def kvV (kvs : List (Str × Int)) : List (Key × V) := kvs.map fun p => (Sum.inr p.1, V.int p.2)
noncomputable def kvD (kvs : List (Str × Int)) : List (PyData × PyData) := kvs.map fun p => (PyData.str p.1, PyData.int p.2)
mutual
/-- v is the data d; lists stand apart from the dict of modules -/
inductive Dq (H : Hp) : V → PyData → Prop
  | non : Dq H .non .none
  | bl (b : Bool) : Dq H (.bl b) (.bool b)
  | int (i : Int) : Dq H (.int i) (.int i)
  | str (x : Str) : Dq H (.str x) (.str x)
  | lst {a : Addr} {xs : List V} {ds : List PyData} : a ≠ sysModules → H a = some (.lst xs) → DqAll H xs ds → Dq H (.ref a) (.list ds)
  | tup {a : Addr} {xs : List V} {ds : List PyData} : H a = some (.tup xs) → DqAll H xs ds → Dq H (.ref a) (.tuple ds)
  | dct {a : Addr} (kvs : List (Str × Int)) : H a = some (.dK (kvV kvs)) → Dq H (.ref a) (.dict (kvD kvs))
inductive DqAll (H : Hp) : List V → List PyData → Prop
  | nil : DqAll H [] []
  | cons {v : V} {vs : List V} {d : PyData} {ds : List PyData} : Dq H v d → DqAll H vs ds → DqAll H (v :: vs) (d :: ds)
end
mutual
theorem dq_mono {H H' : Hp} (e : Ex H H') : ∀ (d : PyData) {v : V}, Dq H v d → Dq H' v d
  | .none, _, h => by cases h; exact .non
  | .bool _, _, h => by cases h; exact .bl _
  | .int _, _, h => by cases h; exact .int _
  | .str _, _, h => by cases h; exact .str _
  | .list ds, _, h => by cases h with | lst n a k => exact .lst n (e _ _ a) (dqAll_mono e ds k)
  | .tuple ds, _, h => by cases h with | tup a k => exact .tup (e _ _ a) (dqAll_mono e ds k)
  | .dict kvs, _, h => by
    generalize hd : PyData.dict kvs = d at h
    cases h with
    | dct kv a => exact .dct kv (e _ _ a)
    | _ => cases hd
theorem dqAll_mono {H H' : Hp} (e : Ex H H') : ∀ (ds : List PyData) {vs : List V}, DqAll H vs ds → DqAll H' vs ds
  | [], _, h => by cases h; exact .nil
  | d :: ds, _, h => by cases h with | cons a k => exact .cons (dq_mono e d a) (dqAll_mono e ds k)
end
theorem Dq.mono {H H' : Hp} {v : V} {d : PyData} (h : Dq H v d) (e : Ex H H') : Dq H' v d := dq_mono e d h
theorem DqAll.mono {H H' : Hp} {vs : List V} {ds : List PyData} (h : DqAll H vs ds) (e : Ex H H') : DqAll H' vs ds := dqAll_mono e ds h
theorem DqAll.len {H : Hp} {vs : List V} {ds : List PyData} (h : DqAll H vs ds) : vs.length = ds.length := by
  induction vs generalizing ds with
  | nil => cases h; rfl
  | cons v vs ih => cases h with | cons a k => simp [ih k]
theorem DqAll.app {H : Hp} {vs us : List V} {ds es : List PyData} (h : DqAll H vs ds) (k : DqAll H us es) : DqAll H (vs ++ us) (ds ++ es) := by
  induction vs generalizing ds with
  | nil => cases h; exact k
  | cons v vs ih => cases h with | cons a t => exact .cons a (ih t)
theorem DqAll.get {H : Hp} {vs : List V} {ds : List PyData} (h : DqAll H vs ds) {i : Nat} {v : V} (hv : vs[i]? = some v) : ∃ d, ds[i]? = some d ∧ Dq H v d := by
  induction vs generalizing ds i with
  | nil => cases hv
  | cons u vs ih =>
    cases h with
    | cons a t =>
      cases i with
      | zero => cases hv; exact ⟨_, rfl, a⟩
      | succ i => exact ih t hv
theorem DqAll.take {H : Hp} {vs : List V} {ds : List PyData} (h : DqAll H vs ds) (n : Nat) : DqAll H (vs.take n) (ds.take n) := by
  induction vs generalizing ds n with
  | nil => cases h; simp; exact .nil
  | cons v vs ih =>
    cases h with
    | cons a t =>
      cases n with
      | zero => exact .nil
      | succ n => exact .cons a (ih t n)
theorem DqAll.drop {H : Hp} {vs : List V} {ds : List PyData} (h : DqAll H vs ds) (n : Nat) : DqAll H (vs.drop n) (ds.drop n) := by
  induction vs generalizing ds n with
  | nil => cases h; simp; exact .nil
  | cons v vs ih =>
    cases h with
    | cons a t =>
      cases n with
      | zero => exact .cons a t
      | succ n => exact ih t n
section
variable {X : Cx} {pins : List (Addr × Obj)} {σ : L2.St} {H : Hp} {s : Shared}
theorem dict_reads {h : Heap} {w : World} {P : Program} : ∀ {es : List DictEntry} {kvs : List (Str × Int)} {ws : List (Key × Value)}, KV (kvV kvs) ws → Pairs (mixKind P w) es ws → ReadsAll h (es.map (·.key)) ((kvD kvs).map (·.1)) [] ∧ ReadsAll h (es.map (·.val)) ((kvD kvs).map (·.2)) []
  | [], [], _, _, _ => ⟨.nil, .nil⟩
  | [], _ :: _, _, r, p => by
    cases r with
    | cons a t => cases p
  | e :: es, [], _, r, p => by
    cases r
    cases p
  | e :: es, kv :: kvs, _, r, p => by
    cases r with
    | cons a t =>
      cases p with
      | cons hk hv tp =>
        obtain ⟨q1, q2⟩ := dict_reads (h := h) t tp
        obtain ⟨e1, t2, e2⟩ := a
        have hk' : keyIs (Sum.inr kv.1) e.key = true := by
          have e1' : (Sum.inr kv.1 : Key) = _ := e1
          rw [e1']
          exact hk
        obtain ⟨x, tk, ek, ev⟩ : ∃ x tk, (Sum.inr kv.1 : Key) = Sum.inr x ∧ e.key = Value.str x tk := by
          rcases keyIs_shape hk' with ⟨i, tk, z, _⟩ | ⟨x, tk, z, z2⟩
          · cases z
          · exact ⟨x, tk, z, z2⟩
        have hx : x = kv.1 := (Sum.inr.inj ek).symm
        subst hx
        refine ⟨?_, ?_⟩
        · show ReadsAll h (e.key :: es.map (·.key)) (PyData.str kv.1 :: (kvD kvs).map (·.1)) []
          rw [ev]
          exact .cons (as := []) (.str _ _) q1
        · show ReadsAll h (e.val :: es.map (·.val)) (PyData.int kv.2 :: (kvD kvs).map (·.2)) []
          rw [hv, e2]
          exact .cons (as := []) (.int _ _) q2
mutual
theorem Dq.reads (I : Inv X pins σ H s) : ∀ (d : PyData) (v : V) (u : Value), Dq H v d → RelV v u → ∃ as, Reads s.heap u d as ∧ sysModules ∉ as
  | .none, _, _, h, r => by cases h; cases r; exact ⟨_, Reads.none, by simp⟩
  | .bool b, _, _, h, r => by cases h; cases r; exact ⟨_, Reads.bool b, by simp⟩
  | .int i, _, _, h, r => by cases h; obtain ⟨t, rfl⟩ := r; exact ⟨_, Reads.int i t, by simp⟩
  | .str x, _, _, h, r => by cases h; obtain ⟨t, rfl⟩ := r; exact ⟨_, Reads.str x t, by simp⟩
  | .list ds, _, _, h, r => by
    cases h with
    | lst hn ha hk =>
      cases r
      obtain ⟨_, its, n, rv, ho⟩ := I.hok _ _ ha
      obtain ⟨as, hr, hs⟩ := DqAll.reads I ds _ its hk rv
      exact ⟨_, Reads.list ho rfl rfl (by simpa using hr), by simp; exact ⟨fun z => hn z.symm, hs⟩⟩
  | .tuple ds, _, _, h, r => by
    cases h with
    | tup ha hk =>
      cases r
      obtain ⟨its, rv, ⟨o, ho, hc, n, hd⟩, _⟩ := I.tuple (st_of ha : SqT X.K H _ _)
      obtain ⟨as, hr, hs⟩ := DqAll.reads I ds _ its hk rv
      exact ⟨_, Reads.tuple ho hc hd hr, hs⟩
  | .dict kvs, v, u, h, r => by
    generalize hd : PyData.dict kvs = d at h
    cases h with
    | dct kv a =>
      cases hd
      cases r
      obtain ⟨_, hn, vs, rel, o, es, ep, ho, ex, hd, _, hp, _⟩ := I.hok _ _ a
      obtain ⟨q1, q2⟩ := dict_reads (h := s.heap) rel hp
      exact ⟨_, Reads.dict ho ex.1 hd q1 q2, by simpa using fun z : sysModules = _ => by rw [← z] at hn; simp at hn⟩
    | _ => cases hd
theorem DqAll.reads (I : Inv X pins σ H s) : ∀ (ds : List PyData) (vs : List V) (us : List Value), DqAll H vs ds → Vals vs us → ∃ as, ReadsAll s.heap us ds as ∧ sysModules ∉ as
  | [], _, _, h, r => by cases h; cases r; exact ⟨_, ReadsAll.nil, by simp⟩
  | d :: ds, _, _, h, r => by
    cases h with
    | cons h1 h2 =>
      cases r with
      | cons r1 r2 =>
        obtain ⟨as, q1, n1⟩ := Dq.reads I d _ _ h1 r1
        obtain ⟨bs, q2, n2⟩ := DqAll.reads I ds _ _ h2 r2
        exact ⟨_, ReadsAll.cons q1 q2, by simp; exact ⟨n1, n2⟩⟩
end
end
/-! ### repr -/
noncomputable def rReprQ : List V → Hp → VK → Prop := fun xs H Q => ∃ (v : V) (d : PyData), xs = [v] ∧ Dq H v d ∧ d.showable = true ∧ d.depth ≤ 60 ∧ d.shown.length ≤ sizeLine ∧ Q (.str d.shown) H
theorem call_reprQ {X : Cx} (hgd : X.A.guards = some []) (hu : X.A.units + 64 < cLine) : CallR X (.builtin "repr") rReprQ := by
  intro pins s σ H xs us Q I r h
  obtain ⟨v, d, rfl, hd, hs, hdp, hz, q⟩ := h
  obtain ⟨u, rfl, ru⟩ := vals1 r
  have ref : ∀ a : Addr, v = .ref a → wpAny (model X.prog X.w) X.A (call (.builtin "repr") [u]) (fun w s' => ∃ y H', Inv X pins σ H' s' ∧ RelV y w ∧ Q y H') X.xe s := by
    rintro a rfl
    obtain rfl : u = Value.ref a := ru
    obtain ⟨as, hr, hn⟩ := Dq.reads I d _ _ hd rfl
    exact repr_of_reads' hr hs (fun _ => hn) hgd (by omega) (fun _ _ e => e) (fun h' u tk hk => ⟨.str d.shown, H, I.kept hk, ⟨_, rfl⟩, q⟩) hz
  cases v with
  | ref a => exact ref a rfl
  | non =>
    cases hd
    obtain rfl : u = Value.none := ru
    exact P.repr_of_none ⟨.str "None", H, I.tok _, ⟨_, rfl⟩, q⟩
  | bl b =>
    cases hd
    obtain rfl : u = Value.bool b := ru
    exact P.repr_of_bool ⟨.str (if b then "True" else "False"), H, I.tok _, ⟨_, rfl⟩, q⟩
  | int i =>
    cases hd
    obtain ⟨t, rfl⟩ := ru
    refine P.repr_of_int (of_decide_eq_true hs) ⟨.str (toString i), H, I.tok _, ⟨_, rfl⟩, q⟩
  | str x =>
    cases hd
    obtain ⟨t, rfl⟩ := ru
    exact P.repr_of_str ⟨.str (reprText x), H, I.tok _, ⟨_, rfl⟩, q⟩ hz
  | _ => cases hd
end OQ
end
section
set_option maxHeartbeats 4000000
namespace OQ
open PySem L2 Evl G
/-! ### what evaluates to data -/
/-- the dict of modules is known: so what is new stands apart from it -/
noncomputable def Sm (H : Hp) : Prop := ∃ o, H sysModules = some o
noncomputable def EvQ (te : TE) (σ : L2.St) (H : Hp) (d : PyData) : Prop := ∀ H1, Ex H H1 → ∀ Q : VK, (∀ v H2, Ex H1 H2 → Dq H2 v d → Q v H2) → te σ H1 Q
noncomputable def EvAQ (tA : TA) (σ : L2.St) (H : Hp) (ds : List PyData) : Prop := ∀ H1, Ex H H1 → ∀ Q : List V → Hp → Prop, (∀ vs H2, Ex H1 H2 → DqAll H2 vs ds → Q vs H2) → tA σ H1 Q
noncomputable def EvLq (te : TE) (σ : L2.St) (H : Hp) (ds : List PyData) : Prop := ∀ H1, Ex H H1 → ∀ Q : VK, (∀ p vs H2, H1 p = none → Ex H1 H2 → H2 p = some (.lst vs) → DqAll H2 vs ds → Q (.ref p) H2) → te σ H1 Q
noncomputable def RetQ (d : PyData) (H : Hp) (Q : VK) : Prop := ∀ v H2, Ex H H2 → Dq H2 v d → Q v H2
section
variable {K : PySem.W.Frag} {σ : L2.St} {H : Hp} {te ta tb : TE} {tA : TA} {v : V} {d : PyData} {ds es : List PyData} {D : Ends} {tz : TS} {i : Nat}
theorem eq_of (h : Ev te σ H v) (hd : ∀ H1, Ex H H1 → Dq H1 v d) : EvQ te σ H d := fun H1 e Q q => h H1 e Q fun H2 e2 => q v H2 e2 (hd H2 (e.trans e2))
theorem eq_ref (h : Ev te σ H v) (hd : Dq H v d) : EvQ te σ H d := eq_of h fun _ e => hd.mono e
theorem eq_str {x : Str} : EvQ (tC (.str x)) σ H (.str x) := eq_of ev_c fun _ _ => .str x
theorem aq_nil : EvAQ tNil σ H [] := fun H1 _ Q q => q [] H1 (Ex.refl _) .nil
theorem aq_cons (h : EvQ te σ H d) (t : EvAQ tA σ H ds) : EvAQ (tCons te tA) σ H (d :: ds) := fun H1 e Q q =>
  h H1 e _ fun v H2 e2 a => t H2 (e.trans e2) _ fun vs H3 e3 k => q (v :: vs) H3 (e2.trans e3) (.cons (a.mono e3) k)
theorem eq_tup (h : EvAQ tA σ H ds) (hl : ds.length ≤ 100000) : EvQ (tTup tA) σ H (.tuple ds) := fun H1 e Q q =>
  h H1 e _ fun vs H2 e2 k => ⟨sz_of (by rw [k.len]; exact hl), fun p hp => q _ _ (e2.trans (Ex.new hp)) (.tup upd_same (k.mono (Ex.new hp)))⟩
theorem lq_lst (h : EvAQ tA σ H ds) (hl : ds.length ≤ 100000) : EvLq (tLst tA) σ H ds := fun H1 e Q q =>
  h H1 e _ fun vs H2 e2 k => ⟨sz_of (by rw [k.len]; exact hl), fun p hp => q p vs _ (fresh_back e2 hp) (e2.trans (Ex.new hp)) upd_same (k.mono (Ex.new hp))⟩
end
/-- its type, for isinstance -/
noncomputable def tyD : PyData → String
  | .none => "NoneType"
  | .bool _ => "bool"
  | .int _ => "int"
  | .str _ => "str"
  | .list _ => "list"
  | .tuple _ => "tuple"
  | .dict _ => "dict"
theorem ty_of {K : PySem.W.Frag} {H : Hp} {v : V} {d : PyData} (h : Dq H v d) : TyOf K H v (.type (tyD d)) := by
  cases h with
  | non => exact .non
  | bl b => exact .bl b
  | int i => exact .int i
  | str x => exact .str x
  | lst _ a _ => exact .lst a
  | tup a _ => exact .tup a
  | dct _ a => exact .dK a
end OQ
end
section
set_option maxHeartbeats 4000000
namespace K20
open PySem L2 Evl G OQ
/-! ### which data is a formula, a saying, a chain -/
noncomputable def ruleS : List Str := ["a", "b", "c", "d", "e", "f", "g", "h"]
noncomputable def nameS : List Str := ["p", "q", "r", "s", "t", "u", "v", "w", "x", "y", "z"]
noncomputable def isRlD : PyData → Bool
  | .str x => decide (x ∈ ruleS)
  | _ => false
noncomputable def isNmD : PyData → Bool
  | .str x => decide (x ∈ nameS)
  | _ => false
noncomputable def isIntD : PyData → Bool
  | .int _ => true
  | _ => false
noncomputable def szW (w : Str) : Option Nat := if w ∈ (["day", "num"] : List Str) then some 2 else if w ∈ (["on", "by", "til", "add", "late", "soon"] : List Str) then some 3 else none
noncomputable def leafB (w : Str) (x : PyData) : Bool := if w = "day" then isNmD x else if w ∈ (["num", "add"] : List Str) then isIntD x else decide (w ∈ (["late", "soon"] : List Str)) || isRlD x
noncomputable def headF : List PyData → Bool
  | .str w :: x :: r => decide (szW w = some (r.length + 2)) && leafB w x
  | _ => false
noncomputable def skipF : List PyData → Nat
  | .str w :: _ => if w ∈ (["late", "soon"] : List Str) then 1 else 2
  | _ => 2
mutual
noncomputable def fOk : PyData → Bool
  | .tuple ds => headF ds && ((fOks ds).drop (skipF ds)).all id
  | _ => false
noncomputable def fOks : List PyData → List Bool
  | [] => []
  | d :: ds => fOk d :: fOks ds
end
theorem fOks_eq : ∀ ds : List PyData, fOks ds = ds.map fOk
  | [] => rfl
  | d :: ds => by rw [fOks, fOks_eq ds] <;> rfl
noncomputable def partsF (ds : List PyData) : List PyData := ds.drop (skipF ds)
theorem fOk_tup (ds : List PyData) : fOk (.tuple ds) = (headF ds && (partsF ds).all fOk) := by
  rw [fOk, fOks_eq, ← List.map_drop, List.all_map]
  rfl
noncomputable def szS (w : Str) : Option Nat := if w ∈ (["le", "and", "or"] : List Str) then some 3 else if w = "not" then some 2 else none
noncomputable def headS : List PyData → Bool
  | .str w :: r => decide (szS w = some (r.length + 1))
  | _ => false
noncomputable def isLe : List PyData → Bool
  | .str w :: _ => decide (w = "le")
  | _ => false
mutual
noncomputable def sOk : PyData → Bool
  | .tuple ds => headS ds && (if isLe ds then (ds.drop 1).all fOk else ((sOks ds).drop 1).all id)
  | _ => false
noncomputable def sOks : List PyData → List Bool
  | [] => []
  | d :: ds => sOk d :: sOks ds
end
theorem sOks_eq : ∀ ds : List PyData, sOks ds = ds.map sOk
  | [] => rfl
  | d :: ds => by rw [sOks, sOks_eq ds] <;> rfl
theorem sOk_tup (ds : List PyData) : sOk (.tuple ds) = (headS ds && (if isLe ds then (ds.drop 1).all fOk else (ds.drop 1).all sOk)) := by
  rw [sOk, sOks_eq, ← List.map_drop, List.all_map]
  rfl
noncomputable def isLS : List PyData → Bool
  | .str w :: _ => decide (w ∈ (["late", "soon"] : List Str))
  | _ => false
mutual
/-- neither late nor soon in it -/
noncomputable def sgl : PyData → Bool
  | .tuple ds => !isLS ds && ((sgls ds).drop (skipF ds)).all id
  | _ => true
noncomputable def sgls : List PyData → List Bool
  | [] => []
  | d :: ds => sgl d :: sgls ds
end
theorem sgls_eq : ∀ ds : List PyData, sgls ds = ds.map sgl
  | [] => rfl
  | d :: ds => by rw [sgls, sgls_eq ds] <;> rfl
theorem sgl_tup (ds : List PyData) : sgl (.tuple ds) = (!isLS ds && (partsF ds).all sgl) := by
  rw [sgl, sgls_eq, ← List.map_drop, List.all_map]
  rfl
noncomputable def cOk (d : PyData) : Bool := fOk d && sgl d
/-! ### sizes -/
mutual
noncomputable def nod : PyData → Nat
  | .list ds => nods ds + 1
  | .tuple ds => nods ds + 1
  | _ => 1
noncomputable def nods : List PyData → Nat
  | [] => 0
  | d :: ds => nod d + nods ds
end
theorem nod_pos : ∀ d : PyData, 1 ≤ nod d
  | .none | .bool _ | .int _ | .str _ | .dict _ => by simp [nod]
  | .list _ => by simp [nod]
  | .tuple _ => by simp [nod]
theorem nods_app : ∀ ds es : List PyData, nods (ds ++ es) = nods ds + nods es
  | [], es => by simp [nods]
  | d :: ds, es => by simp [nods, nods_app ds es]; omega
theorem nods_drop : ∀ (ds : List PyData) (n : Nat), nods (ds.drop n) ≤ nods ds
  | [], n => by simp [nods]
  | d :: ds, 0 => Nat.le_refl _
  | d :: ds, n + 1 => by have := nods_drop ds n; simp [nods]; omega
theorem nods_mem : ∀ {ds : List PyData} {d : PyData}, d ∈ ds → nod d ≤ nods ds
  | e :: ds, d, h => by
    rcases List.mem_cons.mp h with h | h
    · subst h; simp [nods]
    · have := nods_mem h; simp [nods]; omega
theorem nods_len : ∀ ds : List PyData, ds.length ≤ nods ds
  | [] => Nat.le_refl _
  | d :: ds => by have := nods_len ds; have := nod_pos d; simp [nods]; omega
/-! ### data that can be shown -/
noncomputable def txS : List Str := (["day", "num", "on", "by", "til", "add", "late", "soon", "le", "and", "or", "not", "up", "Day", "", "i", "o", "pq", "ab", "A", "X"] : List Str) ++ ruleS ++ nameS
noncomputable def dictS : List (PyData × PyData) → Bool
  | [] => true
  | [(.str k, .int i)] => decide (k ∈ txS) && decide (-100 ≤ i ∧ i ≤ 100)
  | _ => false
mutual
noncomputable def fine : PyData → Bool
  | .none => true
  | .bool _ => true
  | .int i => decide (-100 ≤ i ∧ i ≤ 100)
  | .str x => decide (x ∈ txS)
  | .list ds => fines ds
  | .tuple ds => fines ds
  | .dict kvs => dictS kvs
noncomputable def fines : List PyData → Bool
  | [] => true
  | d :: ds => fine d && fines ds
end
theorem fines_all : ∀ {ds : List PyData}, fines ds = ds.all fine
  | [] => rfl
  | d :: ds => by rw [fines, fines_all (ds := ds)] <;> rfl
theorem small_int (i : Int) (h : -100 ≤ i ∧ i ≤ 100) : (toString i : Str).length ≤ 5 ∧ i.natAbs.log2 < 1920 := by
  have k : ∀ n : Fin 201, (toString ((n.val : Int) - 100) : Str).length ≤ 5 ∧ ((n.val : Int) - 100).natAbs.log2 < 1920 := by decide +kernel
  have := k ⟨(i + 100).toNat, by omega⟩
  have e : (((i + 100).toNat : Nat) : Int) - 100 = i := by omega
  rw [e] at this
  exact this
theorem small_txt : ∀ x ∈ txS, (reprText x).length ≤ 10 := by decide +kernel
theorem textFrom_le : ∀ (ts : List Str) (k : Nat) (acc : Str), (textFrom k acc ts).length ≤ acc.length + piled ts
  | [], k, acc => by simp [textFrom, piled]
  | t :: ts, k, acc => by
    have := textFrom_le ts (k + 1) (acc ++ (if k > 0 then ", " else "" : String) ++ t)
    rw [piled_cons]
    show (textFrom (k + 1) (acc ++ (if k > 0 then ", " else "" : String) ++ t) ts).length ≤ _
    rw [strLen_append, strLen_append] at this
    have h2 : (Str.ofString (if k > 0 then ", " else "" : String)).length ≤ 2 := by split <;> decide
    omega
theorem listText_le (ts : List Str) : (listText ts).length ≤ piled ts + 2 := by
  unfold listText
  rw [strLen_append]
  have := textFrom_le ts 0 "["
  have h1 : (Str.ofString "[").length = 1 := by decide
  have h2 : (Str.ofString "]").length = 1 := by decide
  omega
theorem tupleText_le (ts : List Str) : (tupleText ts).length ≤ piled ts + 3 := by
  unfold tupleText
  rw [strLen_append, strLen_append]
  have h1 : (Str.ofString "(").length = 1 := by decide
  have h2 : (Str.ofString (if ts.length == 1 then ",)" else ")" : String)).length ≤ 2 := by split <;> decide
  have h3 : (Str.join ", " ts).length ≤ piled ts := by
    by_cases h : ts = []
    · subst h; decide
    · have := join_length_add ts h; omega
  omega
mutual
theorem shown_le : ∀ d : PyData, fine d = true → d.shown.length + 2 ≤ 30 * nod d ∧ d.showable = true
  | .none, _ => by
    constructor
    · show (Str.ofString "None").length + 2 ≤ 30 * nod .none; simp only [nod]; decide
    · simp [PyData.showable]
  | .bool b, _ => by
    constructor
    · show (if b then ("True" : Str) else "False").length + 2 ≤ 30 * nod (.bool b); simp only [nod]; cases b <;> decide
    · simp [PyData.showable]
  | .int i, h => by
    have h' : -100 ≤ i ∧ i ≤ 100 := of_decide_eq_true (by rw [← h]; simp [fine])
    obtain ⟨a, b⟩ := small_int i h'
    constructor
    · show (toString i : Str).length + 2 ≤ 30 * nod (.int i); simp only [nod]; omega
    · simp [PyData.showable, b]
  | .str x, h => by
    have h' : x ∈ txS := of_decide_eq_true (by rw [← h]; simp [fine])
    have := small_txt x h'
    constructor
    · show (reprText x).length + 2 ≤ 30 * nod (.str x); simp only [nod]; omega
    · simp [PyData.showable]
  | .list ds, h => by
    obtain ⟨a, b⟩ := shownAll_le ds (by rw [fine] at h; exact h)
    have := listText_le (PyData.shownAll ds)
    constructor
    · show (listText (PyData.shownAll ds)).length + 2 ≤ 30 * nod (.list ds); simp only [nod]; omega
    · simp [PyData.showable, b]
  | .tuple ds, h => by
    obtain ⟨a, b⟩ := shownAll_le ds (by rw [fine] at h; exact h)
    have := tupleText_le (PyData.shownAll ds)
    constructor
    · show (tupleText (PyData.shownAll ds)).length + 2 ≤ 30 * nod (.tuple ds); simp only [nod]; omega
    · simp [PyData.showable, b]
  | .dict kvs, h => by
    rw [fine] at h
    unfold dictS at h
    split at h
    · constructor
      · show (dictText (PyData.shownKv [])).length + 2 ≤ 30 * nod (.dict []); simp only [nod]; decide
      · simp [PyData.showable, PyData.showableKv]
    · rename_i k i
      simp only [Bool.and_eq_true, decide_eq_true_eq] at h
      obtain ⟨a, b⟩ := small_int i h.2
      have c := small_txt k h.1
      constructor
      · show (("{" : Str) ++ Str.join ", " [reprText k ++ ": " ++ (toString i : Str)] ++ "}").length + 2 ≤ 30 * nod (.dict [(.str k, .int i)])
        simp only [nod]
        have e : Str.join ", " [reprText k ++ ": " ++ (toString i : Str)] = reprText k ++ ": " ++ (toString i : Str) := rfl
        rw [e, strLen_append, strLen_append, strLen_append, strLen_append]
        have h1 : (Str.ofString "{").length = 1 := by decide
        have h2 : (Str.ofString "}").length = 1 := by decide
        have h3 : (Str.ofString ": ").length = 2 := by decide
        omega
      · simp [PyData.showable, PyData.showableKv, b]
    · cases h
theorem shownAll_le : ∀ ds : List PyData, fines ds = true → piled (PyData.shownAll ds) ≤ 30 * nods ds ∧ PyData.showableAll ds = true
  | [], _ => by simp [PyData.shownAll, piled, PyData.showableAll]
  | d :: ds, h => by
    rw [fines, Bool.and_eq_true] at h
    obtain ⟨a, b⟩ := shown_le d h.1
    obtain ⟨c, e⟩ := shownAll_le ds h.2
    constructor
    · rw [PyData.shownAll, piled_cons, nods]; omega
    · simp [PyData.showableAll, b, e]
end
end K20
end
section
set_option maxHeartbeats 2000000
/-! sets of texts: set(xs), sorted(set) -/
namespace SX
open PySem PySem.Spec PyProof.Rows L2
/-- a member as it stands in the set's table -/
noncomputable def Is (w : World) (k : Str) (e : Int × Value) : Prop := e.1 = hashStr w k ∧ ∃ t, e.2 = .str k t
noncomputable def nameOf (e : Int × Value) : Str := match e.2 with | .str k _ => k | _ => Str.empty
/-- the set at a: its members in the table's sequence -/
structure Txt (w : World) (h : Heap) (a : Addr) (L : List Str) (es : Array (Int × Value)) (ep : Nat) (t : SetTable) : Prop where
  ob : ∃ o, h.get? a = some o ∧ o.ExactSet ∧ o.data = .set es ep t
  is : ∀ e ∈ es.toList, Is w (nameOf e) e
  names : es.toList.map nameOf = L
  nd : L.Nodup
  few : L.length < 4000
  fits : t.fits es.size = true
  ris : Ris t.place.toList
  led : w.params.followText "set-order" = true ∨ t.led = true
section
variable {P : Program} {w : World} {A : Around} {E : Value → Shared → Prop} {s : Shared} {h h' : Heap} {a : Addr} {L : List Str} {es : Array (Int × Value)} {ep : Nat} {t : SetTable}
end
end SX
end
section
set_option maxHeartbeats 2000000
namespace SX
open PySem PySem.Spec PyProof.Rows L2
section
variable {P : Program} {w : World} {A : Around} {E : Value → Shared → Prop} {s : Shared}
/-- what a walk over the first i of xs has gathered -/
noncomputable def Got (xs : List Str) (i : Nat) (L : List Str) : Prop := (∀ k, k ∈ L ↔ k ∈ xs.take i) ∧ L.length ≤ i


end
end SX
end
section
set_option maxHeartbeats 2000000
namespace SX
open PySem PySem.Spec PyProof.Rows L2
section
variable {P : Program} {w : World} {A : Around} {E : Value → Shared → Prop} {s : Shared} {a : Addr} {L : List Str} {es : Array (Int × Value)} {ep : Nat} {t : SetTable}
end
/-- the set of texts at a, as an object -/
noncomputable def SetO (w : World) (a : Addr) (L : List Str) : HO := .ext fun h => ∃ L' es ep t, L'.Perm L ∧ Txt w h a L' es ep t
section
variable {X : Cx}
noncomputable def rSet (K : PySem.W.Frag) (w : World) : List V → Hp → VK → Prop := fun xs H Q => ∃ (l : Addr) (ks : List Str), xs = [V.ref l] ∧ SqL K H l (ks.map V.str) ∧ ks.length < 4000 ∧
  ∀ a L, H a = none → L.Nodup → (∀ k, k ∈ L ↔ k ∈ ks) → Q (.ref a) (upd H a (SetO w a L))
noncomputable def rSorted (w : World) : List V → Hp → VK → Prop := fun vs H Q => ∃ (a : Addr) (L : List Str), vs = [V.ref a] ∧ H a = some (SetO w a L) ∧ L.length < 64 ∧
  ∀ (ys : List Str) (p : Addr), ys.Perm L → sortedS ys = true → H p = none → Q (.ref p) (upd H p (.lst (ys.map V.str)))
/-- sorted(set(xs)) as one expression -/
noncomputable def tSortedSet (K : PySem.W.Frag) (w : World) (t : TA) : TE := tCB (rSorted w) fun σ H Q => tCB (rSet K w) t σ H fun v H1 => Q [v] H1
end
end SX
end
section
set_option maxHeartbeats 2000000
/-! what is told: formulas and sayings, nested tuples -/
namespace TD
open PySem L2 Evl G TM
/-- a leaf, a part behind a thing of its own, a not, two parts -/
inductive Td where
  | lf (w : Str) (v : V)
  | ov (w : Str) (v : V) (t : Td)
  | nt (t : Td)
  | bi (w : Str) (t u : Td)
noncomputable def word : Td → Str
  | .lf w _ => w
  | .ov w _ _ => w
  | .nt _ => "not"
  | .bi w _ _ => w
noncomputable def kids : Td → List Td
  | .lf _ _ => []
  | .ov _ _ t => [t]
  | .nt t => [t]
  | .bi _ t u => [t, u]
noncomputable def At (H : Hp) : V → Td → Prop
  | x, .lf w v => ∃ a, x = .ref a ∧ H a = some (.tup [.str w, v])
  | x, .ov w v t => ∃ a y, x = .ref a ∧ H a = some (.tup [.str w, v, y]) ∧ At H y t
  | x, .nt t => ∃ a y, x = .ref a ∧ H a = some (.tup [.str "not", y]) ∧ At H y t
  | x, .bi w t u => ∃ a y z, x = .ref a ∧ H a = some (.tup [.str w, y, z]) ∧ At H y t ∧ At H z u
/-- all tuples stay -/
noncomputable def Tu (H H' : Hp) : Prop := ∀ a xs, H a = some (.tup xs) → H' a = some (.tup xs)
noncomputable abbrev Ats (H : Hp) : List V → List Td → Prop := Paired (At H)
/-- a thing's tuple: its word, its own thing (if there is one), its parts -/
noncomputable def own : Td → List V
  | .lf _ v => [v]
  | .ov _ v _ => [v]
  | _ => []
/-! ### which are formulas, which are sayings -/
noncomputable def ruleL : List Str := ["a", "b", "c", "d", "e", "f", "g", "h"]
noncomputable def nameL : List Str := ["p", "q", "r", "s", "t", "u", "v", "w", "x", "y", "z"]
noncomputable def turnL : List Str := ["on", "by", "til"]
noncomputable def IsF : Td → Prop
  | .lf w v => (w = "day" ∧ ∃ n, n ∈ nameL ∧ v = .str n) ∨ (w = "num" ∧ ∃ i, v = .int i)
  | .ov w v t => ((w ∈ turnL ∧ ∃ r, r ∈ ruleL ∧ v = .str r) ∨ (w = "add" ∧ ∃ i, v = .int i)) ∧ IsF t
  | .nt _ => False
  | .bi w t u => (w = "late" ∨ w = "soon") ∧ IsF t ∧ IsF u
noncomputable def IsS : Td → Prop
  | .lf _ _ => False
  | .ov _ _ _ => False
  | .nt t => IsS t
  | .bi w t u => (w = "le" ∧ IsF t ∧ IsF u) ∨ ((w = "and" ∨ w = "or") ∧ IsS t ∧ IsS u)
/-- what parts_of may be asked of -/
noncomputable def Ok : Td → Prop
  | .lf w _ => w = "day" ∨ w = "num"
  | .ov w _ _ => w = "on" ∨ w = "by" ∨ w = "til" ∨ w = "add"
  | .nt _ => True
  | .bi w _ _ => w = "late" ∨ w = "soon" ∨ w = "le" ∨ w = "and" ∨ w = "or"
noncomputable def OkD : Td → Prop
  | .lf w v => Ok (.lf w v)
  | .ov w v t => Ok (.ov w v t) ∧ OkD t
  | .nt t => OkD t
  | .bi w t u => Ok (.bi w t u) ∧ OkD t ∧ OkD u
/-! ### pieces -/
noncomputable def pcs : Td → List Td
  | .lf w v => [.lf w v]
  | .ov w v t => .ov w v t :: pcs t
  | .nt t => .nt t :: pcs t
  | .bi w t u => .bi w t u :: (pcs t ++ pcs u)
/-- so many pieces in a list of things -/
noncomputable def sizes (ts : List Td) : Nat := (ts.flatMap pcs).length
noncomputable def namesOf (t : Td) : List Str := (pcs t).filterMap fun u => match u with | .lf w (.str n) => if w = "day" then some n else none | _ => none
noncomputable def rulesOf (t : Td) : List Str := (pcs t).filterMap fun u => match u with | .ov w (.str r) _ => if w ∈ turnL then some r else none | _ => none
/-! ### days -/
noncomputable def dayOf (dn : Str → Int) (wd : Str → List Int) : Td → Int
  | .lf _ (.str n) => dn n
  | .lf _ (.int i) => i
  | .lf _ _ => 0
  | .ov w (.str r) t => if w = "on" then onL (wd r) (dayOf dn wd t) else if w = "by" then byL (wd r) (dayOf dn wd t) else tilL (wd r) (dayOf dn wd t)
  | .ov _ (.int i) t => dayOf dn wd t + i
  | .ov _ _ _ => 0
  | .nt _ => 0
  | .bi w t u => if w = "late" then (if dayOf dn wd u > dayOf dn wd t then dayOf dn wd u else dayOf dn wd t) else (if dayOf dn wd u < dayOf dn wd t then dayOf dn wd u else dayOf dn wd t)
open Classical in
noncomputable def soOf (dn : Str → Int) (wd : Str → List Int) : Td → Bool
  | .lf _ _ => false
  | .ov _ _ _ => false
  | .nt t => !soOf dn wd t
  | .bi w t u => if w = "le" then decide (dayOf dn wd t ≤ dayOf dn wd u) else if w = "and" then soOf dn wd t && soOf dn wd u else soOf dn wd t || soOf dn wd u
end TD
end
section
set_option maxHeartbeats 2000000
namespace G
open PySem L2 Evl TD SX
section
variable {X : Cx} {K : PySem.W.Frag} {o i : Expr} {td ty : TE} {pos : Pos}
theorem slA (hK : X.K = K) : SlR X (rSlA K) := hK ▸ sl_tupA
theorem isiS (hK : X.K = K) : CallR X (.builtin "isinstance") (rIsi K) := hK ▸ call_isi
theorem inS (hK : X.K = K) : OpR X (compareOp .In) (rIn K false) := hK ▸ op_in_seq
theorem niS (hK : X.K = K) : OpR X (compareOp .NotIn) (rIn K true) := hK ▸ op_notIn_seq
end
variable {K : PySem.W.Frag} {σ : L2.St} {H H' : Hp} {ta tb te tx : TE} {tt : TT} {x y z v : V} {p a l C dx : Addr} {tA tr tk : TA} {xs ys : List V} {t u : Td} {ts us : List Td} {D : Ends} {tz : TS} {i : Nat} {Q : VK} {sp : Sp} {dvs vs : List V} {E : XK}
theorem eu_slA {tl th : TO} {lo hi : Option Int} (h : Ev te σ H (.ref a)) (h1 : EvO tl σ H lo) (h2 : EvO th σ H hi) (hs : SqT K H a xs) (hw : ¬ (HT.sIx xs.length 0 lo = 0 ∧ HT.sIx xs.length xs.length hi = xs.length)) :
    EvU (tSl (rSlA K) te tl th) σ H (cutV xs lo hi) := fun H1 e _ q =>
  h H1 e _ fun H2 e2 => h1 H2 (e.trans e2) _ fun H3 e3 => h2 H3 ((e.trans e2).trans e3) _ fun H4 e4 =>
    ⟨a, xs, rfl, ex_t (((e.trans e2).trans e3).trans e4) hs, fun z => absurd z hw, fun _ p hp => q p _ (fresh_back ((e2.trans e3).trans e4) hp) (((e2.trans e3).trans e4).trans (Ex.new hp)) upd_same⟩
theorem eu_revT (h : EvU te σ H xs) : EvU (tRevT K te) σ H xs.reverse := fun H1 e _ q => h H1 e _ fun b H2 hb e2 h2 =>
  ⟨b, xs, rfl, st_of h2, fun p hp => q p _ (fresh_back e2 hp) (e2.trans (Ex.new hp)) upd_same⟩
/-! ### what evaluates to a told thing, to a new tuple or list of told things -/
noncomputable def EvTd (te : TE) (σ : L2.St) (H : Hp) (t : Td) : Prop := ∀ H1, Ex H H1 → ∀ Q : VK, (∀ v H2, Ex H1 H2 → At H2 v t → Q v H2) → te σ H1 Q
noncomputable def EvKs (te : TE) (σ : L2.St) (H : Hp) (ts : List Td) : Prop := ∀ H1, Ex H H1 → ∀ Q : VK, (∀ p ys H2, H1 p = none → Ex H1 H2 → H2 p = some (.tup ys) → Ats H2 ys ts → Q (.ref p) H2) → te σ H1 Q
noncomputable def EvLs (te : TE) (σ : L2.St) (H : Hp) (ts : List Td) : Prop := ∀ H1, Ex H H1 → ∀ Q : VK, (∀ p ys H2, H1 p = none → Ex H1 H2 → H2 p = some (.lst ys) → Ats H2 ys ts → Q (.ref p) H2) → te σ H1 Q
noncomputable def RetTd (t : Td) (H : Hp) (Q : VK) : Prop := ∀ v H2, Ex H H2 → At H2 v t → Q v H2
noncomputable def RetKs (ts : List Td) (H : Hp) (Q : VK) : Prop := ∀ p ys H2, H p = none → Ex H H2 → H2 p = some (.tup ys) → Ats H2 ys ts → Q (.ref p) H2
noncomputable def RetLs (ts : List Td) (H : Hp) (Q : VK) : Prop := ∀ p ys H2, H p = none → Ex H H2 → H2 p = some (.lst ys) → Ats H2 ys ts → Q (.ref p) H2
noncomputable def SpTd (sp : Sp) (vs : List V) (H : Hp) (t : Td) : Prop := ∀ H1, Ex H H1 → ∀ Q : VK, RetTd t H1 Q → ∀ E : XK, sp vs H1 Q E
noncomputable def SpKs (sp : Sp) (vs : List V) (H : Hp) (ts : List Td) : Prop := ∀ H1, Ex H H1 → ∀ Q : VK, RetKs ts H1 Q → ∀ E : XK, sp vs H1 Q E
noncomputable def SpLs (sp : Sp) (vs : List V) (H : Hp) (ts : List Td) : Prop := ∀ H1, Ex H H1 → ∀ Q : VK, RetLs ts H1 Q → ∀ E : XK, sp vs H1 Q E
/-! ### statements -/
/-- x = l.pop() -/
theorem q_pop {y : V} (hl : H l = some (.lst (xs ++ [y]))) (ha : Ev ta σ H (.ref l)) (k : ∀ H1, Ex H H1 → tz D (σ.set i (some y)) (upd H1 l (.lst xs))) : tSeq (tAsg (tBM0 K "list" rPop ta) (gName i)) tz D σ H := ha H (Ex.refl H) _ fun H1 e1 =>
  ⟨Or.inl ⟨rfl, _, sq_of (e1 l _ hl)⟩, l, xs ++ [y], y, rfl, rfl, e1 l _ hl, by simp, by
    rw [List.dropLast_concat]
    exact k H1 e1⟩
/-- l.extend(t), t a new tuple -/
theorem s_ext (hl : H l = some (.lst xs)) (ha : Ev ta σ H (.ref l)) (h : EvU te σ H ys) (hz : xs.length + ys.length ≤ 100000) (k : ∀ H1, Ex H H1 → D.nx σ (upd H1 l (.lst (xs ++ ys)))) :
    tDrop (tBM K "list" (rExtT K) ta (tCons te tNil)) D σ H := ha H (Ex.refl H) _ fun H1 e1 =>
  ⟨Or.inl ⟨rfl, xs, sq_of (e1 l _ hl)⟩, h H1 e1 _ fun p H2 hp e2 h2 => ⟨l, p, xs, ys, rfl, rfl, e2 l _ (e1 l _ hl), st_of h2, sz_of hz, k H2 (e1.trans e2)⟩⟩
end G
end
section
set_option maxHeartbeats 2000000
namespace G
open PySem L2 Evl TD SX PyProof.Rows
/-! ### the sorted list of what stands in a list of texts -/
/-- ys is what sorted(set(xs)) tells -/
noncomputable def IsNrm (xs ys : List Str) : Prop := sortedS ys = true ∧ ys.Nodup ∧ ∀ k, k ∈ ys ↔ k ∈ xs
open Classical in
noncomputable def nrm (xs : List Str) : List Str := if h : ∃ ys, IsNrm xs ys then Classical.choose h else []
variable {K : PySem.W.Frag} {w : World} {σ : L2.St} {H H' : Hp} {ta tb te tx tl : TE} {tt : TT} {x y z v : V} {p a l C dx : Addr} {tA tr tk : TA} {xs ys : List V} {t u : Td} {ts us : List Td} {D : Ends} {tz : TS} {i j : Nat} {Q : VK} {sp : Sp} {dvs : List V} {vs : List Nat} {E : XK}
/-! ### comprehensions over told things -/
end G
end
section
set_option maxHeartbeats 4000000
namespace K20
open PySem L2 Evl G OQ
/-- a written dict of texts and numbers: what stands in it, what does not -/
structure KD (K : PySem.W.Frag) (w : World) (a : Addr) (rows : List (Str × Int)) (off : List Str) : Prop where
  kd : ∃ es n, KDict K w a es n
  there : ∀ p ∈ rows, KDct K w a p.1 (.int p.2) ∧ ∃ u, PySem.W.nsIn K a p.1 = some (some u)
  miss : ∀ x ∈ off, PySem.W.nsIn K a x = some none
noncomputable def sizeF : List (Str × Int) := [("day", 2), ("num", 2), ("on", 3), ("by", 3), ("til", 3), ("add", 3), ("late", 3), ("soon", 3)]
noncomputable def sizeS : List (Str × Int) := [("le", 3), ("and", 3), ("or", 3), ("not", 2)]
noncomputable def offF : List Str := (["le", "and", "or", "not", "up", "Day", "", "i", "o", "pq", "ab", "A", "X"] : List Str) ++ ruleS ++ nameS
noncomputable def offS : List Str := (["day", "num", "on", "by", "til", "add", "late", "soon", "up", "Day", "", "i", "o", "pq", "ab", "A", "X"] : List Str) ++ ruleS ++ nameS
structure Txt (P : Program) (w : World) (K : PySem.W.Frag) (mg : Str → Option Value) (SZ SY : Addr) : Prop where
  z : KD K w SZ sizeF offF
  mg_SIZES : mg "SIZES" = some (.ref SZ)
  y : KD K w SY sizeS offS
  mg_SIZES_OF_SAYINGS : mg "SIZES_OF_SAYINGS" = some (.ref SY)
  b_isinstance : mg "isinstance" = none
  b_int : mg "int" = none
  b_bool : mg "bool" = none
  b_list : mg "list" = none
  b_tuple : mg "tuple" = none
  b_str : mg "str" = none
  b_len : mg "len" = none
  b_range : mg "range" = none
  b_divmod : mg "divmod" = none
  b_min : mg "min" = none
  b_max : mg "max" = none
  b_all : mg "all" = none
  b_abs : mg "abs" = none
  b_repr : mg "repr" = none
  b_sum : mg "sum" = none
structure Cal (P : Program) (w : World) (K : PySem.W.Frag) (mg : Str → Option Value) (base : Heap) (x : Str) (f : Addr) (fd : FuncData) (ps : List Str) (k : Nat) (sp : Sp) : Prop where
  ok : FnOk P w K mg base CX0 k f fd ps sp
  mgx : mg x = some (.ref f)
  kp : PySem.W.keepIn K (.ref f) = true
  bd : Binds K fd ps []
/-! ### which type -/
noncomputable def isStrD : PyData → Bool
  | .str _ => true
  | _ => false
noncomputable def isTupD : PyData → Bool
  | .tuple _ => true
  | _ => false
noncomputable def isInD : PyData → Bool
  | .int _ | .bool _ => true
  | _ => false
noncomputable def isBlD : PyData → Bool
  | .bool _ => true
  | _ => false
theorem kit_str : ∀ d : PyData, kitB (tyD d) "str" = some (isStrD d)
  | .none => (by decide +kernel : kitB "NoneType" "str" = some false)
  | .bool _ => (by decide +kernel : kitB "bool" "str" = some false)
  | .int _ => (by decide +kernel : kitB "int" "str" = some false)
  | .str _ => (by decide +kernel : kitB "str" "str" = some true)
  | .list _ => (by decide +kernel : kitB "list" "str" = some false)
  | .tuple _ => (by decide +kernel : kitB "tuple" "str" = some false)
  | .dict _ => (by decide +kernel : kitB "dict" "str" = some false)
theorem kit_tup : ∀ d : PyData, kitB (tyD d) "tuple" = some (isTupD d)
  | .none => (by decide +kernel : kitB "NoneType" "tuple" = some false)
  | .bool _ => (by decide +kernel : kitB "bool" "tuple" = some false)
  | .int _ => (by decide +kernel : kitB "int" "tuple" = some false)
  | .str _ => (by decide +kernel : kitB "str" "tuple" = some false)
  | .list _ => (by decide +kernel : kitB "list" "tuple" = some false)
  | .tuple _ => (by decide +kernel : kitB "tuple" "tuple" = some true)
  | .dict _ => (by decide +kernel : kitB "dict" "tuple" = some false)
theorem kit_int : ∀ d : PyData, kitB (tyD d) "int" = some (isInD d)
  | .none => (by decide +kernel : kitB "NoneType" "int" = some false)
  | .bool _ => (by decide +kernel : kitB "bool" "int" = some true)
  | .int _ => (by decide +kernel : kitB "int" "int" = some true)
  | .str _ => (by decide +kernel : kitB "str" "int" = some false)
  | .list _ => (by decide +kernel : kitB "list" "int" = some false)
  | .tuple _ => (by decide +kernel : kitB "tuple" "int" = some false)
  | .dict _ => (by decide +kernel : kitB "dict" "int" = some false)
theorem kit_bool : ∀ d : PyData, kitB (tyD d) "bool" = some (isBlD d)
  | .none => (by decide +kernel : kitB "NoneType" "bool" = some false)
  | .bool _ => (by decide +kernel : kitB "bool" "bool" = some true)
  | .int _ => (by decide +kernel : kitB "int" "bool" = some false)
  | .str _ => (by decide +kernel : kitB "str" "bool" = some false)
  | .list _ => (by decide +kernel : kitB "list" "bool" = some false)
  | .tuple _ => (by decide +kernel : kitB "tuple" "bool" = some false)
  | .dict _ => (by decide +kernel : kitB "dict" "bool" = some false)
theorem is_int_eq : ∀ d : PyData, (isInD d && !isBlD d) = isIntD d := by intro d; cases d <;> rfl
noncomputable def lettD (R : List Str) : PyData → Bool
  | .str x => decide (x ∈ R)
  | _ => false
theorem isRl_eq : ∀ d : PyData, lettD ruleS d = isRlD d := by intro d; cases d <;> rfl
theorem isNm_eq : ∀ d : PyData, lettD nameS d = isNmD d := by intro d; cases d <;> rfl
theorem str_of {H : Hp} {v : V} {d : PyData} (h : Dq H v d) (k : isStrD d = true) : ∃ x, d = .str x ∧ v = .str x := by
  cases h with
  | str x => exact ⟨x, rfl, rfl⟩
  | _ => cases k
theorem tup_of {H : Hp} {v : V} {d : PyData} (h : Dq H v d) (k : isTupD d = true) : ∃ a xs ds, d = .tuple ds ∧ v = .ref a ∧ H a = some (.tup xs) ∧ DqAll H xs ds := by
  cases h with
  | tup a q => exact ⟨_, _, _, rfl, rfl, a, q⟩
  | _ => cases k
section
variable {P : Program} {w : World} {K : PySem.W.Frag} {mg : Str → Option Value} {base : Heap} {SZ SY : Addr} {σ : L2.St} {H : Hp} {ta tb te : TE}
theorem ev_isiB {x : V} {t : String} {n : String} {b : Bool} (h : Ev ta σ H x) (ty : ∀ H1, Ex H H1 → TyX K H1 x (.type t)) (hb : kitB t n = some b) :
    Ev (tCB (rIsi K) (tCons ta (tCons (tC (.ty n)) tNil))) σ H (.bl b) := ev_cb (ea_cons h (ea_cons ev_c ea_nil)) (rc_isi (.ty n) ty (kit_ty hb))
theorem ev_isiD {v : V} {d : PyData} {n : String} {b : Bool} (h : Ev ta σ H v) (hd : Dq H v d) (hb : kitB (tyD d) n = some b) : Ev (tCB (rIsi K) (tCons ta (tCons (tC (.ty n)) tNil))) σ H (.bl b) :=
  ev_isiB h (fun H1 e => .base (ty_of (hd.mono e))) hb
theorem ev_lenStr {z : Str} (h : Ev ta σ H (.str z)) (hz : z.length ≤ 100000) : Ev (tCB (fun xs H Q => ∃ z, xs = [.str z] ∧ z.length ≤ sizeLine ∧ Q (.int z.length) H) (tCons ta tNil)) σ H (.int (z.length : Int)) := fun H1 e Q q =>
  h H1 e _ fun H2 e2 => ⟨z, rfl, sz_of hz, q H2 e2⟩
theorem ev_inStr {i j : Str} (h : Ev ta σ H (.str i)) (k : Ev tb σ H (.str j)) : Ev (tOp (fun x y H Q => ∃ i j, x = .str i ∧ y = .str j ∧ Q (.bl (!(Builtin.Str.occurrences j i 0 j.length 1).isEmpty)) H) ta tb) σ H (.bl (!(Builtin.Str.occurrences j i 0 j.length 1).isEmpty)) :=
  ev_op h k fun H1 _ Q q => ⟨i, j, rfl, rfl, q H1 (Ex.refl H1)⟩
/-- the letters L as one text hold just the texts R of one sign -/
noncomputable def Lets (L : Str) (R : List Str) : Prop := ∀ x ∈ txS, (decide ((x.length : Int) = 1) && !(Builtin.Str.occurrences L x 0 L.length 1).isEmpty) = decide (x ∈ R)
theorem lets_rule : Lets "abcdefgh" ruleS := by unfold Lets; decide +kernel
theorem lets_name : Lets "pqrstuvwxyz" nameS := by unfold Lets; decide +kernel
theorem tx_len : ∀ x ∈ txS, x.length ≤ 100000 := by decide +kernel
theorem fine_str {x : Str} (h : fine (.str x) = true) : x ∈ txS := of_decide_eq_true (by rw [← h]; simp [fine])
theorem fine_tup {ds : List PyData} (h : fine (.tuple ds) = true) : ds.all fine = true := by rw [fine, fines_all] at h; exact h
theorem ev_letter {v : V} {d : PyData} {L : Str} {R : List Str} (h : Ev te σ H v) (k : Ev tb σ H (.str L)) (hd : Dq H v d) (fd : fine d = true) (hL : Lets L R) :
    Ev (tAndV (tCB (rIsi K) (tCons te (tCons (tC (.ty "str")) tNil))) (tAndV (tOp rEq (tCB (fun xs H Q => ∃ z, xs = [.str z] ∧ z.length ≤ sizeLine ∧ Q (.int z.length) H) (tCons te tNil)) (tC (.int 1))) (tOp (fun x y H Q => ∃ i j, x = .str i ∧ y = .str j ∧ Q (.bl (!(Builtin.Str.occurrences j i 0 j.length 1).isEmpty)) H) te tb))) σ H (.bl (lettD R d)) := by
  have h1 := ev_isiD (K := K) (n := "str") h hd (kit_str d)
  cases hs : isStrD d with
  | false =>
    rw [hs] at h1
    refine ev_is (ev_andV (a := false) (b := false) h1 fun z => by cases z) ?_
    cases d with
    | str x => cases hs
    | _ => rfl
  | true =>
    obtain ⟨x, rfl, rfl⟩ := str_of hd hs
    rw [hs] at h1
    have hx := fine_str fd
    have e := hL x hx
    refine ev_is (ev_andV (a := true) h1 fun _ => ev_andV (ev_is (ev_op (ev_lenStr h (tx_len x hx)) ev_c (rv_eq rfl)) (by show V.bl (decide (V.int (x.length : Int) = V.int 1)) = V.bl (decide ((x.length : Int) = 1)); congr 1; simp)) fun _ => ev_inStr h k) ?_
    show V.bl (true && (decide ((x.length : Int) = 1) && !(Builtin.Str.occurrences L x 0 L.length 1).isEmpty)) = V.bl (lettD R (.str x))
    rw [e] <;> rfl
theorem ev_intD {v : V} {d : PyData} (h : Ev te σ H v) (hd : Dq H v d) :
    Ev (tAndV (tCB (rIsi K) (tCons te (tCons (tC (.ty "int")) tNil))) (tNotV (tCB (rIsi K) (tCons te (tCons (tC (.ty "bool")) tNil))))) σ H (.bl (isIntD d)) :=
  ev_is (ev_andV (ev_isiD (K := K) h hd (kit_int d)) fun _ => ev_notV (ev_isiD (K := K) h hd (kit_bool d))) (by rw [is_int_eq])
/-! ### is_day, is_rule, is_name -/
noncomputable def sp_leaf (f : PyData → Bool) : Sp := fun vs H Q _ => ∃ v d, vs = [v] ∧ Dq H v d ∧ fine d = true ∧ RetV (.bl (f d)) H Q
theorem spv_leaf {f : PyData → Bool} {v : V} {d : PyData} (hd : Dq H v d) (fd : fine d = true) : SpV (sp_leaf f) ([v] ++ []) H (.bl (f d)) := fun H1 e Q q E => ⟨v, d, rfl, hd.mono e, fd, q⟩
theorem ok_is_rule {f : Addr} {fd : FuncData} (F : Fun K "is_rule" "is_rule" s_is_rule f fd) (T : Txt P w K mg SZ SY) : FnOk P w K mg base CX0 1 f fd ["value"] (sp_leaf isRlD) := by
  refine F.ok sc_is_rule (fun vs H Q E h => ?_) (fun cdv A outer s H vs Q E hr h => ?_)
  · obtain ⟨v, d, rfl, _⟩ := h
    rfl
  · obtain ⟨v, d, rfl, hd, fd, k⟩ := h
    refine ⟨_, (pss_one (ps_ret (pe_and (pe_callB (isiS (K := K) rfl) (by rfl) T.b_isinstance (by decide +kernel) (pa_cons (pv 0) (pa_cons (pe_bltn (v := .ty "str") (u := .type "str") (by rfl) T.b_str (by decide +kernel) rfl) pa_nil))) (pe_and (pe_cmpR op_eq (pe_callB call_len_str (by rfl) T.b_len (by decide +kernel) (pa_cons (pv 0) pa_nil)) pe_int (nomark _)) (pe_one (pe_cmpR op_in_str (pv 0) pe_str (by rfl))))))), ?_⟩
    exact s_ret (ev_is (ev_letter (K := K) (ev_var rfl) ev_c hd fd lets_rule) (by rw [isRl_eq])) fun H1 e => k H1 e
theorem ok_is_name {f : Addr} {fd : FuncData} (F : Fun K "is_name" "is_name" s_is_name f fd) (T : Txt P w K mg SZ SY) : FnOk P w K mg base CX0 1 f fd ["value"] (sp_leaf isNmD) := by
  refine F.ok sc_is_name (fun vs H Q E h => ?_) (fun cdv A outer s H vs Q E hr h => ?_)
  · obtain ⟨v, d, rfl, _⟩ := h
    rfl
  · obtain ⟨v, d, rfl, hd, fd, k⟩ := h
    refine ⟨_, (pss_one (ps_ret (pe_and (pe_callB (isiS (K := K) rfl) (by rfl) T.b_isinstance (by decide +kernel) (pa_cons (pv 0) (pa_cons (pe_bltn (v := .ty "str") (u := .type "str") (by rfl) T.b_str (by decide +kernel) rfl) pa_nil))) (pe_and (pe_cmpR op_eq (pe_callB call_len_str (by rfl) T.b_len (by decide +kernel) (pa_cons (pv 0) pa_nil)) pe_int (nomark _)) (pe_one (pe_cmpR op_in_str (pv 0) pe_str (by rfl))))))), ?_⟩
    exact s_ret (ev_is (ev_letter (K := K) (ev_var rfl) ev_c hd fd lets_name) (by rw [isNm_eq])) fun H1 e => k H1 e
theorem ok_is_day {f : Addr} {fd : FuncData} (F : Fun K "is_day" "is_day" s_is_day f fd) (T : Txt P w K mg SZ SY) : FnOk P w K mg base CX0 1 f fd ["value"] (sp_leaf isIntD) := by
  refine F.ok sc_is_day (fun vs H Q E h => ?_) (fun cdv A outer s H vs Q E hr h => ?_)
  · obtain ⟨v, d, rfl, _⟩ := h
    rfl
  · obtain ⟨v, d, rfl, hd, fd, k⟩ := h
    refine ⟨_, (pss_one (ps_ret (pe_and (pe_callB (isiS (K := K) rfl) (by rfl) T.b_isinstance (by decide +kernel) (pa_cons (pv 0) (pa_cons (pe_bltn (v := .ty "int") (u := .type "int") (by rfl) T.b_int (by decide +kernel) rfl) pa_nil))) (pe_one (pe_not (pe_callB (isiS (K := K) rfl) (by rfl) T.b_isinstance (by decide +kernel) (pa_cons (pv 0) (pa_cons (pe_bltn (v := .ty "bool") (u := .type "bool") (by rfl) T.b_bool (by decide +kernel) rfl) pa_nil)))))))), ?_⟩
    exact s_ret (ev_intD (K := K) (ev_var rfl) hd) fun H1 e => k H1 e
theorem ok__law_is_integer {f : Addr} {fd : FuncData} (F : Fun K "_law_is_integer" "_law_is_integer" s__law_is_integer f fd) (T : Txt P w K mg SZ SY) : FnOk P w K mg base CX0 1 f fd ["_law_value"] (sp_leaf isIntD) := by
  refine F.ok sc__law_is_integer (fun vs H Q E h => ?_) (fun cdv A outer s H vs Q E hr h => ?_)
  · obtain ⟨v, d, rfl, _⟩ := h
    rfl
  · obtain ⟨v, d, rfl, hd, fd, k⟩ := h
    refine ⟨_, (pss_one (ps_ret (pe_and (pe_callB (isiS (K := K) rfl) (by rfl) T.b_isinstance (by decide +kernel) (pa_cons (pv 0) (pa_cons (pe_bltn (v := .ty "int") (u := .type "int") (by rfl) T.b_int (by decide +kernel) rfl) pa_nil))) (pe_one (pe_not (pe_callB (isiS (K := K) rfl) (by rfl) T.b_isinstance (by decide +kernel) (pa_cons (pv 0) (pa_cons (pe_bltn (v := .ty "bool") (u := .type "bool") (by rfl) T.b_bool (by decide +kernel) rfl) pa_nil)))))))), ?_⟩
    exact s_ret (ev_intD (K := K) (ev_var rfl) hd) fun H1 e => k H1 e
noncomputable def sp_lawletter : Sp := fun vs H Q _ => ∃ v d L R, vs = [v, .str L] ∧ Dq H v d ∧ fine d = true ∧ Lets L R ∧ RetV (.bl (lettD R d)) H Q
theorem spv_lawletter {v : V} {d : PyData} {L : Str} {R : List Str} (hd : Dq H v d) (fd : fine d = true) (hL : Lets L R) : SpV sp_lawletter ([v, .str L] ++ []) H (.bl (lettD R d)) := fun H1 e Q q E => ⟨v, d, L, R, rfl, hd.mono e, fd, hL, q⟩
theorem ok__law_is_letter {f : Addr} {fd : FuncData} (F : Fun K "_law_is_letter" "_law_is_letter" s__law_is_letter f fd) (T : Txt P w K mg SZ SY) : FnOk P w K mg base CX0 1 f fd ["_law_value", "_law_letters"] sp_lawletter := by
  refine F.ok sc__law_is_letter (fun vs H Q E h => ?_) (fun cdv A outer s H vs Q E hr h => ?_)
  · obtain ⟨v, d, L, R, rfl, _⟩ := h
    rfl
  · obtain ⟨v, d, L, R, rfl, hd, fd, hL, k⟩ := h
    refine ⟨_, (pss_one (ps_ret (pe_and (pe_callB (isiS (K := K) rfl) (by rfl) T.b_isinstance (by decide +kernel) (pa_cons (pv 0) (pa_cons (pe_bltn (v := .ty "str") (u := .type "str") (by rfl) T.b_str (by decide +kernel) rfl) pa_nil))) (pe_and (pe_cmpR op_eq (pe_callB call_len_str (by rfl) T.b_len (by decide +kernel) (pa_cons (pv 0) pa_nil)) pe_int (nomark _)) (pe_one (pe_cmpR op_in_str (pv 0) (pv 1) (by rfl))))))), ?_⟩
    exact s_ret (ev_letter (K := K) (ev_var rfl) (ev_var rfl) hd fd hL) fun H1 e => k H1 e
end
end K20
end
section
set_option maxHeartbeats 4000000
namespace K20
open PySem L2 Evl G OQ
theorem inV_str (x : Str) (xs : List Str) : inV (.str x) (xs.map V.str) = decide (x ∈ xs) := by
  unfold inV
  rw [List.any_map]
  induction xs with
  | nil => rfl
  | cons y xs ih =>
    rw [List.any_cons, ih]
    show ((y == x) || decide (x ∈ xs)) = decide (x ∈ y :: xs)
    by_cases h : x = y
    · subst h; simp
    · have h1 : (y == x) = false := beq_eq_false_iff_ne.mpr fun z => h z.symm
      rw [h1, Bool.false_or]
      simp [h]
theorem dec_str (a b : Str) : decide (V.str a = V.str b) = decide (a = b) := by
  rw [Bool.eq_iff_iff, decide_eq_true_iff, decide_eq_true_iff]
  exact ⟨fun h => V.str.inj h, fun h => h ▸ rfl⟩
theorem cut1 (x : V) (l : List V) : cutV (x :: l) (some 1) none = l := by
  unfold cutV
  simp [HT.sIx]
theorem cut2 (x : V) (l : List V) : cutV (x :: l) (some 2) none = l.drop 1 := by
  cases l with
  | nil => rfl
  | cons y l => unfold cutV; simp [HT.sIx]
/-- the parts behind a word -/
noncomputable def prt {α : Type} (w : Str) (r : List α) : List α := if w ∈ (["day", "num"] : List Str) then [] else if w ∈ (["on", "by", "til", "add"] : List Str) then r.drop 1 else r
theorem prt_len {α : Type} (w : Str) (r : List α) : (prt w r).length ≤ r.length := by
  unfold prt
  split
  · exact Nat.zero_le _
  · split
    · rw [List.length_drop]; omega
    · exact Nat.le_refl _
theorem dq_prt {H : Hp} {w : Str} {xs : List V} {ds : List PyData} (h : DqAll H xs ds) : DqAll H (prt w xs) (prt w ds) := by
  unfold prt
  split
  · exact .nil
  · split
    · exact h.drop 1
    · exact h
theorem szW_some {w : Str} {n : Nat} (h : szW w = some n) : (n = 2 ∧ w ∈ (["day", "num"] : List Str)) ∨ (n = 3 ∧ w ∉ (["day", "num"] : List Str) ∧ w ∈ (["on", "by", "til", "add", "late", "soon"] : List Str)) := by
  unfold szW at h
  split at h
  · rename_i k; cases h; exact .inl ⟨rfl, k⟩
  · split at h
    · rename_i k1 k2; cases h; exact .inr ⟨rfl, k1, k2⟩
    · cases h
theorem prt_F {w : Str} {r : List PyData} (h : headF (.str w :: r) = true) : prt w r = partsF (.str w :: r) := by
  cases r with
  | nil => cases h
  | cons x r =>
    have h' : (decide (szW w = some (r.length + 2)) && leafB w x) = true := h
    rw [Bool.and_eq_true, decide_eq_true_iff] at h'
    rcases szW_some h'.1 with ⟨hn, hw⟩ | ⟨hn, hw, hw2⟩
    · have : r = [] := List.length_eq_zero_iff.mp (by omega)
      subst this
      have e : w = "day" ∨ w = "num" := by simpa using hw
      rcases e with e | e <;> (subst e; rfl)
    · have e : w = "on" ∨ w = "by" ∨ w = "til" ∨ w = "add" ∨ w = "late" ∨ w = "soon" := by simpa using hw2
      rcases e with e | e | e | e | e | e <;> (subst e; rfl)
theorem szS_some {w : Str} {n : Nat} (h : szS w = some n) : w = "le" ∨ w = "and" ∨ w = "or" ∨ w = "not" := by
  unfold szS at h
  split at h
  · rename_i k
    have e : w = "le" ∨ w = "and" ∨ w = "or" := by simpa using k
    rcases e with e | e | e
    · exact .inl e
    · exact .inr (.inl e)
    · exact .inr (.inr (.inl e))
  · split at h
    · rename_i k; exact .inr (.inr (.inr k))
    · cases h
theorem prt_S {w : Str} {r : List PyData} (h : headS (.str w :: r) = true) : prt w r = r := by
  have h' : decide (szS w = some (r.length + 1)) = true := h
  rw [decide_eq_true_iff] at h'
  rcases szS_some h' with e | e | e | e <;> (subst e; rfl)
noncomputable def RetU (xs : List V) (H : Hp) (Q : VK) : Prop := ∀ p H2, H p = none → Ex H H2 → H2 p = some (.tup xs) → Q (.ref p) H2
noncomputable def SpU (sp : Sp) (vs : List V) (H : Hp) (xs : List V) : Prop := ∀ H1, Ex H H1 → ∀ Q : VK, RetU xs H1 Q → ∀ E : XK, sp vs H1 Q E
noncomputable def sp_parts_of : Sp := fun vs H Q _ => ∃ a w xs, vs = [.ref a] ∧ H a = some (.tup (.str w :: xs)) ∧ RetU (prt w xs) H Q
theorem spu_parts_of {a : Addr} {w : Str} {xs : List V} {H : Hp} (h : H a = some (.tup (.str w :: xs))) : SpU sp_parts_of ([.ref a] ++ []) H (prt w xs) := fun H1 e Q q E => ⟨a, w, xs, rfl, e a _ h, q⟩
section
variable {P : Program} {w : World} {K : PySem.W.Frag} {mg : Str → Option Value} {base : Heap} {SZ SY : Addr} {σ : L2.St} {H : Hp} {ta tb te : TE}
theorem eu_call {sp : Sp} {dvs vs xs : List V} {E : XK} {ta : TA} (h : EvA ta σ H vs) (hs : SpU sp (vs ++ dvs) H xs) : EvU (tCall sp dvs E ta) σ H xs := fun H1 e Q q =>
  h H1 e _ fun H2 e2 => hs H2 (e.trans e2) Q (fun p H3 hp e3 h3 => q p H3 (fresh_back e2 hp) (e2.trans e3) h3) _
/-- w in ("..", "..") -/
theorem ev_inW {tA : TA} {x : Str} (ws : List Str) (h : Ev ta σ H (.str x)) (ha : EvA tA σ H (ws.map V.str)) (hz : ws.length ≤ 100) : Ev (tOp (rIn K false) ta (tTup tA)) σ H (.bl (decide (x ∈ ws))) := by
  rw [← inV_str]
  exact ev_inU h (eu_tup ha (by rw [List.length_map]; omega)) rfl (by rw [List.all_map]; exact List.all_eq_true.mpr fun _ _ => rfl)
theorem ev_at0 {a : Addr} {xs : List V} {y : V} (h : Ev te σ H (.ref a)) (ha : H a = some (.tup (y :: xs))) : Ev (tOp (rIxT K) te (tC (.int 0))) σ H y := ev_op h ev_c (rv_ixT (st_of ha) (atI_nat (j := 0) rfl))
theorem ev_at1 {a : Addr} {xs : List V} {y z : V} (h : Ev te σ H (.ref a)) (ha : H a = some (.tup (y :: z :: xs))) : Ev (tOp (rIxT K) te (tC (.int 1))) σ H z := ev_op h ev_c (rv_ixT (st_of ha) (atI_nat (j := 1) rfl))
theorem ev_at2 {a : Addr} {xs : List V} {y z v : V} (h : Ev te σ H (.ref a)) (ha : H a = some (.tup (y :: z :: v :: xs))) : Ev (tOp (rIxT K) te (tC (.int 2))) σ H v := ev_op h ev_c (rv_ixT (st_of ha) (atI_nat (j := 2) rfl))
theorem ok_parts_of {f : Addr} {fd : FuncData} (F : Fun K "parts_of" "parts_of" s_parts_of f fd) (T : Txt P w K mg SZ SY) : FnOk P w K mg base CX0 1 f fd ["told"] sp_parts_of := by
  refine F.ok sc_parts_of (fun vs H Q E h => ?_) (fun cdv A outer s H vs Q E hr h => ?_)
  · obtain ⟨a, w, xs, rfl, _⟩ := h
    rfl
  · obtain ⟨a, w, xs, rfl, ha, k⟩ := h
    refine ⟨_, (pss_cons (ps_if (pt_cmpR (inS (K := K) rfl) (pe_ix (ixT (K := K) rfl) (pv 0) pe_int (fun _ _ => rfl)) (pe_tup (pa_cons pe_str (pa_cons pe_str pa_nil))) (by rfl)) (pss_one (ps_ret (pe_tup pa_nil))) pss_nil) (pss_cons (ps_if (pt_cmpR (inS (K := K) rfl) (pe_ix (ixT (K := K) rfl) (pv 0) pe_int (fun _ _ => rfl)) (pe_tup (pa_cons pe_str (pa_cons pe_str (pa_cons pe_str (pa_cons pe_str pa_nil))))) (by rfl)) (pss_one (ps_ret (pe_slice (slA (K := K) rfl) (pv 0) (po_some pe_int) po_none))) pss_nil) (pss_one (ps_ret (pe_slice (slA (K := K) rfl) (pv 0) (po_some pe_int) po_none))))), ?_⟩
    refine q_when (et_test (ev_inW (K := K) ["day", "num"] (ev_at0 (ev_var rfl) ha) (ea_cons ev_c (ea_cons ev_c ea_nil)) (by decide))) (fun hw H1 e1 => ?_) (fun hw H1 e1 => ?_)
    · rw [decide_eq_true_iff] at hw
      refine s_retU (eu_tup ea_nil (by show 0 ≤ 100000; decide)) fun p H2 hp e2 h2 => k p H2 (fresh_back e1 hp) (e1.trans e2) ?_
      unfold prt; rw [if_pos hw]; exact h2
    · rw [decide_eq_false_iff_not] at hw
      refine q_when (et_test (ev_inW (K := K) ["on", "by", "til", "add"] (ev_at0 (ev_var rfl) (e1 a _ ha)) (ea_cons ev_c (ea_cons ev_c (ea_cons ev_c (ea_cons ev_c ea_nil)))) (by decide))) (fun hv H2 e2 => ?_) (fun hv H2 e2 => ?_)
      · rw [decide_eq_true_iff] at hv
        refine s_retU (eu_slA (ev_var rfl) (eo_some ev_c) eo_none (st_of ((e1.trans e2) a _ ha)) ?_) fun p H3 hp e3 h3 => k p H3 (fresh_back (e1.trans e2) hp) ((e1.trans e2).trans e3) ?_
        · rintro ⟨z, _⟩
          have : min 2 (xs.length + 1) = 0 := z
          omega
        · unfold prt; rw [if_neg hw, if_pos hv, ← cut2 (.str w)]; exact h3
      · rw [decide_eq_false_iff_not] at hv
        refine s_retU (eu_slA (ev_var rfl) (eo_some ev_c) eo_none (st_of ((e1.trans e2) a _ ha)) ?_) fun p H3 hp e3 h3 => k p H3 (fresh_back (e1.trans e2) hp) ((e1.trans e2).trans e3) ?_
        · rintro ⟨z, _⟩
          have : min 1 (xs.length + 1) = 0 := z
          omega
        · unfold prt; rw [if_neg hw, if_neg hv, ← cut1 (.str w) xs]; exact h3
/-! ### a piece, a saying's tuple -/
noncomputable def pieceB : PyData → Bool
  | .tuple ds => headF ds
  | _ => false
noncomputable def tosB : PyData → Bool
  | .tuple ds => headS ds
  | _ => false
theorem ev_niKD {d : Addr} {z : Str} {r : Option Value} (h : Ev ta σ H (.str z)) (k : Ev tb σ H (.ref d)) (e : PySem.W.nsIn K d z = some r) :
    Ev (tOp (fun x y H Q => ∃ (z : Str) (r : Option Value), x = .str z ∧ y = .ref d ∧ PySem.W.nsIn K d z = some r ∧ Q (.bl (!r.isSome)) H) ta tb) σ H (.bl (!r.isSome)) := ev_op h k fun H1 _ Q q => ⟨z, r, rfl, rfl, e, q H1 (Ex.refl H1)⟩
theorem ev_inKD {d : Addr} {z : Str} {r : Option Value} (h : Ev ta σ H (.str z)) (k : Ev tb σ H (.ref d)) (e : PySem.W.nsIn K d z = some r) :
    Ev (tOp (fun x y H Q => ∃ (z : Str) (r : Option Value), x = .str z ∧ y = .ref d ∧ PySem.W.nsIn K d z = some r ∧ Q (.bl r.isSome) H) ta tb) σ H (.bl r.isSome) := ev_op h k fun H1 _ Q q => ⟨z, r, rfl, rfl, e, q H1 (Ex.refl H1)⟩
theorem ev_ixKD {d : Addr} {z : Str} {v : V} (h : Ev ta σ H (.ref d)) (k : Ev tb σ H (.str z)) (e : KDct K w d z v) : Ev (tOp (rIxD K w) ta tb) σ H v := ev_op h k fun H1 _ Q q => ⟨d, z, v, rfl, rfl, e, q H1 (Ex.refl H1)⟩
theorem ev_lenTup {a : Addr} {xs : List V} (h : Ev te σ H (.ref a)) (ha : H a = some (.tup xs)) : Ev (tCB (fun xs H Q => ∃ p ys, xs = [.ref p] ∧ (SqL K H p ys ∨ SqT K H p ys) ∧ Q (.int (ys.length : Int)) H) (tCons te tNil)) σ H (.int (xs.length : Int)) := ev_cb (ea_cons h ea_nil) (rc_len (.inr (st_of ha)) rfl)
/-- is there a text at its head -/
noncomputable def wordy : PyData → Bool
  | .tuple (.str _ :: _) => true
  | _ => false
theorem wordy_of {v : V} {d : PyData} (hd : Dq H v d) (h : wordy d = true) : ∃ a w xs ds, d = .tuple (.str w :: ds) ∧ v = .ref a ∧ H a = some (.tup (.str w :: xs)) ∧ DqAll H xs ds := by
  cases hd with
  | tup a k =>
    cases k with
    | nil => cases h
    | cons q t =>
      cases q with
      | str x => exact ⟨_, _, _, _, rfl, rfl, a, t⟩
      | _ => cases h
  | _ => cases h
/-- the test that a piece's form begins with -/
theorem et_head {v : V} {d : PyData} (h : Ev te σ H v) (hd : Dq H v d) :
    EvT (tOr (tNot (tB (tCB (rIsi K) (tCons te (tCons (tC (.ty "tuple")) tNil))))) (tOr (tTest (tOp rEq (tCB (fun xs H Q => ∃ p ys, xs = [.ref p] ∧ (SqL K H p ys ∨ SqT K H p ys) ∧ Q (.int (ys.length : Int)) H) (tCons te tNil)) (tC (.int 0))))
      (tNot (tB (tCB (rIsi K) (tCons (tOp (rIxT K) te (tC (.int 0))) (tCons (tC (.ty "str")) tNil))))))) σ H (!wordy d) := by
  have h1 := ev_isiD (K := K) (n := "tuple") h hd (kit_tup d)
  cases hs : isTupD d with
  | false =>
    rw [hs] at h1
    refine et_is (et_or (a := true) (b := false) (et_not (a := false) (et_B h1)) fun z => by cases z) ?_
    cases d with
    | tuple ds => cases hs
    | _ => rfl
  | true =>
    rw [hs] at h1
    obtain ⟨a, xs, ds, rfl, rfl, ha, hk⟩ := tup_of hd hs
    cases hk with
    | nil => exact et_or (a := false) (b := true) (et_not (a := true) (et_B h1)) fun _ => et_or (a := true) (b := true) (et_test (ev_op (ev_lenTup (K := K) h ha) ev_c (rv_eq rfl))) fun z => by cases z
    | cons q t =>
      have e0 : ∀ n : Nat, decide (V.int ((n + 1 : Nat) : Int) = V.int 0) = false := fun n => decide_eq_false fun z => by have := V.int.inj z; omega
      refine et_is (et_or (a := false) (et_not (a := true) (et_B h1)) fun _ => et_or (a := false) (et_is (et_test (ev_op (ev_lenTup (K := K) h ha) ev_c (rv_eq rfl))) (e0 _)) fun _ => et_not (et_B (ev_isiD (K := K) (n := "str") (ev_at0 (K := K) h ha) q (kit_str _)))) ?_
      rename_i d0 _
      cases d0 <;> rfl
theorem there_F {w : Str} {n : Nat} (h : szW w = some n) : (w, (n : Int)) ∈ sizeF := by
  rcases szW_some h with ⟨rfl, hw⟩ | ⟨rfl, _, hw⟩
  · have e : w = "day" ∨ w = "num" := by simpa using hw
    rcases e with e | e <;> (subst e; decide)
  · have e : w = "on" ∨ w = "by" ∨ w = "til" ∨ w = "add" ∨ w = "late" ∨ w = "soon" := by simpa using hw
    rcases e with e | e | e | e | e | e <;> (subst e; decide)
theorem miss_F : ∀ x ∈ txS, szW x = none → x ∈ offF := by decide +kernel
theorem there_S {w : Str} {n : Nat} (h : szS w = some n) : (w, (n : Int)) ∈ sizeS := by
  rcases szS_some h with e | e | e | e <;> (subst e; cases h; decide)
theorem miss_S : ∀ x ∈ txS, szS x = none → x ∈ offS := by decide +kernel
theorem fine_at {w : Str} {ds : List PyData} (h : fine (.tuple (.str w :: ds)) = true) : w ∈ txS ∧ ds.all fine = true := by
  have := fine_tup h
  rw [List.all_cons, Bool.and_eq_true] at this
  exact ⟨fine_str this.1, this.2⟩
theorem headF_szW {w : Str} {ds : List PyData} (h : szW w ≠ some (ds.length + 1)) : headF (.str w :: ds) = false := by
  cases ds with
  | nil => rfl
  | cons x r =>
    show (decide (szW w = some (r.length + 2)) && leafB w x) = false
    rw [decide_eq_false (show ¬ szW w = some (r.length + 2) from h)]; rfl
theorem ok__is_piece {f f1 f2 f3 : Addr} {fd fd1 fd2 fd3 : FuncData} (F : Fun K "_is_piece" "_is_piece" s__is_piece f fd) (T : Txt P w K mg SZ SY) (c_is_name : Cal P w K mg base "is_name" f1 fd1 ["value"] 1 (sp_leaf isNmD)) (c_is_day : Cal P w K mg base "is_day" f2 fd2 ["value"] 1 (sp_leaf isIntD)) (c_is_rule : Cal P w K mg base "is_rule" f3 fd3 ["value"] 1 (sp_leaf isRlD)) :
    FnOk P w K mg base CX0 2 f fd ["value"] (sp_leaf pieceB) := by
  refine F.ok sc__is_piece (fun vs H Q E h => ?_) (fun cdv A outer s H vs Q E hr h => ?_)
  · obtain ⟨v, d, rfl, _⟩ := h
    rfl
  · obtain ⟨v, d, rfl, hd, fd, k⟩ := h
    refine ⟨_, (pss_cons (ps_if (PW.pt (pw_or (pt_not (pt_val (pe_callB (isiS (K := K) rfl) (by rfl) T.b_isinstance (by decide +kernel) (pa_cons (pv 0) (pa_cons (pe_bltn (v := .ty "tuple") (u := .type "tuple") (by rfl) T.b_tuple (by decide +kernel) rfl) pa_nil))))) (pw_or (pt_cmpR op_eq (pe_callB (lenS (K := K) rfl) (by rfl) T.b_len (by decide +kernel) (pa_cons (pv 0) pa_nil)) pe_int (nomark _)) (pw_or1 (pt_not (pt_val (pe_callB (isiS (K := K) rfl) (by rfl) T.b_isinstance (by decide +kernel) (pa_cons (pe_ix (ixT (K := K) rfl) (pv 0) pe_int (fun _ _ => rfl)) (pa_cons (pe_bltn (v := .ty "str") (u := .type "str") (by rfl) T.b_str (by decide +kernel) rfl) pa_nil))))))))) (pss_one (ps_ret pe_bl)) pss_nil) (pss_cons (ps_set (i := 1) sc__is_piece.nd rfl (Or.inl rfl) (pe_ix (ixT (K := K) rfl) (pv 0) pe_int (fun _ _ => rfl))) (pss_cons (ps_if (PW.pt (pw_or (pt_cmpR (op_notIn_kd T.z.kd.choose_spec.choose_spec) (pv 1) (pe_glob (v := .ref SZ) rfl T.mg_SIZES rfl) (by rfl)) (pw_or1 (pt_cmpR op_ne (pe_callB (lenS (K := K) rfl) (by rfl) T.b_len (by decide +kernel) (pa_cons (pv 0) pa_nil)) (pe_ix ix_kdict (pe_glob (v := .ref SZ) rfl T.mg_SIZES rfl) (pv 1) (fun _ _ => rfl)) (nomark _))))) (pss_one (ps_ret pe_bl)) pss_nil) (pss_cons (ps_if (pt_cmpR op_eq (pv 1) pe_str (nomark _)) (pss_one (ps_ret (pe_call c_is_name.ok (hr.mono (by decide)) (by rfl) c_is_name.mgx c_is_name.kp c_is_name.bd .nil pass0 (pa_cons (pe_ix (ixT (K := K) rfl) (pv 0) pe_int (fun _ _ => rfl)) pa_nil)))) pss_nil) (pss_cons (ps_if (pt_cmpR (inS (K := K) rfl) (pv 1) (pe_tup (pa_cons pe_str (pa_cons pe_str pa_nil))) (by rfl)) (pss_one (ps_ret (pe_call c_is_day.ok (hr.mono (by decide)) (by rfl) c_is_day.mgx c_is_day.kp c_is_day.bd .nil pass0 (pa_cons (pe_ix (ixT (K := K) rfl) (pv 0) pe_int (fun _ _ => rfl)) pa_nil)))) pss_nil) (pss_one (ps_ret (pe_or (pe_cmpR (inS (K := K) rfl) (pv 1) (pe_tup (pa_cons pe_str (pa_cons pe_str pa_nil))) (by rfl)) (pe_one (pe_call c_is_rule.ok (hr.mono (by decide)) (by rfl) c_is_rule.mgx c_is_rule.kp c_is_rule.bd .nil pass0 (pa_cons (pe_ix (ixT (K := K) rfl) (pv 0) pe_int (fun _ _ => rfl)) pa_nil))))))))))), ?_⟩
    refine q_when (et_head (K := K) (ev_var rfl) hd) (fun z H1 e1 => ?_) fun z H1 e1 => ?_
    · refine s_ret ev_c fun H2 e2 => ?_
      have e : pieceB d = false := by
        cases d with
        | tuple ds =>
          cases ds with
          | nil => rfl
          | cons d0 r => cases d0 with
            | str x => cases z
            | _ => rfl
        | _ => rfl
      rw [e] at k
      exact k H2 (e1.trans e2)
    · have z' : wordy d = true := by cases h : wordy d with | true => rfl | false => rw [h] at z; cases z
      obtain ⟨a, wd, xs, ds, rfl, rfl, ha, hk⟩ := wordy_of hd z'
      obtain ⟨hw, hf⟩ := fine_at fd
      refine q_asg (ev_at0 (K := K) (ev_var rfl) (e1 a _ ha)) fun H2 e2 => ?_
      have a2 := (e1.trans e2) a _ ha
      have hl : (V.str wd :: xs).length = ds.length + 1 := by rw [List.length_cons, hk.len]
      cases hz : szW wd with
      | none =>
        refine q_when (b := true) (et_or (a := true) (b := true) (et_test (ev_niKD (r := none) (ev_var rfl) ev_c (T.z.miss _ (miss_F wd hw hz)))) fun z => by cases z) (fun _ H3 e3 => ?_) fun z => by cases z
        have e : pieceB (.tuple (.str wd :: ds)) = false := headF_szW (by rw [hz]; simp)
        rw [e] at k
        exact s_ret ev_c fun H4 e4 => k H4 (((e1.trans e2).trans e3).trans e4)
      | some n =>
        obtain ⟨kd, u, hu⟩ := T.z.there _ (there_F hz)
        refine q_when (b := !decide (n = ds.length + 1)) (et_is (et_or (a := false) (et_test (ev_niKD (r := some u) (ev_var rfl) ev_c hu)) fun _ => et_test (ev_op (ev_lenTup (K := K) (ev_var rfl) a2) (ev_ixKD ev_c (ev_var rfl) kd) (rv_ne rfl))) ?_) (fun hb H3 e3 => ?_) fun hb H3 e3 => ?_
        · rw [hl]
          show (!decide (V.int ((ds.length + 1 : Nat) : Int) = V.int (n : Int))) = _
          congr 1
          rw [decide_eq_decide]
          exact ⟨fun q => by have := V.int.inj q; omega, fun q => by rw [q]⟩
        · have hne : n ≠ ds.length + 1 := by simpa using hb
          have e : pieceB (.tuple (.str wd :: ds)) = false := headF_szW (by rw [hz]; simpa using hne)
          rw [e] at k
          exact s_ret ev_c fun H4 e4 => k H4 (((e1.trans e2).trans e3).trans e4)
        · have hn : n = ds.length + 1 := by simpa using hb
          subst hn
          have a3 := e3 a _ a2
          cases hk with
          | nil =>
            exfalso
            rcases szW_some hz with ⟨q, _⟩ | ⟨q, _⟩ <;> (have q' : 0 + 1 = _ := q; omega)
          | cons q t =>
            rename_i x xs' d0 r
            have ek : pieceB (.tuple (.str wd :: d0 :: r)) = leafB wd d0 := by
              show (decide (szW wd = some (r.length + 2)) && leafB wd d0) = _
              rw [decide_eq_true (by rw [hz] <;> rfl)]; rfl
            rw [ek] at k
            have fx : fine d0 = true := by rw [List.all_cons, Bool.and_eq_true] at hf; exact hf.1
            refine q_when (et_is (et_test (ev_op (ev_var rfl) ev_c (rv_eq rfl))) (dec_str wd "day")) (fun hb H4 e4 => ?_) (fun hb H4 e4 => ?_)
            · rw [decide_eq_true_iff] at hb
              subst hb
              exact s_ret (ev_call (ea_cons (ev_at1 (K := K) (ev_var rfl) (e4 a _ a3)) ea_nil) (spv_leaf (q.mono (((e1.trans e2).trans e3).trans e4)) fx)) fun H5 e5 => k H5 ((((e1.trans e2).trans e3).trans e4).trans e5)
            · rw [decide_eq_false_iff_not] at hb
              refine q_when (et_test (ev_inW (K := K) (x := wd) ["num", "add"] (ev_var rfl) (ea_cons ev_c (ea_cons ev_c ea_nil)) (by decide))) (fun hv H5 e5 => ?_) (fun hv H5 e5 => ?_)
              · rw [decide_eq_true_iff] at hv
                have el : leafB wd d0 = isIntD d0 := by unfold leafB; rw [if_neg hb, if_pos hv]
                rw [el] at k
                exact s_ret (ev_call (ea_cons (ev_at1 (K := K) (ev_var rfl) ((e4.trans e5) a _ a3)) ea_nil) (spv_leaf (q.mono ((((e1.trans e2).trans e3).trans e4).trans e5)) fx)) fun H6 e6 => k H6 (((((e1.trans e2).trans e3).trans e4).trans e5).trans e6)
              · rw [decide_eq_false_iff_not] at hv
                have el : leafB wd d0 = (decide (wd ∈ (["late", "soon"] : List Str)) || isRlD d0) := by unfold leafB; rw [if_neg hb, if_neg hv]
                rw [el] at k
                exact s_ret (ev_orV (ev_inW (K := K) (x := wd) ["late", "soon"] (ev_var rfl) (ea_cons ev_c (ea_cons ev_c ea_nil)) (by decide)) fun _ => ev_call (ea_cons (ev_at1 (K := K) (ev_var rfl) ((e4.trans e5) a _ a3)) ea_nil) (spv_leaf (q.mono ((((e1.trans e2).trans e3).trans e4).trans e5)) fx)) fun H6 e6 => k H6 (((((e1.trans e2).trans e3).trans e4).trans e5).trans e6)
theorem ok__is_tuple_of_saying {f : Addr} {fd : FuncData} (F : Fun K "_is_tuple_of_saying" "_is_tuple_of_saying" s__is_tuple_of_saying f fd) (T : Txt P w K mg SZ SY) : FnOk P w K mg base CX0 1 f fd ["value"] (sp_leaf tosB) := by
  refine F.ok sc__is_tuple_of_saying (fun vs H Q E h => ?_) (fun cdv A outer s H vs Q E hr h => ?_)
  · obtain ⟨v, d, rfl, _⟩ := h
    rfl
  · obtain ⟨v, d, rfl, hd, fd, k⟩ := h
    refine ⟨_, (pss_cons (ps_if (PW.pt (pw_or (pt_not (pt_val (pe_callB (isiS (K := K) rfl) (by rfl) T.b_isinstance (by decide +kernel) (pa_cons (pv 0) (pa_cons (pe_bltn (v := .ty "tuple") (u := .type "tuple") (by rfl) T.b_tuple (by decide +kernel) rfl) pa_nil))))) (pw_or (pt_cmpR op_eq (pe_callB (lenS (K := K) rfl) (by rfl) T.b_len (by decide +kernel) (pa_cons (pv 0) pa_nil)) pe_int (nomark _)) (pw_or1 (pt_not (pt_val (pe_callB (isiS (K := K) rfl) (by rfl) T.b_isinstance (by decide +kernel) (pa_cons (pe_ix (ixT (K := K) rfl) (pv 0) pe_int (fun _ _ => rfl)) (pa_cons (pe_bltn (v := .ty "str") (u := .type "str") (by rfl) T.b_str (by decide +kernel) rfl) pa_nil))))))))) (pss_one (ps_ret pe_bl)) pss_nil) (pss_one (ps_ret (pe_and (pe_cmpR (op_in_kd T.y.kd.choose_spec.choose_spec) (pe_ix (ixT (K := K) rfl) (pv 0) pe_int (fun _ _ => rfl)) (pe_glob (v := .ref SY) rfl T.mg_SIZES_OF_SAYINGS rfl) (by rfl)) (pe_one (pe_cmpR op_eq (pe_callB (lenS (K := K) rfl) (by rfl) T.b_len (by decide +kernel) (pa_cons (pv 0) pa_nil)) (pe_ix ix_kdict (pe_glob (v := .ref SY) rfl T.mg_SIZES_OF_SAYINGS rfl) (pe_ix (ixT (K := K) rfl) (pv 0) pe_int (fun _ _ => rfl)) (fun _ _ => rfl)) (nomark _))))))), ?_⟩
    refine q_when (et_head (K := K) (ev_var rfl) hd) (fun z H1 e1 => ?_) fun z H1 e1 => ?_
    · refine s_ret ev_c fun H2 e2 => ?_
      have e : tosB d = false := by
        cases d with
        | tuple ds =>
          cases ds with
          | nil => rfl
          | cons d0 r => cases d0 with
            | str x => cases z
            | _ => rfl
        | _ => rfl
      rw [e] at k
      exact k H2 (e1.trans e2)
    · have z' : wordy d = true := by cases h : wordy d with | true => rfl | false => rw [h] at z; cases z
      obtain ⟨a, wd, xs, ds, rfl, rfl, ha, hk⟩ := wordy_of hd z'
      obtain ⟨hw, hf⟩ := fine_at fd
      have a1 := e1 a _ ha
      have hl : (V.str wd :: xs).length = ds.length + 1 := by rw [List.length_cons, hk.len]
      have k' : RetV (.bl (decide (szS wd = some (ds.length + 1)))) H Q := k
      cases hz : szS wd with
      | none =>
        rw [hz] at k'
        exact s_ret (ev_is (ev_andV (a := false) (b := false) (ev_inKD (r := none) (ev_at0 (K := K) (ev_var rfl) a1) ev_c (T.y.miss _ (miss_S wd hw hz))) fun z => by cases z) (by simp)) fun H2 e2 => k' H2 (e1.trans e2)
      | some n =>
        rw [hz] at k'
        obtain ⟨kd, u, hu⟩ := T.y.there _ (there_S hz)
        refine s_ret (ev_is (ev_andV (a := true) (ev_inKD (r := some u) (ev_at0 (K := K) (ev_var rfl) a1) ev_c hu) fun _ => ev_op (ev_lenTup (K := K) (ev_var rfl) a1) (ev_ixKD ev_c (ev_at0 (K := K) (ev_var rfl) a1) kd) (rv_eq rfl)) ?_) fun H2 e2 => k' H2 (e1.trans e2)
        rw [hl]
        show V.bl (decide (V.int ((ds.length + 1 : Nat) : Int) = V.int (n : Int))) = _
        congr 1
        rw [decide_eq_decide]
        exact ⟨fun q => by have := V.int.inj q; congr 1; omega, fun q => by have := Option.some.inj q; rw [this]⟩
end
end K20
end
section
set_option maxHeartbeats 4000000
namespace K20
open PySem L2 Evl G OQ
/-! ### mathematics of the walks -/
theorem piece_wordy {d : PyData} (h : pieceB d = true) : wordy d = true := by
  cases d with
  | tuple ds =>
    cases ds with
    | nil => cases h
    | cons d0 r => cases d0 with
      | str x => rfl
      | _ => cases h
  | _ => cases h
theorem tos_wordy {d : PyData} (h : tosB d = true) : wordy d = true := by
  cases d with
  | tuple ds =>
    cases ds with
    | nil => cases h
    | cons d0 r => cases d0 with
      | str x => rfl
      | _ => cases h
  | _ => cases h
theorem fOk_no {d : PyData} (h : pieceB d = false) : fOk d = false := by
  cases d with
  | tuple ds => rw [fOk_tup, show headF ds = false from h]; rfl
  | _ => rfl
theorem fOk_piece {w : Str} {r : List PyData} (h : pieceB (.tuple (.str w :: r)) = true) : fOk (.tuple (.str w :: r)) = (prt w r).all fOk := by
  have h' : headF (.str w :: r) = true := h
  rw [fOk_tup, prt_F h', h']; rfl
theorem sgl_piece {w : Str} {r : List PyData} (h : pieceB (.tuple (.str w :: r)) = true) : sgl (.tuple (.str w :: r)) = (!isLS (.str w :: r) && (prt w r).all sgl) := by
  have h' : headF (.str w :: r) = true := h
  rw [sgl_tup, prt_F h']
theorem sOk_no {d : PyData} (h : tosB d = false) : sOk d = false := by
  cases d with
  | tuple ds => rw [sOk_tup, show headS ds = false from h]; rfl
  | _ => rfl
theorem nods_prt (w : Str) (r : List PyData) : nods (prt w r) ≤ nods r := by
  unfold prt
  split
  · exact Nat.zero_le _
  · split
    · exact nods_drop r 1
    · exact Nat.le_refl _
theorem nod_tupW (w : Str) (r : List PyData) : nod (.tuple (.str w :: r)) = nods r + 2 := by
  show nods (.str w :: r) + 1 = _
  rw [nods]
  show 1 + nods r + 1 = _
  omega
theorem fine_prt {w : Str} {r : List PyData} (h : r.all fine = true) : (prt w r).all fine = true := by
  unfold prt
  split
  · rfl
  · split
    · rw [List.all_eq_true] at h ⊢
      exact fun x hx => h x (List.mem_of_mem_drop hx)
    · exact h
theorem nods_rev : ∀ ds : List PyData, nods ds.reverse = nods ds
  | [] => rfl
  | d :: ds => by rw [List.reverse_cons, nods_app, nods_rev ds]; simp [nods]; omega
theorem _root_.OQ.DqAll.last {H : Hp} {ys : List V} {ds : List PyData} (h : DqAll H ys ds) (hn : ys ≠ []) : ∃ ys' y ds' d, ys = ys' ++ [y] ∧ ds = ds' ++ [d] ∧ DqAll H ys' ds' ∧ Dq H y d := by
  induction ys generalizing ds with
  | nil => exact absurd rfl hn
  | cons v vs ih =>
    cases h with
    | cons a t =>
      cases vs with
      | nil => cases t; exact ⟨[], v, [], _, rfl, rfl, .nil, a⟩
      | cons u us =>
        obtain ⟨ys', y, ds', d, e1, e2, k1, k2⟩ := ih t (by simp)
        exact ⟨v :: ys', y, _ :: ds', d, by rw [e1] <;> rfl, by rw [e2] <;> rfl, .cons a k1, k2⟩
theorem _root_.OQ.DqAll.rev {H : Hp} {ys : List V} {ds : List PyData} (h : DqAll H ys ds) : DqAll H ys.reverse ds.reverse := by
  induction ys generalizing ds with
  | nil => cases h; exact .nil
  | cons v vs ih =>
    cases h with
    | cons a t => rw [List.reverse_cons, List.reverse_cons]; exact (ih t).app (.cons a .nil)
theorem _root_.OQ.DqAll.one {H : Hp} {xs : List V} {ds : List PyData} (h : DqAll H xs ds) (hl : ds.length = 1) : ∃ v x, xs = [v] ∧ ds = [x] ∧ Dq H v x := by
  cases h with
  | nil => cases hl
  | cons q t => cases t with
    | nil => exact ⟨_, _, rfl, rfl, q⟩
    | cons _ _ => simp at hl
theorem _root_.OQ.DqAll.two {H : Hp} {xs : List V} {ds : List PyData} (h : DqAll H xs ds) (hl : ds.length = 2) : ∃ v1 v2 x1 x2, xs = [v1, v2] ∧ ds = [x1, x2] ∧ Dq H v1 x1 ∧ Dq H v2 x2 := by
  cases h with
  | nil => cases hl
  | cons q t =>
    obtain ⟨v, x, rfl, rfl, k⟩ := t.one (by simpa using hl)
    exact ⟨_, _, _, _, rfl, rfl, q, k⟩
noncomputable def sp_form (f : PyData → Bool) : Sp := fun vs H Q _ => ∃ v d, vs = [v] ∧ Dq H v d ∧ fine d = true ∧ nod d ≤ 3000 ∧ RetV (.bl (f d)) H Q
section
variable {P : Program} {w : World} {K : PySem.W.Frag} {mg : Str → Option Value} {base : Heap} {SZ SY : Addr} {σ : L2.St} {H : Hp} {ta tb te : TE}
theorem spv_form {f : PyData → Bool} {v : V} {d : PyData} (hd : Dq H v d) (fd : fine d = true) (hz : nod d ≤ 3000) : SpV (sp_form f) ([v] ++ []) H (.bl (f d)) := fun H1 e Q q E => ⟨v, d, rfl, hd.mono e, fd, hz, q⟩
/-- the test of a list's name -/
theorem et_full {X : Cx} (hK : X.K = K) {σ : L2.St} {H : Hp} {te : TE} {l : Addr} {xs : List V} (h : Ev te σ H (.ref l)) (hl : H l = some (.lst xs)) : EvT (fun σ H Q => te σ H fun x H' => ∃ k, TruV X.K x H' k ∧ Q k H') σ H (!xs.isEmpty) := fun H1 e Q q =>
  h H1 e _ fun H2 e2 => ⟨!xs.isEmpty, Or.inl ⟨xs, sq_of ((e.trans e2) l _ hl), rfl⟩, q H2 e2⟩
theorem ok_is_formula {f f1 f2 : Addr} {fd fd1 fd2 : FuncData} (F : Fun K "is_formula" "is_formula" s_is_formula f fd) (T : Txt P w K mg SZ SY) (c__is_piece : Cal P w K mg base "_is_piece" f1 fd1 ["value"] 2 (sp_leaf pieceB)) (c_parts_of : Cal P w K mg base "parts_of" f2 fd2 ["told"] 1 sp_parts_of) :
    FnOk P w K mg base CX0 3 f fd ["value"] (sp_form fOk) := by
  refine F.ok sc_is_formula (fun vs H Q E h => ?_) (fun cdv A outer s H vs Q E hr h => ?_)
  · obtain ⟨v, d, rfl, _⟩ := h
    rfl
  · obtain ⟨v, d, rfl, hd, fd, hz, k⟩ := h
    refine ⟨_, (pss_cons (ps_set (i := 1) sc_is_formula.nd rfl (Or.inl rfl) (pe_lst (pa_cons (pv 0) pa_nil))) (pss_cons (ps_while PassesOwn.never (pt_truth (pv 1) (fun _ => rfl)) (pss_cons (ps_set (i := 2) sc_is_formula.nd rfl (Or.inl rfl) (pe_bm0 PySem.F.plainAttrs_list PySem.F.slot_list_pop PySem.F.type_list_pop mt_pop (pv 1))) (pss_cons (ps_if (pt_not (pt_val (pe_call c__is_piece.ok (hr.mono (by decide)) (by rfl) c__is_piece.mgx c__is_piece.kp c__is_piece.bd .nil pass0 (pa_cons (pv 2) pa_nil)))) (pss_one (ps_ret pe_bl)) pss_nil) (pss_one (ps_expr (pe_bm PySem.F.plainAttrs_list PySem.F.slot_list_extend PySem.F.type_list_extend (SX.mt_extT (K := K) rfl) (pv 1) (pa_cons (pe_call c_parts_of.ok (hr.mono (by decide)) (by rfl) c_parts_of.mgx c_parts_of.kp c_parts_of.bd .nil pass0 (pa_cons (pv 2) pa_nil)) pa_nil))))))) (pss_one (ps_ret pe_bl)))), ?_⟩
    refine q_asgL (el_lst (ea_cons (ev_var rfl) ea_nil) (by show 1 ≤ 100000; decide)) fun wa H1 hw e1 h1 => ?_
    refine q_while (fun m σ' H' => ∃ (ys : List V) (ds : List PyData) (y0 : Option V), σ' = [some v, some (.ref wa), y0] ∧ Ex H H' ∧ H' wa = some (.lst ys) ∧ DqAll H ys ds ∧ ds.all fine = true ∧ ds.all fOk = fOk d ∧ m = nods ds ∧ m ≤ 3000) (nods [d])
      ⟨[v], [d], none, rfl, e1, h1, .cons hd .nil, by simp [fd], by simp, rfl, by simp [nods]; omega⟩ ?_
    rintro m σ' H' ⟨ys, ds, y0, rfl, e0, hwa, hys, hf, hal, rfl, hm⟩
    refine ⟨_, et_full rfl (ev_var rfl) hwa, fun hb H3 e3 => ?_, fun hb H3 e3 => ?_⟩
    · have hys0 : ys ≠ [] := fun z => by rw [z] at hb; cases hb
      obtain ⟨ys', y, ds', x, rfl, rfl, k1, k2⟩ := hys.last hys0
      rw [List.all_append, Bool.and_eq_true] at hf
      have fx : fine x = true := by simpa using hf.2
      rw [List.all_append] at hal
      have hal' : (ds'.all fOk && fOk x) = fOk d := by simpa using hal
      have hnm : nods (ds' ++ [x]) = nods ds' + nod x := by rw [nods_app]; simp [nods]
      refine ⟨fun σ2 H4 => ∃ m', m' < nods (ds' ++ [x]) ∧ ∃ (ys : List V) (ds : List PyData) (y0 : Option V), σ2 = [some v, some (.ref wa), y0] ∧ Ex H H4 ∧ H4 wa = some (.lst ys) ∧ DqAll H ys ds ∧ ds.all fine = true ∧ ds.all fOk = fOk d ∧ m' = nods ds ∧ m' ≤ 3000, fun _ _ z => z, ?_⟩
      refine q_pop (e3 wa _ hwa) (ev_var rfl) fun H4 e4 => ?_
      have x4 : Ex H (upd H4 wa (.lst ys')) := ((e0.trans e3).trans e4).mut hw
      refine q_when (et_not (et_B (ev_call (ea_cons (ev_var rfl) ea_nil) (spv_leaf (k2.mono x4) fx)))) (fun hb2 H5 e5 => ?_) (fun hb2 H5 e5 => ?_)
      · have hp : pieceB x = false := by simpa using hb2
        rw [fOk_no hp, Bool.and_false] at hal'
        rw [← hal'] at k
        exact s_ret ev_c fun H6 e6 => k H6 ((x4.trans e5).trans e6)
      · have hp : pieceB x = true := by simpa using hb2
        obtain ⟨a, wd, xs, r, rfl, rfl, ha, hk⟩ := wordy_of k2 (piece_wordy hp)
        have w5 : H5 wa = some (.lst ys') := e5 wa _ upd_same
        have l1 := nods_len ds'
        have l2 := nods_len r
        have l3 := prt_len wd xs
        have l4 := nods_prt wd r
        have l5 := nod_tupW wd r
        have l6 := hk.len
        have l7 := k1.len
        refine s_ext w5 (ev_var rfl) (eu_call (ea_cons (ev_var rfl) ea_nil) (spu_parts_of ((x4.trans e5) a _ ha))) (by omega) fun H6 e6 => ?_
        refine ⟨nods (ds' ++ prt wd r), by rw [nods_app]; omega, ys' ++ prt wd xs, ds' ++ prt wd r, some (.ref a), rfl, ((x4.trans e5).trans e6).mut hw, upd_same, k1.app (dq_prt hk), ?_, ?_, rfl, by rw [nods_app]; omega⟩
        · rw [List.all_append, hf.1, fine_prt (fine_at fx).2]; rfl
        · rw [List.all_append, ← fOk_piece hp, hal']
    · have hys0 : ys = [] := by cases ys with | nil => rfl | cons _ _ => cases hb
      subst hys0
      cases hys
      have hal' : true = fOk d := hal
      rw [← hal'] at k
      exact s_ret ev_c fun H4 e4 => k H4 ((e0.trans e3).trans e4)
theorem sOk_le {x y : PyData} : sOk (.tuple [.str "le", x, y]) = (fOk x && fOk y) := by rw [sOk_tup]; show (true && ([x, y].all fOk)) = _; simp
theorem sOk_other {wd : Str} {r : List PyData} (h : tosB (.tuple (.str wd :: r)) = true) (hw : wd ≠ "le") : sOk (.tuple (.str wd :: r)) = (prt wd r).all sOk := by
  have h' : headS (.str wd :: r) = true := h
  rw [sOk_tup, prt_S h', h']
  have : isLe (.str wd :: r) = false := decide_eq_false hw
  rw [this]
  rfl
theorem ok_is_saying {f f1 f2 f3 : Addr} {fd fd1 fd2 fd3 : FuncData} (F : Fun K "is_saying" "is_saying" s_is_saying f fd) (T : Txt P w K mg SZ SY) (c__is_tuple_of_saying : Cal P w K mg base "_is_tuple_of_saying" f1 fd1 ["value"] 1 (sp_leaf tosB)) (c_parts_of : Cal P w K mg base "parts_of" f2 fd2 ["told"] 1 sp_parts_of) (c_is_formula : Cal P w K mg base "is_formula" f3 fd3 ["value"] 3 (sp_form fOk)) :
    FnOk P w K mg base CX0 4 f fd ["value"] (sp_form sOk) := by
  refine F.ok sc_is_saying (fun vs H Q E h => ?_) (fun cdv A outer s H vs Q E hr h => ?_)
  · obtain ⟨v, d, rfl, _⟩ := h
    rfl
  · obtain ⟨v, d, rfl, hd, fd, hz, k⟩ := h
    refine ⟨_, (pss_cons (ps_set (i := 1) sc_is_saying.nd rfl (Or.inl rfl) (pe_lst (pa_cons (pv 0) pa_nil))) (pss_cons (ps_while PassesOwn.never (pt_truth (pv 1) (fun _ => rfl)) (pss_cons (ps_set (i := 2) sc_is_saying.nd rfl (Or.inl rfl) (pe_bm0 PySem.F.plainAttrs_list PySem.F.slot_list_pop PySem.F.type_list_pop mt_pop (pv 1))) (pss_cons (ps_if (pt_not (pt_val (pe_call c__is_tuple_of_saying.ok (hr.mono (by decide)) (by rfl) c__is_tuple_of_saying.mgx c__is_tuple_of_saying.kp c__is_tuple_of_saying.bd .nil pass0 (pa_cons (pv 2) pa_nil)))) (pss_one (ps_ret pe_bl)) pss_nil) (pss_one (ps_if (pt_cmpR op_ne (pe_ix (ixT (K := K) rfl) (pv 2) pe_int (fun _ _ => rfl)) pe_str (nomark _)) (pss_one (ps_expr (pe_bm PySem.F.plainAttrs_list PySem.F.slot_list_extend PySem.F.type_list_extend (SX.mt_extT (K := K) rfl) (pv 1) (pa_cons (pe_call c_parts_of.ok (hr.mono (by decide)) (by rfl) c_parts_of.mgx c_parts_of.kp c_parts_of.bd .nil pass0 (pa_cons (pv 2) pa_nil)) pa_nil)))) (pss_one (ps_if (PW.pt (pw_or (pt_not (pt_val (pe_call c_is_formula.ok (hr.mono (by decide)) (by rfl) c_is_formula.mgx c_is_formula.kp c_is_formula.bd .nil pass0 (pa_cons (pe_ix (ixT (K := K) rfl) (pv 2) pe_int (fun _ _ => rfl)) pa_nil)))) (pw_or1 (pt_not (pt_val (pe_call c_is_formula.ok (hr.mono (by decide)) (by rfl) c_is_formula.mgx c_is_formula.kp c_is_formula.bd .nil pass0 (pa_cons (pe_ix (ixT (K := K) rfl) (pv 2) pe_int (fun _ _ => rfl)) pa_nil))))))) (pss_one (ps_ret pe_bl)) pss_nil))))))) (pss_one (ps_ret pe_bl)))), ?_⟩
    refine q_asgL (el_lst (ea_cons (ev_var rfl) ea_nil) (by show 1 ≤ 100000; decide)) fun wa H1 hw e1 h1 => ?_
    refine q_while (fun m σ' H' => ∃ (ys : List V) (ds : List PyData) (y0 : Option V), σ' = [some v, some (.ref wa), y0] ∧ Ex H H' ∧ H' wa = some (.lst ys) ∧ DqAll H ys ds ∧ ds.all fine = true ∧ ds.all sOk = sOk d ∧ m = nods ds ∧ m ≤ 3000) (nods [d])
      ⟨[v], [d], none, rfl, e1, h1, .cons hd .nil, by simp [fd], by simp, rfl, by simp [nods]; omega⟩ ?_
    rintro m σ' H' ⟨ys, ds, y0, rfl, e0, hwa, hys, hf, hal, rfl, hm⟩
    refine ⟨_, et_full rfl (ev_var rfl) hwa, fun hb H3 e3 => ?_, fun hb H3 e3 => ?_⟩
    · have hys0 : ys ≠ [] := fun z => by rw [z] at hb; cases hb
      obtain ⟨ys', y, ds', x, rfl, rfl, k1, k2⟩ := hys.last hys0
      rw [List.all_append, Bool.and_eq_true] at hf
      have fx : fine x = true := by simpa using hf.2
      rw [List.all_append] at hal
      have hal' : (ds'.all sOk && sOk x) = sOk d := by simpa using hal
      have hnm : nods (ds' ++ [x]) = nods ds' + nod x := by rw [nods_app]; simp [nods]
      refine ⟨fun σ2 H4 => ∃ m', m' < nods (ds' ++ [x]) ∧ ∃ (ys : List V) (ds : List PyData) (y0 : Option V), σ2 = [some v, some (.ref wa), y0] ∧ Ex H H4 ∧ H4 wa = some (.lst ys) ∧ DqAll H ys ds ∧ ds.all fine = true ∧ ds.all sOk = sOk d ∧ m' = nods ds ∧ m' ≤ 3000, fun _ _ z => z, ?_⟩
      refine q_pop (e3 wa _ hwa) (ev_var rfl) fun H4 e4 => ?_
      have x4 : Ex H (upd H4 wa (.lst ys')) := ((e0.trans e3).trans e4).mut hw
      refine q_when (et_not (et_B (ev_call (ea_cons (ev_var rfl) ea_nil) (spv_leaf (k2.mono x4) fx)))) (fun hb2 H5 e5 => ?_) (fun hb2 H5 e5 => ?_)
      · have hp : tosB x = false := by simpa using hb2
        rw [sOk_no hp, Bool.and_false] at hal'
        rw [← hal'] at k
        exact s_ret ev_c fun H6 e6 => k H6 ((x4.trans e5).trans e6)
      · have hp : tosB x = true := by simpa using hb2
        obtain ⟨a, wd, xs, r, rfl, rfl, ha, hk⟩ := wordy_of k2 (tos_wordy hp)
        have w5 : H5 wa = some (.lst ys') := e5 wa _ upd_same
        have l1 := nods_len ds'
        have l2 := nods_len r
        have l3 := prt_len wd xs
        have l4 := nods_prt wd r
        have l5 := nod_tupW wd r
        have l6 := hk.len
        have l7 := k1.len
        refine s_if (b := !decide (wd = "le")) (et_is (et_test (ev_op (ev_at0 (K := K) (ev_var rfl) ((x4.trans e5) a _ ha)) ev_c (rv_ne rfl))) (by rw [dec_str])) (fun hb3 H6 e6 => ?_) (fun hb3 H6 e6 => ?_)
        · have hne : wd ≠ "le" := by simpa using hb3
          refine s_ext (e6 wa _ w5) (ev_var rfl) (eu_call (ea_cons (ev_var rfl) ea_nil) (spu_parts_of (((x4.trans e5).trans e6) a _ ha))) (by omega) fun H7 e7 => ?_
          refine ⟨nods (ds' ++ prt wd r), by rw [nods_app]; omega, ys' ++ prt wd xs, ds' ++ prt wd r, some (.ref a), rfl, (((x4.trans e5).trans e6).trans e7).mut hw, upd_same, k1.app (dq_prt hk), ?_, ?_, rfl, by rw [nods_app]; omega⟩
          · rw [List.all_append, hf.1, fine_prt (fine_at fx).2]; rfl
          · rw [List.all_append, ← sOk_other hp hne, hal']
        · have hwd : wd = "le" := by simpa using hb3
          subst hwd
          have hs : szS "le" = some (r.length + 1) := of_decide_eq_true (show decide (szS "le" = some (r.length + 1)) = true from hp)
          have hlen : r.length = 2 := by have : some 3 = some (r.length + 1) := hs; have := Option.some.inj this; omega
          obtain ⟨v1, v2, x1, x2, rfl, rfl, q1, q2⟩ := hk.two hlen
          rw [sOk_le] at hal'
          have fx2 := (fine_at fx).2
          have g1 : fine x1 = true := by rw [List.all_cons, Bool.and_eq_true] at fx2; exact fx2.1
          have g2 : fine x2 = true := by rw [List.all_cons, List.all_cons, Bool.and_eq_true, Bool.and_eq_true] at fx2; exact fx2.2.1
          have n12 : nods [x1, x2] = nod x1 + (nod x2 + 0) := by simp [nods]
          have hb12 : nod x1 ≤ 3000 ∧ nod x2 ≤ 3000 := by constructor <;> omega
          have x6 := (x4.trans e5).trans e6
          refine s_if (b := !fOk x1 || !fOk x2) (et_or (et_not (et_B (ev_call (ea_cons (ev_at1 (K := K) (ev_var rfl) (x6 a _ ha)) ea_nil) (spv_form (q1.mono x6) g1 hb12.1)))) fun _ => et_not (et_B (ev_call (ea_cons (ev_at2 (K := K) (ev_var rfl) (x6 a _ ha)) ea_nil) (spv_form (q2.mono x6) g2 hb12.2)))) (fun hb4 H7 e7 => ?_) (fun hb4 H7 e7 => ?_)
          · have : (fOk x1 && fOk x2) = false := by revert hb4; cases fOk x1 <;> cases fOk x2 <;> simp
            rw [this, Bool.and_false] at hal'
            rw [← hal'] at k
            exact s_ret ev_c fun H8 e8 => k H8 ((x6.trans e7).trans e8)
          · have : (fOk x1 && fOk x2) = true := by revert hb4; cases fOk x1 <;> cases fOk x2 <;> simp
            rw [this, Bool.and_true] at hal'
            exact ⟨nods ds', by omega, ys', ds', some (.ref a), rfl, x6.trans e7, (e6.trans e7) wa _ w5, k1, hf.1, hal', rfl, by omega⟩
    · have hys0 : ys = [] := by cases ys with | nil => rfl | cons _ _ => cases hb
      subst hys0
      cases hys
      have hal' : true = sOk d := hal
      rw [← hal'] at k
      exact s_ret ev_c fun H4 e4 => k H4 ((e0.trans e3).trans e4)
end
end K20
end
section
set_option maxHeartbeats 4000000
namespace K20
open PySem L2 Evl G OQ
/-! ### all pieces -/
mutual
noncomputable def pcsD : PyData → List PyData
  | .tuple ds => .tuple ds :: ((pcsDs ds).drop (skipF ds)).flatten
  | d => [d]
noncomputable def pcsDs : List PyData → List (List PyData)
  | [] => []
  | d :: ds => pcsD d :: pcsDs ds
end
theorem pcsDs_eq : ∀ ds : List PyData, pcsDs ds = ds.map pcsD
  | [] => rfl
  | d :: ds => by rw [pcsDs, pcsDs_eq ds] <;> rfl
theorem pcs_tup (ds : List PyData) : pcsD (.tuple ds) = .tuple ds :: (partsF ds).flatMap pcsD := by
  rw [pcsD, pcsDs_eq, ← List.map_drop]
  rfl
theorem pcs_piece {w : Str} {r : List PyData} (h : pieceB (.tuple (.str w :: r)) = true) : pcsD (.tuple (.str w :: r)) = .tuple (.str w :: r) :: (prt w r).flatMap pcsD := by
  have h' : headF (.str w :: r) = true := h
  rw [pcs_tup, prt_F h']
noncomputable def notLS : PyData → Bool
  | .tuple ds => !isLS ds
  | _ => true
theorem fOk_cases {d : PyData} (h : fOk d = true) : ∃ w r, d = .tuple (.str w :: r) ∧ pieceB d = true ∧ (prt w r).all fOk = true := by
  cases hp : pieceB d with
  | false => rw [fOk_no hp] at h; cases h
  | true =>
    have hw := piece_wordy hp
    cases d with
    | tuple ds =>
      cases ds with
      | nil => cases hp
      | cons d0 r => cases d0 with
        | str x => exact ⟨x, r, rfl, rfl, by rw [← fOk_piece hp]; exact h⟩
        | _ => cases hw
    | _ => cases hp
theorem pcs_facts : ∀ (n : Nat) (d : PyData), nod d ≤ n → fOk d = true → (pcsD d).length ≤ nod d ∧ (∀ u ∈ pcsD d, wordy u = true) ∧ (pcsD d).all notLS = sgl d := by
  intro n
  induction n with
  | zero => intro d hd _; have := nod_pos d; omega
  | succ n ih =>
    intro d hd h
    obtain ⟨w, r, rfl, hp, hal⟩ := fOk_cases h
    have hz := nod_tupW w r
    have hr := nods_prt w r
    have key : ∀ l : List PyData, nods l ≤ n → l.all fOk = true → (l.flatMap pcsD).length ≤ nods l ∧ (∀ u ∈ l.flatMap pcsD, wordy u = true) ∧ (l.flatMap pcsD).all notLS = l.all sgl := by
      intro l
      induction l with
      | nil => intro _ _; exact ⟨Nat.le_refl _, by simp, rfl⟩
      | cons x l ihl =>
        intro hn ha
        rw [List.all_cons, Bool.and_eq_true] at ha
        have hnx : nods (x :: l) = nod x + nods l := by simp [nods]
        obtain ⟨a1, b1, c1⟩ := ih x (by omega) ha.1
        obtain ⟨a2, b2, c2⟩ := ihl (by omega) ha.2
        rw [List.flatMap_cons]
        refine ⟨by rw [List.length_append]; omega, fun u hu => ?_, by rw [List.all_append, c1, c2, List.all_cons]⟩
        rcases List.mem_append.mp hu with q | q
        · exact b1 u q
        · exact b2 u q
    obtain ⟨a, b, c⟩ := key (prt w r) (by omega) hal
    rw [pcs_piece hp]
    refine ⟨by rw [List.length_cons]; omega, fun u hu => ?_, by rw [List.all_cons, c, sgl_piece hp]; rfl⟩
    rcases List.mem_cons.mp hu with q | q
    · subst q; rfl
    · exact b u q
structure Wk (d : PyData) (fs ws : List PyData) : Prop where
  all : fs ++ ws.reverse.flatMap pcsD = pcsD d
  ok : ws.all fOk = true
theorem Wk.next {d : PyData} {w : Str} {r : List PyData} {fs ws : List PyData} (k : Wk d fs (ws ++ [.tuple (.str w :: r)])) : Wk d (fs ++ [.tuple (.str w :: r)]) (ws ++ (prt w r).reverse) := by
  have h := k.ok
  rw [List.all_append, Bool.and_eq_true] at h
  have hu : fOk (.tuple (.str w :: r)) = true := by simpa using h.2
  obtain ⟨w', r', e, hp, hal⟩ := fOk_cases hu
  cases e
  refine ⟨?_, ?_⟩
  · rw [← k.all]
    simp only [List.reverse_append, List.reverse_reverse, List.flatMap_append, List.reverse_cons, List.reverse_nil, List.nil_append, List.flatMap_cons, List.flatMap_nil, List.append_nil]
    rw [pcs_piece hp]
    simp
  · rw [List.all_append, h.1, List.all_reverse, hal]; rfl
noncomputable def SpQs (sp : Sp) (vs : List V) (H : Hp) (ds : List PyData) : Prop := ∀ H1, Ex H H1 → ∀ Q : VK, (∀ p xs H2, H1 p = none → Ex H1 H2 → H2 p = some (.lst xs) → DqAll H2 xs ds → Q (.ref p) H2) → ∀ E : XK, sp vs H1 Q E
noncomputable def sp_all_pieces : Sp := fun vs H Q _ => ∃ v d, vs = [v] ∧ Dq H v d ∧ fOk d = true ∧ nod d ≤ 3000 ∧ ∀ p xs H2, H p = none → Ex H H2 → H2 p = some (.lst xs) → DqAll H2 xs (pcsD d) → Q (.ref p) H2
theorem spq_all_pieces {v : V} {d : PyData} {H : Hp} (h : Dq H v d) (o : fOk d = true) (z : nod d ≤ 3000) : SpQs sp_all_pieces ([v] ++ []) H (pcsD d) := fun H1 e Q q E => ⟨v, d, rfl, h.mono e, o, z, q⟩
section
variable {P : Program} {w : World} {K : PySem.W.Frag} {mg : Str → Option Value} {base : Heap} {SZ SY : Addr} {σ : L2.St} {H : Hp} {ta tb te tl : TE} {tt : TT} {j : Nat} {vs : List Nat}
theorem lq_call {sp : Sp} {dvs vs : List V} {ds : List PyData} {E : XK} {ta : TA} (h : EvA ta σ H vs) (hs : SpQs sp (vs ++ dvs) H ds) : EvLq (tCall sp dvs E ta) σ H ds := fun H1 e Q q =>
  h H1 e _ fun H2 e2 => hs H2 (e.trans e2) Q (fun p xs H3 hp e3 h3 k => q p xs H3 (fresh_back e2 hp) (e2.trans e3) h3 k) _
theorem given_filterQ (ds : List PyData) (f : PyData → Bool) (g : PyData → V) : given ds.length (fun i => f (ds.getD i .none)) (fun i => g (ds.getD i .none)) = (ds.filter f).map g := by
  have e : ds = (List.range ds.length).map (fun i => ds.getD i .none) := by
    apply List.ext_getElem
    · simp
    · intro k h1 h2
      simp [List.getD_eq_getElem?_getD, List.getElem?_eq_getElem h1]
  unfold given
  conv => rhs; rw [e]
  rw [List.filter_map, List.map_map]
  rfl
theorem getD_q {ds : List PyData} {k : Nat} {r d : PyData} (h : ds[k]? = some r) : ds.getD k d = r := by rw [List.getD_eq_getElem?_getD, h] <;> rfl
/-- [e for x in a new list of data if ..] -/
theorem el_lcQ (f : PyData → Bool) (g : PyData → V) {ds : List PyData} (h : EvLq tl σ H ds) (hz : ds.length ≤ 40000) (hw : ∀ x, wipe ((wipe σ vs).set j (some x)) vs = wipe σ vs)
    (ht : ∀ (x : V) (t : PyData) H1, Ex H H1 → Dq H1 x t → t ∈ ds → EvT tt ((wipe σ vs).set j (some x)) H1 (f t)) (he : ∀ (x : V) (t : PyData) H1, Ex H H1 → Dq H1 x t → t ∈ ds → f t = true → Ev te ((wipe σ vs).set j (some x)) H1 (g t)) :
    EvL (tLc (iList K tl) (gName j) tt te vs) σ H ((ds.filter f).map g) := fun H0 e Q q => h H0 e _ fun a xs H1 ha e1 hx k => ⟨a, rfl, ⟨xs, sq_of hx⟩, fun Dl hD => by
  have hl : xs.length = ds.length := k.len
  refine lc_list (xs := xs) (Cw H1 (fun i => f (ds.getD i .none)) (fun i => g (ds.getD i .none)) Dl) ⟨hD, Ex.new hD, upd_same⟩ (fun i H' _ p => sq_of (p.2.1 a _ hx)) (fun i x H' hi p => ?_) (fun H' p => ?_)
  · obtain ⟨t, hti, hxt⟩ := k.get hi
    have hm := List.mem_of_getElem? hti
    refine ⟨hw x, cw_turn p (by have := (List.getElem?_eq_some_iff.mp hi).1; omega) ?_ (fun hf => ?_)⟩
    · rw [getD_q hti]; exact ht x t H1 (e.trans e1) hxt hm
    · rw [getD_q hti] at hf ⊢; exact he x t H1 (e.trans e1) hxt hm hf
  · rw [hl] at p
    refine q Dl H' (fresh_back e1 p.1) (e1.trans p.2.1) ?_
    rw [p.2.2, given_filterQ]⟩
theorem filter_yes {α : Type} (l : List α) : l.filter (fun _ => true) = l := List.filter_eq_self.mpr fun _ _ => rfl
theorem el_eq {xs ys : List V} (h : EvL te σ H xs) (e : xs = ys) : EvL te σ H ys := e ▸ h
/-- all([e for l in a list]) -/
theorem ev_allB {α : Type} (f : α → Bool) {ts : List α} (h : EvL te σ H (ts.map fun t => V.bl (f t))) : Ev (tCB (rAll K) (tCons te tNil)) σ H (.bl (ts.all f)) := ev_cbL h fun p H1 e h1 => by
  have := rc_all (K := K) (H := H1) (p := p) (bs := ts.map f) (sq_of (by rw [List.map_map]; exact h1))
  rw [List.all_map] at this
  exact this
theorem ok_all_pieces {f f1 : Addr} {fd fd1 : FuncData} (F : Fun K "all_pieces" "all_pieces" s_all_pieces f fd) (T : Txt P w K mg SZ SY) (c_parts_of : Cal P w K mg base "parts_of" f1 fd1 ["told"] 1 sp_parts_of) : FnOk P w K mg base CX0 2 f fd ["told"] sp_all_pieces := by
  refine F.ok sc_all_pieces (fun vs H Q E h => ?_) (fun cdv A outer s H vs Q E hr h => ?_)
  · obtain ⟨v, d, rfl, _⟩ := h
    rfl
  · obtain ⟨v, d, rfl, hd, ok, hz, k⟩ := h
    refine ⟨_, (pss_cons (ps_set (i := 1) sc_all_pieces.nd rfl (Or.inl rfl) (pe_lst pa_nil)) (pss_cons (ps_set (i := 2) sc_all_pieces.nd rfl (Or.inl rfl) (pe_lst (pa_cons (pv 0) pa_nil))) (pss_cons (ps_while PassesOwn.never (pt_truth (pv 2) (fun _ => rfl)) (pss_cons (ps_set (i := 3) sc_all_pieces.nd rfl (Or.inl rfl) (pe_bm0 PySem.F.plainAttrs_list PySem.F.slot_list_pop PySem.F.type_list_pop mt_pop (pv 2))) (pss_cons (ps_expr (pe_bm PySem.F.plainAttrs_list PySem.F.slot_list_append PySem.F.type_list_append mt_append (pv 1) (pa_cons (pv 3) pa_nil))) (pss_one (ps_expr (pe_bm PySem.F.plainAttrs_list PySem.F.slot_list_extend PySem.F.type_list_extend (SX.mt_extT (K := K) rfl) (pv 2) (pa_cons (SX.pe_revT (K := K) rfl (pe_call c_parts_of.ok (hr.mono (by decide)) (by rfl) c_parts_of.mgx c_parts_of.kp c_parts_of.bd .nil pass0 (pa_cons (pv 3) pa_nil))) pa_nil))))))) (pss_one (ps_ret (pv 1)))))), ?_⟩
    obtain ⟨plen, pwd, _⟩ := pcs_facts _ d (Nat.le_refl _) ok
    refine q_asgL (el_lst ea_nil (by show 0 ≤ 100000; decide)) fun fo H1 hf e1 h1 => ?_
    refine q_asgL (el_lst (ea_cons (ev_var rfl) ea_nil) (by show 1 ≤ 100000; decide)) fun wa H2 hw e2 h2 => ?_
    have hne : fo ≠ wa := fun z => by subst z; rw [h1] at hw; cases hw
    have hfH : H fo = none := hf
    have hwH : H wa = none := fresh_back e1 hw
    refine q_while (fun m σ' H' => ∃ (fs ws : List PyData) (xs ys : List V) (y0 : Option V), σ' = [some v, some (.ref fo), some (.ref wa), y0] ∧ Ex H H' ∧ H' fo = some (.lst xs) ∧ H' wa = some (.lst ys) ∧ DqAll H xs fs ∧ DqAll H ys ws ∧ Wk d fs ws ∧ m = nods ws ∧ m ≤ 3000) (nods [d])
      ⟨[], [d], [], [v], none, rfl, e1.trans e2, e2 fo _ h1, h2, .nil, .cons hd .nil, ⟨by simp, by simp [ok]⟩, rfl, by simp [nods]; omega⟩ ?_
    rintro m σ' H' ⟨fs, ws, xs, ys, y0, rfl, e0, hfo, hwa, hxs, hys, wk, rfl, hm⟩
    refine ⟨_, et_full rfl (ev_var rfl) hwa, fun hb H3 e3 => ?_, fun hb H3 e3 => ?_⟩
    · have hys0 : ys ≠ [] := fun z => by rw [z] at hb; cases hb
      obtain ⟨ys', y, ws', u, rfl, rfl, k1, k2⟩ := hys.last hys0
      have hokw := wk.ok
      rw [List.all_append, Bool.and_eq_true] at hokw
      have hu : fOk u = true := by simpa using hokw.2
      obtain ⟨wd, r, rfl, hp, hal⟩ := fOk_cases hu
      obtain ⟨a, wd', xs', r', e, rfl, ha, hk⟩ := wordy_of k2 rfl
      cases e
      have hnm : nods (ws' ++ [.tuple (.str wd :: r)]) = nods ws' + nod (.tuple (.str wd :: r)) := by rw [nods_app]; simp [nods]
      have hfl : xs.length < 4000 := by
        have := congrArg List.length wk.all
        rw [List.length_append] at this
        rw [hxs.len]; omega
      have l1 := nods_len ws'
      have l2 := nods_len r
      have l3 := prt_len wd xs'
      have l4 := nods_prt wd r
      have l5 := nod_tupW wd r
      have l6 := hk.len
      have l7 := k1.len
      refine ⟨fun σ2 H4 => ∃ m', m' < nods (ws' ++ [.tuple (.str wd :: r)]) ∧ ∃ (fs ws : List PyData) (xs ys : List V) (y0 : Option V), σ2 = [some v, some (.ref fo), some (.ref wa), y0] ∧ Ex H H4 ∧ H4 fo = some (.lst xs) ∧ H4 wa = some (.lst ys) ∧ DqAll H xs fs ∧ DqAll H ys ws ∧ Wk d fs ws ∧ m' = nods ws ∧ m' ≤ 3000, fun _ _ z => z, ?_⟩
      refine q_pop (e3 wa _ hwa) (ev_var rfl) fun H4 e4 => ?_
      have x4 : Ex H (upd H4 wa (.lst ys')) := ((e0.trans e3).trans e4).mut hwH
      have f4 : (upd H4 wa (.lst ys')) fo = some (.lst xs) := by rw [upd_ne hne]; exact e4 fo _ (e3 fo _ hfo)
      refine q_app f4 (ev_var rfl) (ev_var rfl) (by omega) fun H5 e5 => ?_
      have x5 : Ex H (upd H5 fo (.lst (xs ++ [.ref a]))) := (x4.trans e5).mut hfH
      have w5 : (upd H5 fo (.lst (xs ++ [.ref a]))) wa = some (.lst ys') := by rw [upd_ne (Ne.symm hne)]; exact e5 wa _ upd_same
      refine s_ext w5 (ev_var rfl) (eu_revT (eu_call (ea_cons (ev_var rfl) ea_nil) (spu_parts_of (x5 a _ ha)))) (by rw [List.length_reverse]; omega) fun H6 e6 => ?_
      refine ⟨nods (ws' ++ (prt wd r).reverse), by rw [nods_app, nods_rev]; omega, fs ++ [.tuple (.str wd :: r)], ws' ++ (prt wd r).reverse, xs ++ [.ref a], ys' ++ (prt wd xs').reverse, some (.ref a), rfl, (x5.trans e6).mut hwH, ?_, upd_same, hxs.app (.cons k2 .nil), k1.app (dq_prt hk).rev, wk.next, rfl, by rw [nods_app, nods_rev]; omega⟩
      rw [upd_ne hne]
      exact e6 fo _ upd_same
    · have hys0 : ys = [] := by cases ys with | nil => rfl | cons _ _ => cases hb
      subst hys0
      cases hys
      have hal := wk.all
      simp at hal
      subst hal
      refine s_ret (ev_var rfl) fun H4 e4 => ?_
      exact k fo xs H4 hfH ((e0.trans e3).trans e4) (e4 fo _ (e3 fo _ hfo)) (hxs.mono ((e0.trans e3).trans e4))
theorem notLS_word {w : Str} {r : List PyData} : notLS (.tuple (.str w :: r)) = !decide (w ∈ (["late", "soon"] : List Str)) := rfl
theorem ev_ninW {tA : TA} {x : Str} (ws : List Str) (h : Ev ta σ H (.str x)) (ha : EvA tA σ H (ws.map V.str)) (hz : ws.length ≤ 100) : Ev (tOp (rIn K true) ta (tTup tA)) σ H (.bl (!decide (x ∈ ws))) := by
  rw [← inV_str]
  exact ev_niU h (eu_tup ha (by rw [List.length_map]; omega)) rfl (by rw [List.all_map]; exact List.all_eq_true.mpr fun _ _ => rfl)
theorem ok_is_chain {f f1 f2 : Addr} {fd fd1 fd2 : FuncData} (F : Fun K "is_chain" "is_chain" s_is_chain f fd) (T : Txt P w K mg SZ SY) (c_is_formula : Cal P w K mg base "is_formula" f1 fd1 ["value"] 3 (sp_form fOk)) (c_all_pieces : Cal P w K mg base "all_pieces" f2 fd2 ["told"] 2 sp_all_pieces) : FnOk P w K mg base CX0 4 f fd ["value"] (sp_form cOk) := by
  refine F.ok sc_is_chain (fun vs H Q E h => ?_) (fun cdv A outer s H vs Q E hr h => ?_)
  · obtain ⟨v, d, rfl, _⟩ := h
    rfl
  · obtain ⟨v, d, rfl, hd, fd, hz, k⟩ := h
    refine ⟨_, (pss_one (ps_ret (pe_and (pe_call c_is_formula.ok (hr.mono (by decide)) (by rfl) c_is_formula.mgx c_is_formula.kp c_is_formula.bd .nil pass0 (pa_cons (pv 0) pa_nil)) (pe_one (pe_callB (allL (K := K) rfl rfl) (by rfl) T.b_all (by decide +kernel) (pa_cons (pe_lc (own := [("piece", 1)]) (g := (gName 1)) (by rfl) sc_is_chain.nd (piL (K := K) rfl (pe_call c_all_pieces.ok (hr.mono (by decide)) (by rfl) c_all_pieces.mgx c_all_pieces.kp c_all_pieces.bd .nil pass0 (pa_cons (pv 0) pa_nil))) (blkOk_by (own := [("piece", 1)]) (N := ["value", "piece"]) (sc := defScope s_is_chain) (by decide +kernel)) (fun _ _ _ _ _ => (pg_name (i := 1) sc_is_chain.nd rfl (Or.inl rfl))) (fun _ _ _ _ _ => pts_nil) (fun _ _ _ _ _ => (pe_cmpR (niS (K := K) rfl) (pe_ix (ixT (K := K) rfl) (pv 1) pe_int (fun _ _ => rfl)) (pe_tup (pa_cons pe_str (pa_cons pe_str pa_nil))) (by rfl)))) pa_nil)))))), ?_⟩
    refine s_ret (ev_andV (a := fOk d) (b := sgl d) (ev_call (ea_cons (ev_var rfl) ea_nil) (spv_form hd fd hz)) fun ho => ?_) fun H1 e => k H1 e
    obtain ⟨plen, pwd, pal⟩ := pcs_facts _ d (Nat.le_refl _) ho
    rw [← pal]
    refine ev_allB (K := K) notLS (el_eq (el_lcQ (K := K) (j := 1) (vs := [1]) (fun _ => true) (fun t => V.bl (notLS t)) (lq_call (ea_cons (ev_var (i := 0) (σ := [some v, none]) rfl) ea_nil) (spq_all_pieces hd ho hz)) (by omega) (fun _ => rfl) (fun _ _ _ _ _ _ => lc_yes) fun x t H1 e1 hx ht _ => ?_) (by rw [filter_yes]))
    obtain ⟨a, wd, xs, r, rfl, rfl, ha, hk⟩ := wordy_of hx (pwd t ht)
    rw [notLS_word]
    exact ev_ninW (K := K) ["late", "soon"] (ev_at0 (K := K) (ev_var (i := 1) rfl) ha) (ea_cons ev_c (ea_cons ev_c ea_nil)) (by decide)
end
end K20
end
section
set_option maxHeartbeats 4000000
namespace K20
open PySem L2 Evl G OQ
/-! ### what the law itself reckons -/
mutual
noncomputable def dep : PyData → Nat
  | .list ds => deps ds + 1
  | .tuple ds => deps ds + 1
  | _ => 0
noncomputable def deps : List PyData → Nat
  | [] => 0
  | d :: ds => max (dep d) (deps ds)
end
theorem deps_mem : ∀ {ds : List PyData} {d : PyData}, d ∈ ds → dep d ≤ deps ds
  | e :: ds, d, h => by
    rcases List.mem_cons.mp h with h | h
    · subst h; simp [deps]; omega
    · have := deps_mem h; simp [deps]; omega
theorem deps_le : ∀ {ds : List PyData} {n : Nat}, (∀ d ∈ ds, dep d ≤ n) → deps ds ≤ n
  | [], n, _ => by simp [deps]
  | d :: ds, n, h => by
    have h1 := h d (by simp)
    have h2 : deps ds ≤ n := deps_le fun e he => h e (List.mem_cons_of_mem _ he)
    simp [deps]; omega
theorem dep_tup (ds : List PyData) : dep (.tuple ds) = deps ds + 1 := by rw [dep]
theorem fOk_day {x : PyData} {r : List PyData} : fOk (.tuple (.str "day" :: x :: r)) = (decide (r.length + 2 = 2) && isNmD x) := by
  rw [fOk_tup]
  show ((decide (some 2 = some (r.length + 2)) && isNmD x) && r.all fOk) = _
  cases r with
  | nil => simp
  | cons y r => simp
theorem fOk_num {x : PyData} {r : List PyData} : fOk (.tuple (.str "num" :: x :: r)) = (decide (r.length + 2 = 2) && isIntD x) := by
  rw [fOk_tup]
  show ((decide (some 2 = some (r.length + 2)) && isIntD x) && r.all fOk) = _
  cases r with
  | nil => simp
  | cons y r => simp
theorem fOk_not3 {w : Str} {x : PyData} {r : List PyData} (h1 : w ≠ "day") (h2 : w ≠ "num") (h : r.length + 2 ≠ 3) : fOk (.tuple (.str w :: x :: r)) = false := by
  rw [fOk_tup]
  show ((decide (szW w = some (r.length + 2)) && leafB w x) && _) = _
  have : ¬ szW w = some (r.length + 2) := fun z => by
    rcases szW_some z with ⟨_, q⟩ | ⟨q, _⟩
    · have : w = "day" ∨ w = "num" := by simpa using q
      rcases this with e | e
      · exact h1 e
      · exact h2 e
    · omega
  rw [decide_eq_false this]
  rfl
theorem fOk_on {w : Str} {x y : PyData} (h : w ∈ (["on", "by", "til"] : List Str)) : fOk (.tuple [.str w, x, y]) = (isRlD x && fOk y) := by
  have e : w = "on" ∨ w = "by" ∨ w = "til" := by simpa using h
  rw [fOk_tup]
  rcases e with e | e | e <;> (subst e; show ((true && isRlD x) && [y].all fOk) = _; simp)
theorem fOk_add {x y : PyData} : fOk (.tuple [.str "add", x, y]) = (isIntD x && fOk y) := by
  rw [fOk_tup]
  show ((true && isIntD x) && [y].all fOk) = _
  simp
theorem fOk_rest {w : Str} {x y : PyData} (h1 : w ≠ "day") (h2 : w ≠ "num") (h3 : w ∉ (["on", "by", "til"] : List Str)) (h4 : w ≠ "add") : fOk (.tuple [.str w, x, y]) = (decide (w ∈ (["late", "soon"] : List Str)) && (fOk x && fOk y)) := by
  by_cases h : w ∈ (["late", "soon"] : List Str)
  · rw [decide_eq_true h]
    have e : w = "late" ∨ w = "soon" := by simpa using h
    rw [fOk_tup]
    rcases e with e | e <;> (subst e; show ((true && true) && [x, y].all fOk) = _; simp)
  · rw [decide_eq_false h, fOk_tup]
    show ((decide (szW w = some 3) && leafB w x) && _) = _
    have : ¬ szW w = some 3 := fun z => by
      rcases szW_some z with ⟨q, _⟩ | ⟨_, _, q⟩
      · cases q
      · have e : w = "on" ∨ w = "by" ∨ w = "til" ∨ w = "add" ∨ w = "late" ∨ w = "soon" := by simpa using q
        rcases e with e | e | e | e | e | e
        · exact h3 (by rw [e]; decide)
        · exact h3 (by rw [e]; decide)
        · exact h3 (by rw [e]; decide)
        · exact h4 e
        · exact h (by rw [e]; decide)
        · exact h (by rw [e]; decide)
    rw [decide_eq_false this]
    rfl
theorem sOk_not {x : PyData} {r : List PyData} : sOk (.tuple (.str "not" :: x :: r)) = (decide (r.length + 2 = 2) && sOk x) := by
  rw [sOk_tup]
  show (decide (some 2 = some (r.length + 1 + 1)) && (x :: r).all sOk) = _
  cases r with
  | nil => simp
  | cons y r => simp
theorem sOk_not3 {w : Str} {x : PyData} {r : List PyData} (h1 : w ≠ "not") (h : r.length + 2 ≠ 3) : sOk (.tuple (.str w :: x :: r)) = false := by
  rw [sOk_tup]
  have : headS (.str w :: x :: r) = false := by
    show decide (szS w = some (r.length + 1 + 1)) = false
    refine decide_eq_false fun z => ?_
    rcases szS_some z with e | e | e | e
    · subst e; have : some 3 = some (r.length + 1 + 1) := z; have := Option.some.inj this; omega
    · subst e; have : some 3 = some (r.length + 1 + 1) := z; have := Option.some.inj this; omega
    · subst e; have : some 3 = some (r.length + 1 + 1) := z; have := Option.some.inj this; omega
    · exact h1 e
  rw [this]
  rfl
theorem sOk_rest {w : Str} {x y : PyData} (h1 : w ≠ "not") (h2 : w ≠ "le") : sOk (.tuple [.str w, x, y]) = (decide (w ∈ (["and", "or"] : List Str)) && (sOk x && sOk y)) := by
  by_cases h : w ∈ (["and", "or"] : List Str)
  · rw [decide_eq_true h]
    have e : w = "and" ∨ w = "or" := by simpa using h
    rw [sOk_tup]
    rcases e with e | e <;> (subst e; show (true && [x, y].all sOk) = _; simp)
  · rw [decide_eq_false h, sOk_tup]
    have : headS [.str w, x, y] = false := by
      show decide (szS w = some 3) = false
      refine decide_eq_false fun z => ?_
      rcases szS_some z with e | e | e | e
      · exact h2 e
      · exact h (by rw [e]; decide)
      · exact h (by rw [e]; decide)
      · exact h1 e
    rw [this]
    rfl
structure Me (K : PySem.W.Frag) (mg : Str → Option Value) (x : Str) (f : Addr) (fd : FuncData) (ps : List Str) : Prop where
  mgx : mg x = some (.ref f)
  kp : PySem.W.keepIn K (.ref f) = true
  bd : Binds K fd ps []
noncomputable def wordy2 : PyData → Bool
  | .tuple (.str _ :: _ :: _) => true
  | _ => false
theorem wordy2_of {H : Hp} {v : V} {d : PyData} (hd : Dq H v d) (h : wordy2 d = true) : ∃ a w u xs x ds, d = .tuple (.str w :: x :: ds) ∧ v = .ref a ∧ H a = some (.tup (.str w :: u :: xs)) ∧ Dq H u x ∧ DqAll H xs ds := by
  cases hd with
  | tup a k =>
    cases k with
    | nil => cases h
    | cons q t =>
      cases q with
      | str x =>
        cases t with
        | nil => cases h
        | cons q2 t2 => exact ⟨_, _, _, _, _, _, rfl, rfl, a, q2, t2⟩
      | _ => cases h
  | _ => cases h
theorem fOk_no2 {d : PyData} (h : wordy2 d = false) : fOk d = false := by
  cases d with
  | tuple ds =>
    cases ds with
    | nil => rw [fOk_tup]; rfl
    | cons d0 r => cases d0 with
      | str w => cases r with
        | nil => rw [fOk_tup]; rfl
        | cons _ _ => cases h
      | _ => rw [fOk_tup]; rfl
  | _ => rfl
theorem sOk_no2 {d : PyData} (h : wordy2 d = false) : sOk d = false := by
  cases d with
  | tuple ds =>
    cases ds with
    | nil => rw [sOk_tup]; rfl
    | cons d0 r => cases d0 with
      | str w => cases r with
        | nil =>
          rw [sOk_tup]
          have : headS [.str w] = false := by
            show decide (szS w = some 1) = false
            refine decide_eq_false fun z => ?_
            rcases szS_some z with e | e | e | e <;> (subst e; cases z)
          rw [this]; rfl
        | cons _ _ => cases h
      | _ => rw [sOk_tup]; rfl
  | _ => rfl
theorem dep_parts {w : Str} {x : PyData} {ds : List PyData} {n : Nat} (h : dep (.tuple (.str w :: x :: ds)) < n + 1) : dep x < n ∧ ∀ e ∈ ds, dep e < n := by
  rw [dep_tup] at h
  refine ⟨?_, fun e he => ?_⟩
  · have := deps_mem (ds := PyData.str w :: x :: ds) (d := x) (by simp); omega
  · have := deps_mem (ds := PyData.str w :: x :: ds) (d := e) (by simp [he]); omega
noncomputable def sp_rec (f : PyData → Bool) (n : Nat) : Sp := fun vs H Q _ => ∃ v d, vs = [v] ∧ Dq H v d ∧ fine d = true ∧ dep d < n ∧ RetV (.bl (f d)) H Q
section
variable {P : Program} {w : World} {K : PySem.W.Frag} {mg : Str → Option Value} {base : Heap} {SZ SY : Addr} {σ : L2.St} {H : Hp} {ta tb te : TE}
theorem spv_rec {f : PyData → Bool} {n : Nat} {v : V} {d : PyData} (hd : Dq H v d) (fd : fine d = true) (hn : dep d < n) : SpV (sp_rec f n) ([v] ++ []) H (.bl (f d)) := fun H1 e Q q E => ⟨v, d, rfl, hd.mono e, fd, hn, q⟩
/-- the test that the law begins with -/
theorem et_head2 {v : V} {d : PyData} (h : Ev te σ H v) (hd : Dq H v d) :
    EvT (tOr (tNot (tB (tCB (rIsi K) (tCons te (tCons (tC (.ty "tuple")) tNil))))) (tOr (tTest (tOp (rI0 fun i j => .bl (decide (i < j))) (tCB (fun xs H Q => ∃ p ys, xs = [.ref p] ∧ (SqL K H p ys ∨ SqT K H p ys) ∧ Q (.int (ys.length : Int)) H) (tCons te tNil)) (tC (.int 2))))
      (tNot (tB (tCB (rIsi K) (tCons (tOp (rIxT K) te (tC (.int 0))) (tCons (tC (.ty "str")) tNil))))))) σ H (!wordy2 d) := by
  have h1 := ev_isiD (K := K) (n := "tuple") h hd (kit_tup d)
  cases hs : isTupD d with
  | false =>
    rw [hs] at h1
    refine et_is (et_or (a := true) (b := false) (et_not (a := false) (et_B h1)) fun z => by cases z) ?_
    cases d with
    | tuple ds => cases hs
    | _ => rfl
  | true =>
    rw [hs] at h1
    obtain ⟨a, xs, ds, rfl, rfl, ha, hk⟩ := tup_of hd hs
    cases hk with
    | nil => exact et_or (a := false) (b := true) (et_not (a := true) (et_B h1)) fun _ => et_or (a := true) (b := true) (et_test (ev_op (ev_lenTup (K := K) h ha) ev_c rv_I0)) fun z => by cases z
    | cons q t =>
      cases t with
      | nil =>
        refine et_is (et_or (a := false) (b := true) (et_not (a := true) (et_B h1)) fun _ => et_or (a := true) (b := true) (et_test (ev_op (ev_lenTup (K := K) h ha) ev_c rv_I0)) fun z => by cases z) ?_
        rename_i d0
        cases d0 <;> rfl
      | cons q2 t2 =>
        have e0 : ∀ n : Nat, decide (((n + 1 + 1 : Nat) : Int) < 2) = false := fun n => decide_eq_false (by omega)
        refine et_is (et_or (a := false) (et_not (a := true) (et_B h1)) fun _ => et_or (a := false) (et_is (et_test (ev_op (ev_lenTup (K := K) h ha) ev_c rv_I0)) (e0 _)) fun _ => et_not (et_B (ev_isiD (K := K) (n := "str") (ev_at0 (K := K) h ha) q (kit_str _)))) ?_
        rename_i d0 _ _ _ _
        cases d0 <;> rfl
theorem dec_len (n : Nat) (k : Nat) : decide (V.int ((n + 1 + 1 : Nat) : Int) = V.int (k : Int)) = decide (n + 2 = k) := by
  rw [decide_eq_decide]
  exact ⟨fun h => by have := V.int.inj h; omega, fun h => by congr 1; omega⟩
theorem ok__law_is_formula {f f1 f2 : Addr} {fd fd1 fd2 : FuncData} (F : Fun K "_law_is_formula" "_law_is_formula" s__law_is_formula f fd) (T : Txt P w K mg SZ SY) (me : Me K mg "_law_is_formula" f fd ["_law_value"]) (c__law_is_letter : Cal P w K mg base "_law_is_letter" f1 fd1 ["_law_value", "_law_letters"] 1 sp_lawletter) (c__law_is_integer : Cal P w K mg base "_law_is_integer" f2 fd2 ["_law_value"] 1 (sp_leaf isIntD)) :
    ∀ n, FnOk P w K mg base CX0 (n + 4) f fd ["_law_value"] (sp_rec fOk n) := by
  intro n
  induction n with
  | zero => exact ⟨fun vs H Q E h => by obtain ⟨v, d, _, _, _, hd, _⟩ := h; exact absurd hd (Nat.not_lt_zero _), fun A outer s H args us vs Q E _ _ _ _ h => by obtain ⟨v, d, _, _, _, hd, _⟩ := h; exact absurd hd (Nat.not_lt_zero _)⟩
  | succ n ih =>
  have c__law_is_formula : Cal P w K mg base "_law_is_formula" f fd ["_law_value"] (n + 4) (sp_rec fOk n) := ⟨ih, me.mgx, me.kp, me.bd⟩
  refine F.ok (k := n + 4) sc__law_is_formula (fun vs H Q E h => ?_) (fun cdv A outer s H vs Q E hr h => ?_)
  · obtain ⟨v, d, rfl, _⟩ := h
    rfl
  · obtain ⟨v, d, rfl, hd, fd, hn, k⟩ := h
    refine ⟨_, (pss_cons (ps_if (PW.pt (pw_or (pt_not (pt_val (pe_callB (isiS (K := K) rfl) (by rfl) T.b_isinstance (by decide +kernel) (pa_cons (pv 0) (pa_cons (pe_bltn (v := .ty "tuple") (u := .type "tuple") (by rfl) T.b_tuple (by decide +kernel) rfl) pa_nil))))) (pw_or (pt_cmpR op_lt (pe_callB (lenS (K := K) rfl) (by rfl) T.b_len (by decide +kernel) (pa_cons (pv 0) pa_nil)) pe_int (nomark _)) (pw_or1 (pt_not (pt_val (pe_callB (isiS (K := K) rfl) (by rfl) T.b_isinstance (by decide +kernel) (pa_cons (pe_ix (ixT (K := K) rfl) (pv 0) pe_int (fun _ _ => rfl)) (pa_cons (pe_bltn (v := .ty "str") (u := .type "str") (by rfl) T.b_str (by decide +kernel) rfl) pa_nil))))))))) (pss_one (ps_ret pe_bl)) pss_nil) (pss_cons (ps_par (i := 1) (j := 2) (by rfl) sc__law_is_formula.nd rfl rfl (by decide) rfl rfl (pa_cons (pe_ix (ixT (K := K) rfl) (pv 0) pe_int (fun _ _ => rfl)) (pa_cons (pe_callB (lenS (K := K) rfl) (by rfl) T.b_len (by decide +kernel) (pa_cons (pv 0) pa_nil)) pa_nil)) (by rfl)) (pss_cons (ps_if (pt_cmpR op_eq (pv 1) pe_str (nomark _)) (pss_one (ps_ret (pe_and (pe_cmpR op_eq (pv 2) pe_int (nomark _)) (pe_one (pe_call c__law_is_letter.ok (hr.mono (by omega)) (by rfl) c__law_is_letter.mgx c__law_is_letter.kp c__law_is_letter.bd .nil pass0 (pa_cons (pe_ix (ixT (K := K) rfl) (pv 0) pe_int (fun _ _ => rfl)) (pa_cons pe_str pa_nil))))))) pss_nil) (pss_cons (ps_if (pt_cmpR op_eq (pv 1) pe_str (nomark _)) (pss_one (ps_ret (pe_and (pe_cmpR op_eq (pv 2) pe_int (nomark _)) (pe_one (pe_call c__law_is_integer.ok (hr.mono (by omega)) (by rfl) c__law_is_integer.mgx c__law_is_integer.kp c__law_is_integer.bd .nil pass0 (pa_cons (pe_ix (ixT (K := K) rfl) (pv 0) pe_int (fun _ _ => rfl)) pa_nil)))))) pss_nil) (pss_cons (ps_if (pt_cmpR op_ne (pv 2) pe_int (nomark _)) (pss_one (ps_ret pe_bl)) pss_nil) (pss_cons (ps_if (pt_cmpR (inS (K := K) rfl) (pv 1) (pe_tup (pa_cons pe_str (pa_cons pe_str (pa_cons pe_str pa_nil)))) (by rfl)) (pss_one (ps_ret (pe_and (pe_call c__law_is_letter.ok (hr.mono (by omega)) (by rfl) c__law_is_letter.mgx c__law_is_letter.kp c__law_is_letter.bd .nil pass0 (pa_cons (pe_ix (ixT (K := K) rfl) (pv 0) pe_int (fun _ _ => rfl)) (pa_cons pe_str pa_nil))) (pe_one (pe_call c__law_is_formula.ok (hr.mono (by omega)) (by rfl) c__law_is_formula.mgx c__law_is_formula.kp c__law_is_formula.bd .nil pass0 (pa_cons (pe_ix (ixT (K := K) rfl) (pv 0) pe_int (fun _ _ => rfl)) pa_nil)))))) pss_nil) (pss_cons (ps_if (pt_cmpR op_eq (pv 1) pe_str (nomark _)) (pss_one (ps_ret (pe_and (pe_call c__law_is_integer.ok (hr.mono (by omega)) (by rfl) c__law_is_integer.mgx c__law_is_integer.kp c__law_is_integer.bd .nil pass0 (pa_cons (pe_ix (ixT (K := K) rfl) (pv 0) pe_int (fun _ _ => rfl)) pa_nil)) (pe_one (pe_call c__law_is_formula.ok (hr.mono (by omega)) (by rfl) c__law_is_formula.mgx c__law_is_formula.kp c__law_is_formula.bd .nil pass0 (pa_cons (pe_ix (ixT (K := K) rfl) (pv 0) pe_int (fun _ _ => rfl)) pa_nil)))))) pss_nil) (pss_one (ps_ret (pe_and (pe_cmpR (inS (K := K) rfl) (pv 1) (pe_tup (pa_cons pe_str (pa_cons pe_str pa_nil))) (by rfl)) (pe_and (pe_call c__law_is_formula.ok (hr.mono (by omega)) (by rfl) c__law_is_formula.mgx c__law_is_formula.kp c__law_is_formula.bd .nil pass0 (pa_cons (pe_ix (ixT (K := K) rfl) (pv 0) pe_int (fun _ _ => rfl)) pa_nil)) (pe_one (pe_call c__law_is_formula.ok (hr.mono (by omega)) (by rfl) c__law_is_formula.mgx c__law_is_formula.kp c__law_is_formula.bd .nil pass0 (pa_cons (pe_ix (ixT (K := K) rfl) (pv 0) pe_int (fun _ _ => rfl)) pa_nil)))))))))))))), ?_⟩
    refine q_when (et_head2 (K := K) (ev_var rfl) hd) (fun z H1 e1 => ?_) fun z H1 e1 => ?_
    · have z' : wordy2 d = false := by simpa using z
      rw [fOk_no2 z'] at k
      exact s_ret ev_c fun H2 e2 => k H2 (e1.trans e2)
    · have z' : wordy2 d = true := by simpa using z
      obtain ⟨a, wd, u, xs, x, ds, rfl, rfl, ha, hx, hk⟩ := wordy2_of hd z'
      obtain ⟨hw, hf⟩ := fine_at fd
      rw [List.all_cons, Bool.and_eq_true] at hf
      obtain ⟨dx, dds⟩ := dep_parts hn
      refine q_par (ea_cons (ev_at0 (K := K) (ev_var rfl) (e1 a _ ha)) (ea_cons (ev_lenTup (K := K) (ev_var rfl) (e1 a _ ha)) ea_nil)) fun H2 e2 => ?_
      have hl : (V.str wd :: u :: xs).length = ds.length + 1 + 1 := by rw [List.length_cons, List.length_cons, hk.len]
      rw [hl]
      have e02 := e1.trans e2
      refine q_when (et_is (et_test (ev_op (ev_var rfl) ev_c (rv_eq rfl))) (dec_str wd "day")) (fun hb H3 e3 => ?_) (fun hb H3 e3 => ?_)
      · rw [decide_eq_true_iff] at hb
        subst hb
        rw [fOk_day, ← isNm_eq] at k
        exact s_ret (ev_andV (ev_is (ev_op (ev_var rfl) ev_c (rv_eq rfl)) (by rw [← dec_len ds.length 2]; rfl)) fun _ => ev_call (ea_cons (ev_at1 (K := K) (ev_var rfl) ((e02.trans e3) a _ ha)) (ea_cons ev_c ea_nil)) (spv_lawletter (hx.mono (e02.trans e3)) hf.1 lets_name)) fun H4 e4 => k H4 ((e02.trans e3).trans e4)
      rw [decide_eq_false_iff_not] at hb
      refine q_when (et_is (et_test (ev_op (ev_var rfl) ev_c (rv_eq rfl))) (dec_str wd "num")) (fun hc H4 e4 => ?_) (fun hc H4 e4 => ?_)
      · rw [decide_eq_true_iff] at hc
        subst hc
        rw [fOk_num] at k
        have e04 := (e02.trans e3).trans e4
        exact s_ret (ev_andV (ev_is (ev_op (ev_var rfl) ev_c (rv_eq rfl)) (by rw [← dec_len ds.length 2]; rfl)) fun _ => ev_call (ea_cons (ev_at1 (K := K) (ev_var rfl) (e04 a _ ha)) ea_nil) (spv_leaf (hx.mono e04) hf.1)) fun H5 e5 => k H5 (e04.trans e5)
      rw [decide_eq_false_iff_not] at hc
      have e04 := (e02.trans e3).trans e4
      refine q_when (et_is (et_test (ev_op (ev_var rfl) ev_c (rv_ne rfl))) (show (!decide (V.int ((ds.length + 1 + 1 : Nat) : Int) = V.int 3)) = !decide (ds.length + 2 = 3) by rw [← dec_len ds.length 3]; rfl)) (fun h3 H5 e5 => ?_) (fun h3 H5 e5 => ?_)
      · have h3' : ds.length + 2 ≠ 3 := by simpa using h3
        rw [fOk_not3 hb hc h3'] at k
        exact s_ret ev_c fun H6 e6 => k H6 ((e04.trans e5).trans e6)
      have h3' : ds.length = 1 := by have : ds.length + 2 = 3 := by simpa using h3
                                     omega
      obtain ⟨v2, y, rfl, rfl, hy⟩ := hk.one h3'
      have e05 := e04.trans e5
      have fy : fine y = true := by have := hf.2; rw [List.all_cons, Bool.and_eq_true] at this; exact this.1
      have dy : dep y < n := dds y (by simp)
      refine q_when (et_test (ev_inW (K := K) (x := wd) ["on", "by", "til"] (ev_var rfl) (ea_cons ev_c (ea_cons ev_c (ea_cons ev_c ea_nil))) (by decide))) (fun h4 H6 e6 => ?_) (fun h4 H6 e6 => ?_)
      · rw [decide_eq_true_iff] at h4
        rw [fOk_on h4, ← isRl_eq] at k
        exact s_ret (ev_andV (ev_call (ea_cons (ev_at1 (K := K) (ev_var rfl) ((e05.trans e6) a _ ha)) (ea_cons ev_c ea_nil)) (spv_lawletter (hx.mono (e05.trans e6)) hf.1 lets_rule)) fun _ => ev_call (ea_cons (ev_at2 (K := K) (ev_var rfl) ((e05.trans e6) a _ ha)) ea_nil) (spv_rec (hy.mono (e05.trans e6)) fy dy)) fun H7 e7 => k H7 ((e05.trans e6).trans e7)
      rw [decide_eq_false_iff_not] at h4
      refine q_when (et_is (et_test (ev_op (ev_var rfl) ev_c (rv_eq rfl))) (dec_str wd "add")) (fun h5 H7 e7 => ?_) (fun h5 H7 e7 => ?_)
      · rw [decide_eq_true_iff] at h5
        subst h5
        rw [fOk_add] at k
        have e07 := (e05.trans e6).trans e7
        exact s_ret (ev_andV (ev_call (ea_cons (ev_at1 (K := K) (ev_var rfl) (e07 a _ ha)) ea_nil) (spv_leaf (hx.mono e07) hf.1)) fun _ => ev_call (ea_cons (ev_at2 (K := K) (ev_var rfl) (e07 a _ ha)) ea_nil) (spv_rec (hy.mono e07) fy dy)) fun H8 e8 => k H8 (e07.trans e8)
      rw [decide_eq_false_iff_not] at h5
      rw [fOk_rest hb hc h4 h5] at k
      have e07 := (e05.trans e6).trans e7
      exact s_ret (ev_andV (ev_inW (K := K) (x := wd) ["late", "soon"] (ev_var rfl) (ea_cons ev_c (ea_cons ev_c ea_nil)) (by decide)) fun _ => ev_andV (ev_call (ea_cons (ev_at1 (K := K) (ev_var rfl) (e07 a _ ha)) ea_nil) (spv_rec (hx.mono e07) hf.1 dx)) fun _ => ev_call (ea_cons (ev_at2 (K := K) (ev_var rfl) (e07 a _ ha)) ea_nil) (spv_rec (hy.mono e07) fy dy)) fun H8 e8 => k H8 (e07.trans e8)
theorem ok__law_is_saying {f f1 : Addr} {fd fd1 : FuncData} (F : Fun K "_law_is_saying" "_law_is_saying" s__law_is_saying f fd) (T : Txt P w K mg SZ SY) (me : Me K mg "_law_is_saying" f fd ["_law_value"]) (c__law_is_formula : Cal P w K mg base "_law_is_formula" f1 fd1 ["_law_value"] (50 + 4) (sp_rec fOk 50)) :
    ∀ n, n ≤ 50 → FnOk P w K mg base CX0 (n + 55) f fd ["_law_value"] (sp_rec sOk n) := by
  intro n
  induction n with
  | zero => exact fun _ => ⟨fun vs H Q E h => by obtain ⟨v, d, _, _, _, hd, _⟩ := h; exact absurd hd (Nat.not_lt_zero _), fun A outer s H args us vs Q E _ _ _ _ h => by obtain ⟨v, d, _, _, _, hd, _⟩ := h; exact absurd hd (Nat.not_lt_zero _)⟩
  | succ n ih =>
  intro hn50
  have c__law_is_saying : Cal P w K mg base "_law_is_saying" f fd ["_law_value"] (n + 55) (sp_rec sOk n) := ⟨ih (by omega), me.mgx, me.kp, me.bd⟩
  refine F.ok (k := n + 55) sc__law_is_saying (fun vs H Q E h => ?_) (fun cdv A outer s H vs Q E hr h => ?_)
  · obtain ⟨v, d, rfl, _⟩ := h
    rfl
  · obtain ⟨v, d, rfl, hd, fd, hn, k⟩ := h
    refine ⟨_, (pss_cons (ps_if (PW.pt (pw_or (pt_not (pt_val (pe_callB (isiS (K := K) rfl) (by rfl) T.b_isinstance (by decide +kernel) (pa_cons (pv 0) (pa_cons (pe_bltn (v := .ty "tuple") (u := .type "tuple") (by rfl) T.b_tuple (by decide +kernel) rfl) pa_nil))))) (pw_or (pt_cmpR op_lt (pe_callB (lenS (K := K) rfl) (by rfl) T.b_len (by decide +kernel) (pa_cons (pv 0) pa_nil)) pe_int (nomark _)) (pw_or1 (pt_not (pt_val (pe_callB (isiS (K := K) rfl) (by rfl) T.b_isinstance (by decide +kernel) (pa_cons (pe_ix (ixT (K := K) rfl) (pv 0) pe_int (fun _ _ => rfl)) (pa_cons (pe_bltn (v := .ty "str") (u := .type "str") (by rfl) T.b_str (by decide +kernel) rfl) pa_nil))))))))) (pss_one (ps_ret pe_bl)) pss_nil) (pss_cons (ps_par (i := 1) (j := 2) (by rfl) sc__law_is_saying.nd rfl rfl (by decide) rfl rfl (pa_cons (pe_ix (ixT (K := K) rfl) (pv 0) pe_int (fun _ _ => rfl)) (pa_cons (pe_callB (lenS (K := K) rfl) (by rfl) T.b_len (by decide +kernel) (pa_cons (pv 0) pa_nil)) pa_nil)) (by rfl)) (pss_cons (ps_if (pt_cmpR op_eq (pv 1) pe_str (nomark _)) (pss_one (ps_ret (pe_and (pe_cmpR op_eq (pv 2) pe_int (nomark _)) (pe_one (pe_call c__law_is_saying.ok (hr.mono (by omega)) (by rfl) c__law_is_saying.mgx c__law_is_saying.kp c__law_is_saying.bd .nil pass0 (pa_cons (pe_ix (ixT (K := K) rfl) (pv 0) pe_int (fun _ _ => rfl)) pa_nil)))))) pss_nil) (pss_cons (ps_if (pt_cmpR op_ne (pv 2) pe_int (nomark _)) (pss_one (ps_ret pe_bl)) pss_nil) (pss_cons (ps_if (pt_cmpR op_eq (pv 1) pe_str (nomark _)) (pss_one (ps_ret (pe_and (pe_call c__law_is_formula.ok (hr.mono (by omega)) (by rfl) c__law_is_formula.mgx c__law_is_formula.kp c__law_is_formula.bd .nil pass0 (pa_cons (pe_ix (ixT (K := K) rfl) (pv 0) pe_int (fun _ _ => rfl)) pa_nil)) (pe_one (pe_call c__law_is_formula.ok (hr.mono (by omega)) (by rfl) c__law_is_formula.mgx c__law_is_formula.kp c__law_is_formula.bd .nil pass0 (pa_cons (pe_ix (ixT (K := K) rfl) (pv 0) pe_int (fun _ _ => rfl)) pa_nil)))))) pss_nil) (pss_one (ps_ret (pe_and (pe_cmpR (inS (K := K) rfl) (pv 1) (pe_tup (pa_cons pe_str (pa_cons pe_str pa_nil))) (by rfl)) (pe_and (pe_call c__law_is_saying.ok (hr.mono (by omega)) (by rfl) c__law_is_saying.mgx c__law_is_saying.kp c__law_is_saying.bd .nil pass0 (pa_cons (pe_ix (ixT (K := K) rfl) (pv 0) pe_int (fun _ _ => rfl)) pa_nil)) (pe_one (pe_call c__law_is_saying.ok (hr.mono (by omega)) (by rfl) c__law_is_saying.mgx c__law_is_saying.kp c__law_is_saying.bd .nil pass0 (pa_cons (pe_ix (ixT (K := K) rfl) (pv 0) pe_int (fun _ _ => rfl)) pa_nil)))))))))))), ?_⟩
    refine q_when (et_head2 (K := K) (ev_var rfl) hd) (fun z H1 e1 => ?_) fun z H1 e1 => ?_
    · have z' : wordy2 d = false := by simpa using z
      rw [sOk_no2 z'] at k
      exact s_ret ev_c fun H2 e2 => k H2 (e1.trans e2)
    · have z' : wordy2 d = true := by simpa using z
      obtain ⟨a, wd, u, xs, x, ds, rfl, rfl, ha, hx, hk⟩ := wordy2_of hd z'
      obtain ⟨hw, hf⟩ := fine_at fd
      rw [List.all_cons, Bool.and_eq_true] at hf
      obtain ⟨dx, dds⟩ := dep_parts hn
      refine q_par (ea_cons (ev_at0 (K := K) (ev_var rfl) (e1 a _ ha)) (ea_cons (ev_lenTup (K := K) (ev_var rfl) (e1 a _ ha)) ea_nil)) fun H2 e2 => ?_
      have hl : (V.str wd :: u :: xs).length = ds.length + 1 + 1 := by rw [List.length_cons, List.length_cons, hk.len]
      rw [hl]
      have e02 := e1.trans e2
      refine q_when (et_is (et_test (ev_op (ev_var rfl) ev_c (rv_eq rfl))) (dec_str wd "not")) (fun hb H3 e3 => ?_) (fun hb H3 e3 => ?_)
      · rw [decide_eq_true_iff] at hb
        subst hb
        rw [sOk_not] at k
        exact s_ret (ev_andV (ev_is (ev_op (ev_var rfl) ev_c (rv_eq rfl)) (by rw [← dec_len ds.length 2]; rfl)) fun _ => ev_call (ea_cons (ev_at1 (K := K) (ev_var rfl) ((e02.trans e3) a _ ha)) ea_nil) (spv_rec (hx.mono (e02.trans e3)) hf.1 dx)) fun H4 e4 => k H4 ((e02.trans e3).trans e4)
      rw [decide_eq_false_iff_not] at hb
      refine q_when (et_is (et_test (ev_op (ev_var rfl) ev_c (rv_ne rfl))) (show (!decide (V.int ((ds.length + 1 + 1 : Nat) : Int) = V.int 3)) = !decide (ds.length + 2 = 3) by rw [← dec_len ds.length 3]; rfl)) (fun h3 H5 e5 => ?_) (fun h3 H5 e5 => ?_)
      · have h3' : ds.length + 2 ≠ 3 := by simpa using h3
        rw [sOk_not3 hb h3'] at k
        exact s_ret ev_c fun H6 e6 => k H6 (((e02.trans e3).trans e5).trans e6)
      have h3' : ds.length = 1 := by have : ds.length + 2 = 3 := by simpa using h3
                                     omega
      obtain ⟨v2, y, rfl, rfl, hy⟩ := hk.one h3'
      have e05 := (e02.trans e3).trans e5
      have fy : fine y = true := by have := hf.2; rw [List.all_cons, Bool.and_eq_true] at this; exact this.1
      have dy : dep y < n := dds y (by simp)
      refine q_when (et_is (et_test (ev_op (ev_var rfl) ev_c (rv_eq rfl))) (dec_str wd "le")) (fun h5 H7 e7 => ?_) (fun h5 H7 e7 => ?_)
      · rw [decide_eq_true_iff] at h5
        subst h5
        rw [sOk_le] at k
        have e07 := e05.trans e7
        exact s_ret (ev_andV (ev_call (ea_cons (ev_at1 (K := K) (ev_var rfl) (e07 a _ ha)) ea_nil) (spv_rec (hx.mono e07) hf.1 (by omega))) fun _ => ev_call (ea_cons (ev_at2 (K := K) (ev_var rfl) (e07 a _ ha)) ea_nil) (spv_rec (hy.mono e07) fy (by omega))) fun H8 e8 => k H8 (e07.trans e8)
      rw [decide_eq_false_iff_not] at h5
      rw [sOk_rest hb h5] at k
      have e07 := e05.trans e7
      exact s_ret (ev_andV (ev_inW (K := K) (x := wd) ["and", "or"] (ev_var rfl) (ea_cons ev_c (ea_cons ev_c ea_nil)) (by decide)) fun _ => ev_andV (ev_call (ea_cons (ev_at1 (K := K) (ev_var rfl) (e07 a _ ha)) ea_nil) (spv_rec (hx.mono e07) hf.1 dx)) fun _ => ev_call (ea_cons (ev_at2 (K := K) (ev_var rfl) (e07 a _ ha)) ea_nil) (spv_rec (hy.mono e07) fy dy)) fun H8 e8 => k H8 (e07.trans e8)
end
end K20
end
section
set_option maxHeartbeats 4000000
namespace K20
open PySem L2 Evl G OQ
/-! ### neither late nor soon, as the law looks for it -/
noncomputable def sp_single (n : Nat) : Sp := fun vs H Q _ => ∃ v d, vs = [v] ∧ Dq H v d ∧ fOk d = true ∧ dep d < n ∧ RetV (.bl (sgl d)) H Q
theorem isLS_word {w : Str} {r : List PyData} : isLS (.str w :: r) = decide (w ∈ (["late", "soon"] : List Str)) := rfl
section
variable {P : Program} {w : World} {K : PySem.W.Frag} {mg : Str → Option Value} {base : Heap} {SZ SY : Addr} {σ : L2.St} {H : Hp} {ta tb te : TE}
theorem spv_single {n : Nat} {v : V} {d : PyData} (hd : Dq H v d) (fd : fOk d = true) (hn : dep d < n) : SpV (sp_single n) ([v] ++ []) H (.bl (sgl d)) := fun H1 e Q q E => ⟨v, d, rfl, hd.mono e, fd, hn, q⟩
theorem ok__law_is_single {f : Addr} {fd : FuncData} (F : Fun K "_law_is_single" "_law_is_single" s__law_is_single f fd) (T : Txt P w K mg SZ SY) (me : Me K mg "_law_is_single" f fd ["_law_formula_here"]) :
    ∀ n, FnOk P w K mg base CX0 (n + 4) f fd ["_law_formula_here"] (sp_single n) := by
  intro n
  induction n with
  | zero => exact ⟨fun vs H Q E h => by obtain ⟨v, d, _, _, _, hd, _⟩ := h; exact absurd hd (Nat.not_lt_zero _), fun A outer s H args us vs Q E _ _ _ _ h => by obtain ⟨v, d, _, _, _, hd, _⟩ := h; exact absurd hd (Nat.not_lt_zero _)⟩
  | succ n ih =>
  have c__law_is_single : Cal P w K mg base "_law_is_single" f fd ["_law_formula_here"] (n + 4) (sp_single n) := ⟨ih, me.mgx, me.kp, me.bd⟩
  refine F.ok (k := n + 4) sc__law_is_single (fun vs H Q E h => ?_) (fun cdv A outer s H vs Q E hr h => ?_)
  · obtain ⟨v, d, rfl, _⟩ := h
    rfl
  · obtain ⟨v, d, rfl, hd, fd, hn, k⟩ := h
    refine ⟨_, (pss_cons (ps_if (pt_cmpR (inS (K := K) rfl) (pe_ix (ixT (K := K) rfl) (pv 0) pe_int (fun _ _ => rfl)) (pe_tup (pa_cons pe_str (pa_cons pe_str pa_nil))) (by rfl)) (pss_one (ps_ret pe_bl)) pss_nil) (pss_one (ps_ret (pe_or (pe_cmpR (inS (K := K) rfl) (pe_ix (ixT (K := K) rfl) (pv 0) pe_int (fun _ _ => rfl)) (pe_tup (pa_cons pe_str (pa_cons pe_str pa_nil))) (by rfl)) (pe_one (pe_call c__law_is_single.ok (hr.mono (by omega)) (by rfl) c__law_is_single.mgx c__law_is_single.kp c__law_is_single.bd .nil pass0 (pa_cons (pe_ix (ixT (K := K) rfl) (pv 0) pe_int (fun _ _ => rfl)) pa_nil))))))), ?_⟩
    obtain ⟨wd, r, rfl, hp, hal⟩ := fOk_cases fd
    obtain ⟨a, wd', xs, r', e, rfl, ha, hk⟩ := wordy_of hd rfl
    cases e
    rw [sgl_piece hp, isLS_word] at k
    refine q_when (et_test (ev_inW (K := K) ["late", "soon"] (ev_at0 (K := K) (ev_var rfl) ha) (ea_cons ev_c (ea_cons ev_c ea_nil)) (by decide))) (fun hb H1 e1 => ?_) (fun hb H1 e1 => ?_)
    · rw [hb] at k
      exact s_ret ev_c fun H2 e2 => k H2 (e1.trans e2)
    · rw [hb] at k
      have k' : RetV (.bl ((prt wd r).all sgl)) H Q := k
      have hb' := of_decide_eq_false hb
      have key : (prt wd r).all sgl = (decide (wd ∈ (["day", "num"] : List Str)) || (prt wd r).all sgl) := by
        by_cases h : wd ∈ (["day", "num"] : List Str)
        · unfold prt; rw [if_pos h]; simp
        · rw [decide_eq_false h]; rfl
      rw [key] at k'
      refine s_ret (ev_orV (ev_inW (K := K) ["day", "num"] (ev_at0 (K := K) (ev_var rfl) (e1 a _ ha)) (ea_cons ev_c (ea_cons ev_c ea_nil)) (by decide)) fun hc => ?_) fun H2 e2 => k' H2 (e1.trans e2)
      have hc' := of_decide_eq_false hc
      have h3 : r.length = 2 := by
        cases r with
        | nil => cases hp
        | cons x r =>
          have hp' : (decide (szW wd = some (r.length + 2)) && leafB wd x) = true := hp
          rw [Bool.and_eq_true, decide_eq_true_iff] at hp'
          rcases szW_some hp'.1 with ⟨_, q⟩ | ⟨q, _⟩
          · exact absurd q hc'
          · rw [List.length_cons]; omega
      have hob : wd ∈ (["on", "by", "til", "add"] : List Str) := by
        cases r with
        | nil => cases hp
        | cons x r =>
          have hp' : (decide (szW wd = some (r.length + 2)) && leafB wd x) = true := hp
          rw [Bool.and_eq_true, decide_eq_true_iff] at hp'
          rcases szW_some hp'.1 with ⟨_, q⟩ | ⟨_, _, q⟩
          · exact absurd q hc'
          · have e : wd = "on" ∨ wd = "by" ∨ wd = "til" ∨ wd = "add" ∨ wd = "late" ∨ wd = "soon" := by simpa using q
            rcases e with e | e | e | e | e | e
            · rw [e]; decide
            · rw [e]; decide
            · rw [e]; decide
            · rw [e]; decide
            · exact absurd (by rw [e]; decide) hb'
            · exact absurd (by rw [e]; decide) hb'
      obtain ⟨v1, v2, x, y, rfl, rfl, hx, hy⟩ := hk.two h3
      have ep : prt wd [x, y] = [y] := by unfold prt; rw [if_neg hc', if_pos hob]; rfl
      rw [ep] at hal ⊢
      have fy : fOk y = true := by simpa using hal
      have dy : dep y < n := (dep_parts hn).2 y (by simp)
      have es : [y].all sgl = sgl y := by simp
      rw [es]
      exact ev_call (ea_cons (ev_at2 (K := K) (ev_var rfl) (e1 a _ ha)) ea_nil) (spv_single (hy.mono e1) fy dy)
theorem ok__law_is_chain {f f1 f2 : Addr} {fd fd1 fd2 : FuncData} (F : Fun K "_law_is_chain" "_law_is_chain" s__law_is_chain f fd) (T : Txt P w K mg SZ SY) (c__law_is_formula : Cal P w K mg base "_law_is_formula" f1 fd1 ["_law_value"] (50 + 4) (sp_rec fOk 50)) (c__law_is_single : Cal P w K mg base "_law_is_single" f2 fd2 ["_law_formula_here"] (50 + 4) (sp_single 50)) :
    FnOk P w K mg base CX0 55 f fd ["_law_value"] (sp_rec cOk 50) := by
  refine F.ok sc__law_is_chain (fun vs H Q E h => ?_) (fun cdv A outer s H vs Q E hr h => ?_)
  · obtain ⟨v, d, rfl, _⟩ := h
    rfl
  · obtain ⟨v, d, rfl, hd, fd, hn, k⟩ := h
    refine ⟨_, (pss_one (ps_ret (pe_and (pe_call c__law_is_formula.ok (hr.mono (by decide)) (by rfl) c__law_is_formula.mgx c__law_is_formula.kp c__law_is_formula.bd .nil pass0 (pa_cons (pv 0) pa_nil)) (pe_one (pe_call c__law_is_single.ok (hr.mono (by decide)) (by rfl) c__law_is_single.mgx c__law_is_single.kp c__law_is_single.bd .nil pass0 (pa_cons (pv 0) pa_nil)))))), ?_⟩
    exact s_ret (ev_andV (ev_call (ea_cons (ev_var rfl) ea_nil) (spv_rec hd fd hn)) fun ho => ev_call (ea_cons (ev_var rfl) ea_nil) (spv_single hd ho hn)) fun H1 e => k H1 e
end
end K20
end
section
set_option maxHeartbeats 2000000
namespace G
open PySem PySem.Spec PyProof.Rows L2

/-! ### the end of a law whose promise is told where no repr is running -/
section
variable {P : Program} {w : World} {K : PySem.W.Frag} {mg mb : Str → Option Value} {CX : CXT} {k : Nat} {fa a : Addr} {fd : FuncData} {x : Str} {sp : Sp} {s₁ : Shared} {vs : List Value} {ns : List Int}
noncomputable def scrObj (vs : List Value) : Obj := { cls := .type "list", data := .seq vs.toArray }
/-- the script alone, if the module does not know it -/
noncomputable def scrHp (K : PySem.W.Frag) (a : Addr) (vs : List Value) (ns : List Int) : Hp := fun b => if b = a ∧ (K.lookup a).isNone = true then some (.frz (scrObj vs) (.lst (ns.map V.int))) else none
theorem scr_some {b : Addr} {u : HO} (h : scrHp K a vs ns b = some u) : (b = a ∧ (K.lookup a).isNone = true) ∧ u = .frz (scrObj vs) (.lst (ns.map V.int)) := by
  unfold scrHp at h
  by_cases q : b = a ∧ (K.lookup a).isNone = true
  · rw [if_pos q] at h
    exact ⟨q, (Option.some.inj h).symm⟩
  · rw [if_neg q] at h
    cases h
theorem scr_off {b : Addr} (h : ¬ (b = a ∧ (K.lookup a).isNone = true)) : scrHp K a vs ns b = none := if_neg h
theorem scr_only : Only (scrHp K a vs ns) := fun b => by
  cases q : scrHp K a vs ns b with
  | none => exact .inl rfl
  | some u => exact .inr ⟨_, _, by rw [(scr_some q).2]⟩
theorem scr_sq (KX : K.In s₁.heap) (ha : s₁.heap.get? a = some (scrObj vs)) (rv : Vals (ns.map V.int) vs) (hlen : vs.length = ns.length) (hl : ns.length ≤ sizeLine) : SqL K (scrHp K a vs ns) a (ns.map V.int) := by
  cases q : K.lookup a with
  | none => exact .inl (.inr ⟨scrObj vs, if_pos ⟨rfl, by rw [q]; rfl⟩⟩)
  | some o =>
    have e := KX a o q
    rw [ha] at e
    cases e
    exact .inr ⟨_, vs.toArray, _, q, rfl, rfl, rfl, by simpa [hlen] using hl, by simpa using rv⟩
theorem law_true (KX : K.In s₁.heap) (hns : s₁.heap.Ns mainGlobals mg) (hb : s₁.heap.Ns builtinsNs mb) (hbb : ∀ x : Str, x ≠ "__name__" → mb x = bootBuiltins x) (hlim : s₁.heap.NoLimit) (hg : s₁.gens = #[])
    (ha : s₁.heap.get? a = some (scrObj vs)) (hi : IntsAre vs ns) (hl : ns.length ≤ sizeLine) (hr : Room k callerA)
    (F : ∀ base : Heap, K.In base → base.Ns mainGlobals mg → FnG P w K mg base CX k fa fd [x] sp) (hbind : ∀ (s : Shared) (u : Value), BindsTo s fd ⟨[u], []⟩ [(x, u)])
    (hsp : ∀ H : Hp, Only H → SqL K H a (ns.map V.int) → sp [.ref a] H (fun v _ => v = .bl true) fun _ _ _ => False) (hCX : ∀ H e s', CX [] H s₁ (fun _ _ _ => False) e s' → False) :
    codeAny (model P w) callerA (.call (.ref fa) ⟨[.ref a], []⟩) (fun r s' => r = .ok (.ret (.bool true)) ∧ OldK s₁.heap s'.heap ∧ s'.os = s₁.os ∧ AllBare s'.gens) s₁ := by
  have rv := vals_ints hi
  have hok : HOk P w (scrHp K a vs ns) s₁.heap := fun b u z => by
    obtain ⟨⟨rfl, _⟩, rfl⟩ := scr_some z
    exact ⟨ha, by rw [List.length_map]; exact hl, vs, _, rv, ha⟩
  have keepK : ∀ {b : Addr} {o : Obj}, K.lookup b = some o → (hidT s₁.heap (scrHp K a vs ns)).get? b = some o := fun {b o} e => hidT_get (KX b o e) (scr_off fun q => by
    obtain ⟨rfl, q2⟩ := q
    rw [e] at q2
    cases q2)
  have keepN : ∀ {b : Addr} {m : Str → Option Value}, s₁.heap.Ns b m → (hidT s₁.heap (scrHp K a vs ns)).Ns b m := by
    rintro b m ⟨o, es, ep, e, d, r⟩
    refine ⟨o, es, ep, hidT_get e (scr_off fun q => ?_), d, r⟩
    obtain ⟨rfl, _⟩ := q
    rw [ha] at e
    cases e
    cases (show Data.seq vs.toArray _ = Data.dict es ep from d)
  have inK : K.In (hidT s₁.heap (scrHp K a vs ns)) := fun b o e => keepK e
  have M : Mod K mg (hidT s₁.heap (scrHp K a vs ns)) := ⟨inK, keepN hns, ⟨mb, keepN hb, hbb⟩, by obtain ⟨mc, q1, q2⟩ := hlim; exact ⟨mc, keepN q1, q2⟩⟩
  have out : ∀ b : Addr, b ∉ ([] : List Addr) := fun b q => nomatch q
  have env : Env0 P w K mg (hidT s₁.heap (scrHp K a vs ns)) callerA [] s₁ (scrHp K a vs ns) := { frames := rfl, mod := M, bs := fun b o e => of_hidT e, bsz := Nat.le_of_eq (hidT_size _ _), funs := trivial, frf := fun b q => (out b q).elim, hok := hok, bare := .of_eq hg }
  have go := (F _ inK (keepN hns)).run callerA [] s₁ (scrHp K a vs ns) ⟨[.ref a], []⟩ [.ref a] [.ref a] _ _ rfl hr env (hbind s₁ (.ref a)) (.cons rfl .nil) (hsp _ scr_only (scr_sq KX ha rv hi.length hl))
  refine codeAny_mono go fun r s' h => ?_
  match r, h with
  | .error e, h => exact (hCX _ e s' h).elim
  | .ok .next, h => exact h.elim
  | .ok .brk, h => exact h.elim
  | .ok .cont, h => exact h.elim
  | .ok (.ret u), h =>
    obtain ⟨v, H', os, bare, un, hok', r', rfl⟩ := h
    cases r'
    refine ⟨rfl, OldK.of_keep fun b o e => ?_, os, bare⟩
    cases q : scrHp K a vs ns b with
    | none => exact un.keep b o e q (out b) (by simp)
    | some u =>
      have q2 := (scr_some q).2
      subst q2
      have z1 := (hok b _ q).1
      have z2 := (hok' b _ (un.frzs b _ _ q)).1
      rw [e] at z1
      cases z1
      exact z2
end
theorem walkG {l : PySem.W.OpenLaw} {n k : Nat} {q : Program} {loose : List Str} {XP : (Str → Option Value) → Heap → Prop} {YP : World → Heap → Prop} {d : DefRec} {K : Params → PySem.W.Frag} {CX : CXT} {sp : PySem.W.Frag → Sp} {x : Str}
    (hn : l.most = some n) (hn2 : n ≤ sizeLine) (hdf : d.params.defaults = []) (hr : Room k callerA) (hY : ∀ (w : World) (h : Heap), YP w h → (K w.params).In h)
    (F : ∀ (w : World) (mg : Str → Option Value) (fa : Addr) (h : Heap), (K w.params).In h → h.Ns mainGlobals mg → mg d.name = some (.ref fa) → ∃ fd : FuncData, (∀ (s : Shared) (u : Value), BindsTo s fd ⟨[u], []⟩ [(x, u)]) ∧ ∀ base : Heap, (K w.params).In base → base.Ns mainGlobals mg → FnG l.prog w (K w.params) mg base CX k fa fd [x] (sp (K w.params)))
    (hsp : ∀ (K : PySem.W.Frag) (H : Hp) (a : Addr) (ns : List Int), ns.length ≤ n → Only H → SqL K H a (ns.map V.int) → sp K [.ref a] H (fun v _ => v = .bl true) fun _ _ _ => False)
    (hCX : ∀ (H : Hp) (s : Shared) (e : Value) (s' : Shared), CX [] H s (fun _ _ _ => False) e s' → False) : PySem.W.WalkO q loose XP YP l.row.toRowW d [] (fun f vs => PySem.call f vs) :=
  Att.attach_call hn hdf fun w s₀ s₁ mg mb fa o pm cd doc a vs ns G Y ho hd hcd hmg hobj hints hlen hg => by
    have KX := hY w _ Y
    obtain ⟨fd, hb, hF⟩ := F w mg fa _ KX G.T.g hmg
    exact law_true KX G.T.g G.T.b G.T.builtins G.T.nolimit hg hobj hints (Nat.le_trans hlen hn2) hr hF hb (fun H hO hS => hsp _ H a ns hlen hO hS) fun H e s' => hCX H s₁ e s'
/-- a def called with keywords, no defaults -/
theorem kb_of {K : PySem.W.Frag} {x qual : Str} {st : Stmt} {f : Addr} {fd : FuncData} {ps ks : List Str} {n : Nat} {g : List Value → List Value → List Value} {gV : List V → List V → List V} (F : Fun K x qual st f fd)
    (h : ∀ (kV doc pm : Value) (an : Option Addr) (cdv ct : Value) (us ws : List Value), us.length = n → ws.length = ks.length → bindArgs (PySem.W.fnOf x qual (defArgs st) (defBody st) (defScope st) .none kV doc pm an cdv ct) ⟨us, ks.zip ws⟩ = pure (ps.zip (g us ws)))
    (hrel : ∀ {vs : List V} {us : List Value} {zs : List V} {ws : List Value}, Vals vs us → Vals zs ws → Vals (gV vs zs) (g us ws)) : KBn K fd ps n ks g gV := by
  obtain ⟨oc, od, kV, doc, pm, an, cdv, ct, osl, rfl, lk, hcd⟩ := F.ex
  exact ⟨fun s us ws _ h1 h2 => BindsTo.of_looks fun M => by rw [h kV doc pm an cdv ct us ws h1 h2]; exact PySem.W.Looks.now, hrel⟩
end G
end
section
set_option maxHeartbeats 4000000
namespace K20
open PySem L2 Evl G OQ
noncomputable def wo (H : Hp) (p : Addr) : Hp := fun b => if b = p then none else H b
theorem wo_ne {H : Hp} {p b : Addr} (h : b ≠ p) : wo H p b = H b := by unfold wo; rw [if_neg h]
theorem wo_at {H : Hp} {p : Addr} : wo H p p = none := by unfold wo; rw [if_pos rfl]
theorem wo_ex {H : Hp} {p : Addr} : Ex (wo H p) H := fun b o h => by
  by_cases hb : b = p
  · subst hb; rw [wo_at] at h; cases h
  · rwa [wo_ne hb] at h
theorem wo_mono {H H' : Hp} {p : Addr} (e : Ex H H') : Ex (wo H p) (wo H' p) := fun b o h => by
  by_cases hb : b = p
  · subst hb; rw [wo_at] at h; cases h
  · rw [wo_ne hb] at h ⊢; exact e b o h
theorem wo_sub {H H' : Hp} {p : Addr} (e : Ex (wo H p) H') : Ex (wo H p) (wo H' p) := fun b o h => by
  by_cases hb : b = p
  · subst hb; rw [wo_at] at h; cases h
  · have := e b o h
    rwa [wo_ne hb]
theorem wo_upd {H : Hp} {p : Addr} {o : HO} : Ex (wo H p) (upd H p o) := fun b u h => by
  by_cases hb : b = p
  · subst hb; rw [wo_at] at h; cases h
  · rw [upd_ne hb]; rwa [wo_ne hb] at h
noncomputable def PotOk (a b : Int) : Prop := 0 ≤ a ∧ 0 ≤ b ∧ b < 4294967296
noncomputable def PotAt (H : Hp) (p : Addr) : Prop := ∃ a b, PotOk a b ∧ H p = some (.lst [.int a, .int b])
noncomputable def sp_pot (K : PySem.W.Frag) : Sp := fun vs H Q _ => ∃ (s : Addr) (ns : List Int) (k : Int), vs = [.ref s, .int k] ∧ SqL K H s (ns.map V.int) ∧ 0 ≤ k ∧ k ≤ 100 ∧ ∀ p H2, H p = none → Ex H H2 → PotAt H2 p → Q (.ref p) H2
noncomputable def sp_draw : Sp := fun vs H Q _ => ∃ p n, vs = [.ref p, .int n] ∧ PotAt H p ∧ 0 < n ∧ n < 1073741824 ∧ ∀ d H2, 0 ≤ d → d < n → Ex (wo H p) H2 → PotAt H2 p → Q (.int d) H2
noncomputable def sp_pick (K : PySem.W.Frag) : Sp := fun vs H Q _ => ∃ (p s : Addr) (xs : List V), vs = [.ref p, .ref s] ∧ PotAt H p ∧ SqL K (wo H p) s xs ∧ 0 < xs.length ∧ xs.length ≤ 1000 ∧ ∀ (i : Nat) (v : V) (H2 : Hp), xs[i]? = some v → Ex (wo H p) H2 → PotAt H2 p → Q v H2
theorem fmod_pos {a b : Int} (h : 0 < b) : 0 ≤ a.fmod b ∧ a.fmod b < b := by
  rw [Int.fmod_eq_emod_of_nonneg _ (by omega)]
  exact ⟨Int.emod_nonneg _ (by omega), Int.emod_lt_of_pos _ h⟩
section
variable {P : Program} {w : World} {K : PySem.W.Frag} {mg : Str → Option Value} {base : Heap} {SZ SY : Addr}
theorem rv_res {r : R2} {x y z z' : V} {H : Hp} (h : RV r x y H z) (e : z = z') : RV r x y H z' := e ▸ h
theorem atI_int {ns : List Int} {i : Int} (h0 : 0 ≤ i) (h : i < (ns.length : Int)) : atI (ns.map V.int) i = some (.int (ns.getD i.toNat 0)) := by
  obtain ⟨k, rfl⟩ : ∃ k : Nat, i = (k : Int) := ⟨i.toNat, by omega⟩
  rw [Int.toNat_natCast]
  have hk : k < ns.length := by omega
  exact atI_nat (by rw [List.getElem?_map, List.getElem?_eq_getElem hk, List.getD_eq_getElem?_getD, List.getElem?_eq_getElem hk] <;> rfl)
theorem cut_one (ns : List Int) : cutV (ns.map V.int) none (some 1) = (ns.take 1).map V.int := by
  cases ns with
  | nil => rfl
  | cons a l =>
    show ((((a :: l).map V.int).drop 0).take (min 1 ((a :: l).map V.int).length - 0)) = _
    rw [List.length_map, List.length_cons, Nat.min_eq_left (by omega)]
    rfl
theorem ok_pot {f : Addr} {fd : FuncData} (F : Fun K "_law_pot" "_law_pot" s__law_pot f fd) (T : Txt P w K mg SZ SY) : FnOk P w K mg base CX0 1 f fd ["_law_script", "_law_k"] (sp_pot K) := by
  refine F.ok sc__law_pot (fun vs H Q E h => ?_) (fun cdv A outer s H vs Q E hr h => ?_)
  · obtain ⟨s, ns, k, rfl, _⟩ := h
    rfl
  · obtain ⟨s, ns, k, rfl, hs, hk0, hk1, kq⟩ := h
    refine ⟨_, (pss_cons (ps_set (i := 2) sc__law_pot.nd rfl (Or.inl rfl) (pe_op op_add (pe_op op_add (pe_op op_mul pe_int (pv 1)) pe_int) (pe_op op_modN (pe_callB (sumL (K := K) rfl rfl) (by rfl) T.b_sum (by decide +kernel) (pa_cons (pe_slice sl_list (pv 0) po_none (po_some pe_int)) pa_nil)) pe_int))) (pss_cons (ps_if (pt_cmpR op_lt (pv 1) (pe_callB (lenS (K := K) rfl) (by rfl) T.b_len (by decide +kernel) (pa_cons (pv 0) pa_nil)) (nomark _)) (pss_one (ps_set (i := 2) sc__law_pot.nd rfl (Or.inl rfl) (pe_callB call_abs (by rfl) T.b_abs (by decide +kernel) (pa_cons (pe_ix (ixL (K := K) rfl) (pv 0) (pv 1) (fun _ _ => rfl)) pa_nil)))) pss_nil) (pss_one (ps_ret (pe_lst (pa_cons (pe_callB (call_max2 rfl) (by rfl) T.b_max (by decide +kernel) (pa_cons pe_int (pa_cons (pe_op op_sub (pv 2) (pe_op op_pow pe_int pe_int)) pa_nil))) (pa_cons (pe_op op_add (pe_op op_modN (pe_op op_mul (pe_callTy call_int1 (by rfl) T.b_int (by decide +kernel) (pa_cons (pe_op op_add (pe_op op_modN (pe_callTy call_int1 (by rfl) T.b_int (by decide +kernel) (pa_cons (pv 2) pa_nil)) pe_int) pe_int) pa_nil)) (pe_op op_pow (pe_op op_add (pe_op op_mul pe_int (pv 1)) pe_int) pe_int)) pe_int) pe_int) pa_nil))))))), ?_⟩
    have m0 := fmod_pos (a := (ns.take 1).sum) (show (0 : Int) < 1000003 by decide)
    refine q_asg (v := .int (67 * k + 43 + (ns.take 1).sum.fmod 1000003)) (ev_op (ev_op (ev_op ev_c (ev_var rfl) (rv_I (.inl ⟨by decide, by decide⟩))) ev_c rv_I0) (ev_op (ev_cbL (el_eq (el_sl (ev_var rfl) eo_none (eo_some ev_c) hs) (cut_one ns)) fun p H1 e h1 => rc_sum (sq_of h1)) ev_c (rv_I (by decide))) rv_I0) fun H1 e1 => ?_
    have hcell : ∃ c : Int, 0 ≤ c ∧ ∀ (D : Ends) (tz : TS), (∀ H2, Ex H1 H2 → tz D [some (.ref s), some (.int k), some (.int c)] H2) → tSeq (tIfS (tTest (tOp (rI0 fun i j => .bl (decide (i < j))) (tVar 1) (tCB (fun xs H Q => ∃ p ys, xs = [.ref p] ∧ (SqL K H p ys ∨ SqT K H p ys) ∧ Q (.int (ys.length : Int)) H) (tCons (tVar 0) tNil))))
        (tAsg (tCB (fun xs H Q => ∃ i, xs = [.int i] ∧ Q (.int (if i < 0 then -i else i)) H) (tCons (tOp (rIxL K) (tVar 0) (tVar 1)) tNil)) (gName 2)) tNext) tz D [some (.ref s), some (.int k), some (.int (67 * k + 43 + (ns.take 1).sum.fmod 1000003))] H1 := by
      by_cases hlt : k < (ns.length : Int)
      · refine ⟨if ns.getD k.toNat 0 < 0 then - ns.getD k.toNat 0 else ns.getD k.toNat 0, by split <;> omega, fun D tz kz => ?_⟩
        exact q_ifAsg (b := true) (et_test (ev_op (ev_var rfl) (ev_cb (ea_cons (ev_var rfl) ea_nil) (rc_len (.inl (ex_l e1 hs)) (by rw [List.length_map]))) (rv_res rv_I0 (congrArg V.bl (decide_eq_true hlt))))) (fun _ => ev_cb (ea_cons (ev_op (ev_var rfl) (ev_var rfl) (rv_ixL (ex_l e1 hs) (atI_int hk0 hlt))) ea_nil) rc_abs) (fun q => nomatch q) kz
      · refine ⟨67 * k + 43 + (ns.take 1).sum.fmod 1000003, by omega, fun D tz kz => ?_⟩
        exact q_ifAsg (b := false) (et_test (ev_op (ev_var rfl) (ev_cb (ea_cons (ev_var rfl) ea_nil) (rc_len (.inl (ex_l e1 hs)) (by rw [List.length_map]))) (rv_res rv_I0 (congrArg V.bl (decide_eq_false hlt))))) (fun q => nomatch q) (fun _ => rfl) kz
    obtain ⟨c, hc, ec⟩ := hcell
    refine ec _ _ fun H2 e2 => ?_
    have m1 := fmod_pos (a := c) (show (0 : Int) < 2147483549 by decide)
    have k3 : -(2 ^ 64) < (2 * k + 5) ^ (3 : Int).toNat ∧ (2 * k + 5) ^ (3 : Int).toNat < 2 ^ 64 := by
      have h2 : (2 * k + 5) ^ (3 : Int).toNat = (2 * k + 5) * (2 * k + 5) * (2 * k + 5) := by
        show (2 * k + 5) ^ 3 = _
        rw [Int.pow_succ, Int.pow_succ, Int.pow_succ, Int.pow_zero, Int.one_mul]
      have a1 : 0 ≤ (2 * k + 5) * (2 * k + 5) := Int.mul_nonneg (by omega) (by omega)
      have a2 : (2 * k + 5) * (2 * k + 5) ≤ 205 * 205 := Int.mul_le_mul (by omega) (by omega) (by omega) (by omega)
      have a3 : 0 ≤ (2 * k + 5) * (2 * k + 5) * (2 * k + 5) := Int.mul_nonneg a1 (by omega)
      have a4 : (2 * k + 5) * (2 * k + 5) * (2 * k + 5) ≤ 205 * 205 * 213 := Int.mul_le_mul a2 (by omega) (by omega) (by omega)
      rw [h2]
      omega
    refine s_retL (el_lst (ea_cons (ev_cb (ea_cons ev_c (ea_cons (ev_op (ev_var rfl) (ev_op ev_c ev_c (rv_I ⟨by decide, by decide, by decide⟩)) rv_I0) ea_nil)) rc_max2) (ea_cons (ev_op (ev_op (ev_op (ev_cb (ea_cons (ev_op (ev_op (ev_cb (ea_cons (ev_var rfl) ea_nil) rc_int1) ev_c (rv_I (by decide))) ev_c rv_I0) ea_nil) rc_int1) (ev_op (ev_op (ev_op ev_c (ev_var rfl) (rv_I (.inl ⟨by decide, by decide⟩))) ev_c rv_I0) ev_c (rv_I ⟨by decide, by decide, by omega⟩)) (rv_I (.inr k3))) ev_c (rv_I (by decide))) ev_c rv_I0) ea_nil)) (by show 2 ≤ 100000; decide)) fun p H3 hp e3 h3 => ?_
    refine kq p H3 (fresh_back (e1.trans e2) hp) ((e1.trans e2).trans e3) ⟨_, _, ⟨?_, ?_, ?_⟩, h3⟩
    · split <;> omega
    · have := fmod_pos (a := (c.fmod 2147483549 + 43) * (2 * k + 5) ^ (3 : Int).toNat) (show (0 : Int) < 2147483477 by decide)
      omega
    · have := fmod_pos (a := (c.fmod 2147483549 + 43) * (2 * k + 5) ^ (3 : Int).toNat) (show (0 : Int) < 2147483477 by decide)
      omega
theorem ok_draw {f : Addr} {fd : FuncData} (F : Fun K "_law_draw" "_law_draw" s__law_draw f fd) (T : Txt P w K mg SZ SY) : FnOk P w K mg base CX0 1 f fd ["_law_pot_here", "_law_many"] sp_draw := by
  refine F.ok sc__law_draw (fun vs H Q E h => ?_) (fun cdv A outer s H vs Q E hr h => ?_)
  · obtain ⟨p, n, rfl, _⟩ := h
    rfl
  · obtain ⟨p, n, rfl, ⟨a, b, ⟨a0, b0, b1⟩, hp⟩, n0, n1, k⟩ := h
    have hq : SqL K H p [.int a, .int b] := sq_of hp
    refine ⟨_, (pss_cons (ps_if (pt_cmpR op_gt (pe_ix (ixL (K := K) rfl) (pv 0) pe_int (fun _ _ => rfl)) pe_int (nomark _)) (pss_cons (ps_asg (pe_callB call_divmod (by rfl) T.b_divmod (by decide +kernel) (pa_cons (pe_ix (ixL (K := K) rfl) (pv 0) pe_int (fun _ _ => rfl)) (pa_cons (pv 1) pa_nil))) (pg_tup (by rfl) (pgs_cons (pg_sub (pv 0) pe_int set_list) (pgs_cons (pg_name (i := 2) sc__law_draw.nd rfl (Or.inl rfl)) pgs_nil)))) (pss_one (ps_ret (pv 2)))) pss_nil) (pss_cons (ps_asg (pe_op op_modN (pe_callTy call_int1 (by rfl) T.b_int (by decide +kernel) (pa_cons (pe_op op_add (pe_op op_mul (pe_ix (ixL (K := K) rfl) (pv 0) pe_int (fun _ _ => rfl)) pe_int) pe_int) pa_nil)) pe_int) (pg_sub (pv 0) pe_int set_list)) (pss_one (ps_ret (pe_op op_modN (pe_callTy call_int1 (by rfl) T.b_int (by decide +kernel) (pa_cons (pe_op op_fdivN (pe_op op_modN (pe_callTy call_int1 (by rfl) T.b_int (by decide +kernel) (pa_cons (pe_op op_mul (pe_ix (ixL (K := K) rfl) (pv 0) pe_int (fun _ _ => rfl)) (pe_ix (ixL (K := K) rfl) (pv 0) pe_int (fun _ _ => rfl))) pa_nil)) pe_int) pe_int) pa_nil)) (pv 1)))))), ?_⟩
    refine q_when (et_test (ev_op (ev_op (ev_var rfl) ev_c (rv_ixL (v := .int a) hq rfl)) ev_c rv_I0)) (fun hb H1 e1 => ?_) (fun hb H1 e1 => ?_)
    · have ha : 0 < a := of_decide_eq_true hb
      refine q_asgG (eu_divmod (ev_op (ev_var rfl) ev_c (rv_ixL (v := .int a) (ex_l e1 hq) rfl)) (ev_var rfl) n0 n1) fun u H2 hu e2 h2 => ?_
      have e3 := e1.trans e2
      have hp2 := e3 p _ hp
      refine ⟨u, _, rfl, st_of h2, rfl, _, _, rfl, .ref p, rfl, ⟨p, [.int a, .int b], 0, 0, rfl, rfl, hp2, rfl, ?_⟩⟩
      refine ⟨_, _, rfl, rfl, ?_⟩
      refine s_ret (ev_var rfl) fun H3 e4 => ?_
      refine k _ H3 (Int.emod_nonneg _ (by omega)) (Int.emod_lt_of_pos _ n0) ((wo_mono e3).trans (wo_upd.trans e4)) ⟨a / n, b, ⟨Int.ediv_nonneg a0 (by omega), b0, b1⟩, e4 p _ upd_same⟩
    · have hq1 := ex_l e1 hq
      have m1 := fmod_pos (a := b * 48271 + 14563) (show (0 : Int) < 2147483587 by decide)
      refine q_setL (xs := [.int a, .int b]) (j := 1) (v := .int ((b * 48271 + 14563).fmod 2147483587)) (e1 p _ hp) (ev_op (ev_cb (ea_cons (ev_op (ev_op (ev_op (ev_var rfl) ev_c (rv_ixL (v := .int b) hq1 rfl)) ev_c (rv_I (.inr ⟨by decide, by decide⟩))) ev_c rv_I0) ea_nil) rc_int1) ev_c (rv_I (by decide))) (ev_var rfl) ev_c (by show 1 < 2; decide) fun H2 e2 => ?_
      generalize hb' : (b * 48271 + 14563).fmod 2147483587 = b' at m1 ⊢
      have hp3 : SqL K (upd H2 p (.lst ([.int a, .int b].set 1 (.int b')))) p [.int a, .int b'] := sq_of upd_same
      have m2 := fmod_pos (a := ((b' * b').fmod 2147483549).fdiv 11) n0
      refine s_ret (ev_op (ev_cb (ea_cons (ev_op (ev_op (ev_cb (ea_cons (ev_op (ev_op (ev_var rfl) ev_c (rv_ixL (v := .int b') hp3 rfl)) (ev_op (ev_var rfl) ev_c (rv_ixL (v := .int b') hp3 rfl)) (rv_I (.inl ⟨by omega, by omega⟩))) ea_nil) rc_int1) ev_c (rv_I (by decide))) ev_c (rv_I ⟨by decide, by decide⟩)) ea_nil) rc_int1) (ev_var rfl) (rv_I (by omega))) fun H3 e3 => ?_
      exact k _ H3 m2.1 m2.2 ((wo_mono (e1.trans e2)).trans (wo_upd.trans e3)) ⟨a, b', ⟨a0, m1.1, by omega⟩, e3 p _ upd_same⟩
theorem ok_pick {f f1 : Addr} {fd fd1 : FuncData} (F : Fun K "_law_pick" "_law_pick" s__law_pick f fd) (T : Txt P w K mg SZ SY) (c__law_draw : Cal P w K mg base "_law_draw" f1 fd1 ["_law_pot_here", "_law_many"] 1 sp_draw) : FnOk P w K mg base CX0 2 f fd ["_law_pot_here", "_law_some_here"] (sp_pick K) := by
  refine F.ok sc__law_pick (fun vs H Q E h => ?_) (fun cdv A outer s H vs Q E hr h => ?_)
  · obtain ⟨p, s, xs, rfl, _⟩ := h
    rfl
  · obtain ⟨p, l, xs, rfl, hp, hs, h0, h1, k⟩ := h
    refine ⟨_, (pss_one (ps_ret (pe_ix (ixL (K := K) rfl) (pv 1) (pe_call c__law_draw.ok (hr.mono (by decide)) (by rfl) c__law_draw.mgx c__law_draw.kp c__law_draw.bd .nil pass0 (pa_cons (pv 0) (pa_cons (pe_callB (lenS (K := K) rfl) (by rfl) T.b_len (by decide +kernel) (pa_cons (pv 1) pa_nil)) pa_nil))) (fun _ _ => rfl)))), ?_⟩
    refine ⟨_, rfl, (ea_cons (ev_var rfl) (ea_cons (ev_cb (ea_cons (ev_var rfl) ea_nil) (rc_len (.inl (ex_l wo_ex hs)) rfl)) ea_nil)) H (Ex.refl H) _ fun H1 e1 => ?_⟩
    have hp1 : PotAt H1 p := by obtain ⟨a, b, h, q⟩ := hp; exact ⟨a, b, h, e1 p _ q⟩
    refine ⟨p, (xs.length : Int), rfl, hp1, by omega, by omega, fun d H2 d0 d1 e2 hp2 => ?_⟩
    obtain ⟨i, rfl⟩ : ∃ i : Nat, d = (i : Int) := ⟨d.toNat, by omega⟩
    have hi : i < xs.length := by omega
    have e3 : Ex (wo H p) H2 := (wo_mono e1).trans e2
    exact ⟨l, xs, (i : Int), xs[i], rfl, rfl, ex_l e3 hs, atI_nat (List.getElem?_eq_getElem hi), k i _ H2 (List.getElem?_eq_getElem hi) e3 hp2⟩
end
section
variable {K : PySem.W.Frag} {σ : L2.St} {H : Hp} {p : Addr} {i : Nat} {tA : TA} {tn : TE} {Q : VK} {E : XK}
theorem PotAt.mono {H' : Hp} (h : PotAt H p) (e : Ex H H') : PotAt H' p := by obtain ⟨a, b, q, r⟩ := h; exact ⟨a, b, q, e p _ r⟩
theorem PotAt.some (h : PotAt H p) : ∃ o, H p = some o := by obtain ⟨a, b, q, r⟩ := h; exact ⟨_, r⟩
theorem drawC {n : Int} (hp : PotAt H p) (hv : σ[i]? = some (some (.ref p))) (hn : Ev tn σ (wo H p) (.int n)) (h0 : 0 < n) (h1 : n < 1073741824) (k : ∀ d H2, 0 ≤ d → d < n → Ex (wo H p) H2 → PotAt H2 p → Q (.int d) H2) :
    tCall sp_draw [] E (tCons (tVar i) (tCons tn tNil)) σ H Q := ⟨.ref p, hv, hn H wo_ex _ fun H1 e1 => ⟨p, n, rfl, hp.mono e1, h0, h1, fun d H2 d0 d1 e2 h2 => k d H2 d0 d1 ((wo_mono e1).trans e2) h2⟩⟩
end
end K20
end
section
set_option maxHeartbeats 2000000
namespace SX
open PySem PySem.Spec PyProof.Rows L2
/-- the signs of a text -/
noncomputable def signs (z : Str) : List Str := z.cps.toList.map fun c => ⟨#[c]⟩
theorem signs_vals {z : Str} {acc : Array Value} (h : ItemsOf (SignAt z) acc z.cps.size) : Vals ((signs z).map V.str) acc.toList := by
  have key : ∀ (n : Nat) (cs : List Nat) (us : List Value), us.length = cs.length → (∀ (i : Nat) (v : Value), us[i]? = some v → ∃ c t, cs[i]? = some c ∧ v = .str ⟨#[c]⟩ t) → Vals ((cs.map fun c => (⟨#[c]⟩ : Str)).map V.str) us := by
    intro n cs
    induction cs with
    | nil =>
      intro us hl _
      cases us with
      | nil => exact .nil
      | cons u us => cases hl
    | cons c cs ih =>
      intro us hl hh
      cases us with
      | nil => cases hl
      | cons u us =>
        obtain ⟨c', t, e1, e2⟩ := hh 0 u rfl
        have : c' = c := by simpa using e1.symm
        subst this
        refine .cons ⟨t, e2⟩ (ih us (by simpa using hl) fun i v hi => ?_)
        obtain ⟨d, t', f1, f2⟩ := hh (i + 1) v (by simpa using hi)
        exact ⟨d, t', by simpa using f1, f2⟩
  refine key 0 z.cps.toList acc.toList (by rw [Array.length_toList, Array.length_toList]; exact h.1) fun i v hi => ?_
  rw [Array.getElem?_toList] at hi
  obtain ⟨c, t, e1, e2⟩ := h.2 i v hi
  exact ⟨c, t, by rw [Array.getElem?_toList]; exact e1, e2⟩
noncomputable def rListStr : List V → Hp → VK → Prop := fun xs H Q => ∃ z, xs = [V.str z] ∧ z.cps.size ≤ sizeLine ∧ ∀ l, H l = none → Q (.ref l) (upd H l (.lst ((signs z).map V.str)))
theorem cr_listStr {X : Cx} (hc : X.calm = true) : CallR X (.type "list") rListStr := by
  intro pins s σ H xs us Q I r h
  obtain ⟨z, rfl, hz, q⟩ := h
  obtain ⟨u, rfl, rx⟩ := vals1 r
  obtain ⟨t, rfl⟩ := rx
  refine call_list_str (I.ok.hd hc) z t (fun h' tk acc c k e hacc => ?_) hz
  have hl : ((signs z).map V.str).length ≤ sizeLine := by unfold signs; rw [List.length_map, List.length_map, Array.length_toList]; exact hz
  exact ⟨.ref s.heap.objs.size, _, I.laid (t' := tk) k (Nat.le_refl _) (show ObjOk X.prog X.w _ h' _ (.lst ((signs z).map V.str)) from ⟨hl, acc.toList, c, signs_vals hacc, e⟩), rfl, q _ (I.hok.fresh (Nat.le_refl _))⟩
end SX
end
section
set_option maxHeartbeats 4000000
namespace K20
open PySem L2 Evl G OQ
section
variable {K : PySem.W.Frag} {σ : L2.St} {H : Hp} {p : Addr} {i j i0 : Nat} {tA tr : TA} {tn ta tb tl te : TE} {Q : VK} {E : XK} {D : Ends} {tz : TS} {xs : List V} {vs : List Nat} {QA : List V → Hp → Prop} {ns : List Int} {r : R2} {v : V}
theorem ac_v (h : Ev te σ H v) (k : ∀ H1, Ex H H1 → tr σ H1 fun xs H2 => QA (v :: xs) H2) : tCons te tr σ H QA := h H (Ex.refl H) _ k
theorem ac_nil (k : QA [] H) : tNil σ H QA := k
theorem ac_k (h : te σ H fun v H1 => tr σ H1 fun xs H2 => QA (v :: xs) H2) : tCons te tr σ H QA := h
theorem op_k (h : ta σ H fun x H1 => tb σ H1 fun y H2 => r x y H2 Q) : tOp r ta tb σ H Q := h
theorem lst_k (h : tA σ H fun vs H1 => vs.length ≤ sizeLine ∧ ∀ p, H1 p = none → Q (.ref p) (upd H1 p (.lst vs))) : tLst tA σ H Q := h
theorem tup_k (h : tA σ H fun vs H1 => vs.length ≤ sizeLine ∧ ∀ p, H1 p = none → Q (.ref p) (upd H1 p (.tup vs))) : tTup tA σ H Q := h
theorem ret_k (h : te σ H D.rt) : tRet te D σ H := h
theorem asg_k (h : te σ H fun v H1 => tz D (σ.set i (some v)) H1) : tSeq (tAsg te (gName i)) tz D σ H := h
theorem v_k {v : V} (h : Ev te σ H v) (k : ∀ H1, Ex H H1 → Q v H1) : te σ H Q := h H (Ex.refl H) _ k
theorem call_k {sp : Sp} {dvs : List V} (h : tA σ H fun vs H1 => sp (vs ++ dvs) H1 Q E) : tCall sp dvs E tA σ H Q := h
theorem bm_k {Tn : String} {rm : V → List V → Hp → VK → Prop} {to : TE} {t : TA} (h : to σ H fun x H1 => tyV K Tn x H1 ∧ t σ H1 fun xs H2 => rm x xs H2 Q) : tBM K Tn rm to t σ H Q := h
theorem drop_k (h : te σ H fun _ H1 => D.nx σ H1) : tDrop te D σ H := h
theorem q_par2L {xs ys : List V} (h : EvL ta σ H xs) (hb : ∀ H1, Ex H H1 → EvL tb σ H1 ys) (k : ∀ p q H1, H p = none → H q = none → p ≠ q → Ex H H1 → H1 p = some (.lst xs) → H1 q = some (.lst ys) → tz D ((σ.set i (some (.ref p))).set j (some (.ref q))) H1) :
    tSeq (tPar i j (tCons ta (tCons tb tNil))) tz D σ H := h H (Ex.refl H) _ fun p H1 hp e1 h1 => (hb H1 e1) H1 (Ex.refl _) _ fun q H2 hq e2 h2 => ⟨_, _, rfl, k p q H2 hp (fresh_back e1 hq) (fun z => by subst z; rw [h1] at hq; cases hq) (e1.trans e2) (e2 p _ h1) h2⟩
theorem wo_tr {H1 H2 H3 : Hp} (e : Ex (wo H1 p) H2) (e' : Ex (wo H2 p) H3) : Ex (wo H1 p) H3 := (wo_sub e).trans e'
end
noncomputable def sp_some (K : PySem.W.Frag) : Sp := fun vs H Q _ => ∃ (p : Addr) (z : Str) (n : Nat), vs = [.ref p, .str z, .int (n : Int)] ∧ PotAt H p ∧ n ≤ (SX.signs z).length ∧ (SX.signs z).length ≤ 1000 ∧ (SX.signs z).Nodup ∧ z.cps.size ≤ 1000 ∧
  ∀ l (ks : List Str) H2, ks.length = n → ks.Nodup → (∀ k ∈ ks, k ∈ SX.signs z) → H l = none → Ex (wo H p) H2 → PotAt H2 p → H2 l = some (.lst (ks.map V.str)) → Q (.ref l) H2
noncomputable def sp_number : Sp := fun vs H Q _ => ∃ p, vs = [.ref p] ∧ PotAt H p ∧ ∀ i H2, -12 ≤ i → i ≤ 12 → Ex (wo H p) H2 → PotAt H2 p → Q (.int i) H2
section
variable {P : Program} {w : World} {K : PySem.W.Frag} {mg : Str → Option Value} {base : Heap} {SZ SY : Addr}
theorem ok_number {f f1 f2 : Addr} {fd fd1 fd2 : FuncData} (F : Fun K "_law_number" "_law_number" s__law_number f fd) (T : Txt P w K mg SZ SY) (c__law_draw : Cal P w K mg base "_law_draw" f1 fd1 ["_law_pot_here", "_law_many"] 1 sp_draw) (c__law_pick : Cal P w K mg base "_law_pick" f2 fd2 ["_law_pot_here", "_law_some_here"] 2 (sp_pick K)) : FnOk P w K mg base CX0 3 f fd ["_law_pot_here"] sp_number := by
  refine F.ok sc__law_number (fun vs H Q E h => ?_) (fun cdv A outer s H vs Q E hr h => ?_)
  · obtain ⟨p, rfl, _⟩ := h
    rfl
  · obtain ⟨p, rfl, hp, k⟩ := h
    refine ⟨_, (pss_one (ps_ret (pe_call c__law_pick.ok (hr.mono (by decide)) (by rfl) c__law_pick.mgx c__law_pick.kp c__law_pick.bd .nil pass0 (pa_cons (pv 0) (pa_cons (pe_lst (pa_cons pe_int (pa_cons pe_int (pa_cons (pe_un un_neg pe_int) (pa_cons pe_int (pa_cons (pe_un un_neg pe_int) (pa_cons pe_int (pa_cons (pe_op op_sub (pe_call c__law_draw.ok (hr.mono (by decide)) (by rfl) c__law_draw.mgx c__law_draw.kp c__law_draw.bd .nil pass0 (pa_cons (pv 0) (pa_cons pe_int pa_nil))) pe_int) (pa_cons (pe_op op_sub (pe_call c__law_draw.ok (hr.mono (by decide)) (by rfl) c__law_draw.mgx c__law_draw.kp c__law_draw.bd .nil pass0 (pa_cons (pv 0) (pa_cons pe_int pa_nil))) pe_int) pa_nil))))))))) pa_nil))))), ?_⟩
    refine ret_k (call_k (ac_v (ev_var rfl) fun H1 e1 => ac_k (lst_k (ac_v ev_c fun H2 e2 => ac_v ev_c fun H3 e3 => ac_v (ev_un ev_c ru_neg) fun H4 e4 => ac_v ev_c fun H5 e5 => ac_v (ev_un ev_c ru_neg) fun H6 e6 => ac_v ev_c fun H7 e7 => ac_k (op_k ?_)))))
    have e07 := (((((e1.trans e2).trans e3).trans e4).trans e5).trans e6).trans e7
    refine drawC (hp.mono e07) rfl ev_c (by decide) (by decide) fun d1 H8 d10 d11 e8 hp8 => ?_
    refine v_k ev_c fun H9 e9 => ⟨d1, 12, rfl, rfl, ac_k (op_k ?_)⟩
    refine drawC (hp8.mono e9) rfl ev_c (by decide) (by decide) fun d2 Ha d20 d21 ea hpa => ?_
    refine v_k ev_c fun Hb eb => ⟨d2, 12, rfl, rfl, ac_nil ⟨sz_of (by show 8 ≤ 100000; decide), fun s hs => ?_⟩⟩
    have hpb := hpa.mono eb
    obtain ⟨o, ho⟩ := hpb.some
    have hne : s ≠ p := (ne_of_none ho hs).symm
    have x1 : Ex (wo H p) Hb := wo_tr (wo_tr (wo_ex.trans e07) (e8.trans e9)) (ea.trans eb)
    refine ⟨p, s, ([0, 1, -1, 2, -2, 3, d1 - 12, d2 - 12] : List Int).map V.int, rfl, hpb.mono (Ex.new hs), sq_of (by rw [wo_ne hne]; exact upd_same), by show 0 < 8; decide, by show 8 ≤ 1000; decide, fun i v H2' hi e2' h2' => ?_⟩
    rw [List.getElem?_map] at hi
    obtain ⟨m, hm, rfl⟩ := Option.map_eq_some_iff.mp hi
    have hmem := List.mem_of_getElem? hm
    simp only [List.mem_cons, List.not_mem_nil, or_false] at hmem
    refine k m H2' (by omega) (by omega) (wo_tr (x1.trans (Ex.new hs)) e2') h2'
theorem seqIndex_nat {d : Nat} {n : Nat} (h : d < n) : seqIndex? (d : Int) n = some d := by
  unfold seqIndex?
  have h1 : ¬ ((d : Int) < 0) := by omega
  simp only [h1, if_false]
  rw [if_pos (by simp; omega)]
  simp
theorem erase_map {α β : Type} (f : α → β) : ∀ (l : List α) (i : Nat), (l.map f).eraseIdx i = (l.eraseIdx i).map f
  | [], _ => rfl
  | _ :: _, 0 => rfl
  | a :: l, i + 1 => by
    show f a :: (l.map f).eraseIdx i = f a :: (l.eraseIdx i).map f
    rw [erase_map f l i]
theorem ok_some {f f1 : Addr} {fd fd1 : FuncData} (F : Fun K "_law_some" "_law_some" s__law_some f fd) (T : Txt P w K mg SZ SY) (c__law_draw : Cal P w K mg base "_law_draw" f1 fd1 ["_law_pot_here", "_law_many"] 1 sp_draw) : FnOk P w K mg base CX0 2 f fd ["_law_pot_here", "_law_letters", "_law_many"] (sp_some K) := by
  refine F.ok sc__law_some (fun vs H Q E h => ?_) (fun cdv A outer s H vs Q E hr h => ?_)
  · obtain ⟨p, z, n, rfl, _⟩ := h
    rfl
  · obtain ⟨p, z, n, rfl, hp, hn, hz, hnd, hz2, k⟩ := h
    refine ⟨_, (pss_cons (ps_par (i := 3) (j := 4) (by rfl) sc__law_some.nd rfl rfl (by decide) rfl rfl (pa_cons (pe_callTy (SX.cr_listStr rfl) (by rfl) T.b_list (by decide +kernel) (pa_cons (pv 1) pa_nil)) (pa_cons (pe_lst pa_nil) pa_nil)) (by rfl)) (pss_cons (ps_for PassesOwn.never rfl (pi_range1 (by rfl) T.b_range (pa_cons (pv 2) pa_nil)) (pg_name (i := 5) sc__law_some.nd rfl (Or.inl rfl)) (pss_one (ps_expr (pe_bm PySem.F.plainAttrs_list PySem.F.slot_list_append PySem.F.type_list_append mt_append (pv 4) (pa_cons (pe_bm PySem.F.plainAttrs_list PySem.F.slot_list_pop PySem.F.type_list_pop mt_popAt (pv 3) (pa_cons (pe_call c__law_draw.ok (hr.mono (by decide)) (by rfl) c__law_draw.mgx c__law_draw.kp c__law_draw.bd .nil pass0 (pa_cons (pv 0) (pa_cons (pe_callB (lenS (K := K) rfl) (by rfl) T.b_len (by decide +kernel) (pa_cons (pv 3) pa_nil)) pa_nil))) pa_nil)) pa_nil))))) (pss_one (ps_ret (pv 4))))), ?_⟩
    refine q_par2L (xs := (SX.signs z).map V.str) (ys := []) (fun H1 e1 Q q => (ev_var (i := 1) (v := V.str z) rfl) H1 (Ex.refl _) _ fun H2 e2 => ⟨z, rfl, sz_of (by omega), fun l hl => q l _ (fresh_back e2 hl) (e2.trans (Ex.new hl)) upd_same⟩) (fun H1 e1 => el_lst ea_nil (by show 0 ≤ 100000; decide)) fun le fo H1 hle hfo hne e1 h1 h2 => ?_
    obtain ⟨o, ho⟩ := hp.some
    have lp : le ≠ p := (ne_of_none ho hle).symm
    have fp : fo ≠ p := (ne_of_none ho hfo).symm
    have wle : wo H p le = none := by rw [wo_ne lp]; exact hle
    have wfo : wo H p fo = none := by rw [wo_ne fp]; exact hfo
    refine q_forR1 (n := (n : Int)) (ea_cons (ev_var rfl) ea_nil) (by omega) (fun i σ' H' => ∃ (ks ls : List Str) (o1 : Option V), σ' = [some (.ref p), some (.str z), some (.int (n : Int)), some (.ref le), some (.ref fo), o1] ∧ ks.length = i ∧ (ks ++ ls).Perm (SX.signs z) ∧ Ex (wo H p) H' ∧ PotAt H' p ∧ H' le = some (.lst (ls.map V.str)) ∧ H' fo = some (.lst (ks.map V.str))) (fun H2 e2 => ⟨[], SX.signs z, none, rfl, rfl, List.Perm.refl _, wo_ex.trans (e1.trans e2), hp.mono (e1.trans e2), e2 le _ h1, e2 fo _ h2⟩) (fun i σ' H' hi hpv => ?_) (fun σ' H' hpv => ?_)
    · obtain ⟨ks, ls, o1, rfl, hk, pm, e3, hp3, h3, h4⟩ := hpv
      have hlen : ks.length + ls.length = (SX.signs z).length := by rw [← List.length_append]; exact pm.length_eq
      have hpos : 0 < ls.length := by omega
      refine drop_k (bm_k (v_k (v := .ref fo) (ev_var rfl) fun H4 e4 => ⟨Or.inl ⟨rfl, _, sq_of (e4 fo _ h4)⟩, ac_k (bm_k (v_k (v := .ref le) (ev_var rfl) fun H5 e5 => ⟨Or.inl ⟨rfl, _, sq_of ((e4.trans e5) le _ h3)⟩, ac_k ?_⟩))⟩))
      have h35 : H5 le = some (.lst (ls.map V.str)) := (e4.trans e5) le _ h3
      have h45 : H5 fo = some (.lst (ks.map V.str)) := (e4.trans e5) fo _ h4
      have hp5 : PotAt H5 p := hp3.mono (e4.trans e5)
      refine drawC (n := (ls.length : Int)) hp5 rfl (ev_is (ev_cb (ea_cons (ev_var (i := 3) (v := .ref le) rfl) ea_nil) (rc_len (.inl (sq_of (by rw [wo_ne lp]; exact h35))) rfl)) (by rw [List.length_map])) (by omega) (by omega) fun d H6 d0 d1 e6 hp6 => ?_
      obtain ⟨j, rfl⟩ : ∃ j : Nat, d = (j : Int) := ⟨d.toNat, by omega⟩
      have hj : j < ls.length := by omega
      have h36 : H6 le = some (.lst (ls.map V.str)) := e6 le _ (by rw [wo_ne lp]; exact h35)
      have h46 : H6 fo = some (.lst (ks.map V.str)) := e6 fo _ (by rw [wo_ne fp]; exact h45)
      refine ac_nil ⟨le, ls.map V.str, (j : Int), j, .str ls[j], rfl, rfl, h36, by omega, by omega, by rw [List.length_map]; exact seqIndex_nat hj, by rw [List.getElem?_map, List.getElem?_eq_getElem hj] <;> rfl, ac_nil ⟨fo, ks.map V.str, .str ls[j], rfl, rfl, by rw [upd_ne (Ne.symm hne)]; exact h46, sz_lt (by rw [List.length_map]; omega), ?_⟩⟩
      have pm2 : (ls[j] :: ls.eraseIdx j).Perm ls := L2.erase_perm ls j _ (List.getElem?_eq_getElem hj)
      refine ⟨ks ++ [ls[j]], ls.eraseIdx j, some (.int (i : Int)), rfl, by rw [List.length_append, hk] <;> rfl, ?_, ?_, ?_, ?_, ?_⟩
      · rw [List.append_assoc]
        exact ((List.Perm.refl ks).append pm2).trans pm
      · have x6 : Ex (wo H p) H6 := wo_tr (e3.trans (e4.trans e5)) e6
        exact (x6.mut wle).mut wfo
      · obtain ⟨a, b, q1, q2⟩ := hp6
        exact ⟨a, b, q1, by rw [upd_ne (Ne.symm fp), upd_ne (Ne.symm lp)]; exact q2⟩
      · rw [upd_ne hne, upd_same, erase_map]
      · rw [upd_same, List.map_append] <;> rfl
    · obtain ⟨ks, ls, o1, rfl, hk, pm, e3, hp3, h3, h4⟩ := hpv
      refine s_ret (ev_var rfl) fun H4 e4 => ?_
      have nd : (ks ++ ls).Nodup := pm.nodup_iff.mpr hnd
      exact k fo ks H4 (by rw [hk]; exact Int.toNat_natCast n) (List.nodup_append.mp nd).1 (fun x hx => pm.mem_iff.mp (List.mem_append.mpr (.inl hx))) hfo (e3.trans e4) (hp3.mono e4) (e4 fo _ h4)
end
end K20
end
section
set_option maxHeartbeats 4000000
namespace K20
open PySem L2 Evl G OQ
/-! ### drawn data -/
noncomputable def neT : PyData → Bool
  | .tuple (_ :: _) => true
  | _ => false
structure DOk (n m : Nat) (t : PyData) : Prop where
  f : fine t = true
  dp : dep t ≤ n
  sz : nod t ≤ m
  ne : neT t = true
  pu : t.canLay0 = true
theorem tx_ok : ∀ x ∈ txS, PyData.strOk x = true := by decide +kernel
theorem fine_mk {ds : List PyData} (h : ds.all fine = true) : fine (.tuple ds) = true := by rw [fine, fines_all]; exact h
theorem fine_int {i : Int} (h : -100 ≤ i ∧ i ≤ 100) : fine (.int i) = true := by rw [fine]; exact decide_eq_true h
theorem fine_tx {x : Str} (h : x ∈ txS) : fine (.str x) = true := by rw [fine]; exact decide_eq_true h
theorem DOk.leafS {n m : Nat} {w x : Str} (hw : w ∈ txS) (hx : x ∈ txS) (hn : 1 ≤ n) (hm : 3 ≤ m) : DOk n m (.tuple [.str w, .str x]) :=
  ⟨fine_mk (by simp [fine_tx hw, fine_tx hx]), by simp [dep, deps]; omega, by simp [nod, nods]; omega, rfl, by simp [PyData.canLay0, PyData.canLayAll0, tx_ok w hw, tx_ok x hx]⟩
theorem DOk.leafI {n m : Nat} {w : Str} {i : Int} (hw : w ∈ txS) (hx : -100 ≤ i ∧ i ≤ 100) (hn : 1 ≤ n) (hm : 3 ≤ m) : DOk n m (.tuple [.str w, .int i]) :=
  ⟨fine_mk (by simp [fine_tx hw, fine_int hx]), by simp [dep, deps]; omega, by simp [nod, nods]; omega, rfl, by simp [PyData.canLay0, PyData.canLayAll0, tx_ok w hw]⟩
theorem DOk.overS {n m n' m' : Nat} {w x : Str} {t : PyData} (hw : w ∈ txS) (hx : x ∈ txS) (h : DOk n m t) (hn : n + 1 ≤ n') (hm : m + 3 ≤ m') : DOk n' m' (.tuple [.str w, .str x, t]) :=
  ⟨fine_mk (by simp [fine_tx hw, fine_tx hx, h.f]), by have := h.dp; simp [dep, deps]; omega, by have := h.sz; simp [nod, nods]; omega, rfl, by simp [PyData.canLay0, PyData.canLayAll0, tx_ok w hw, tx_ok x hx, h.pu]⟩
theorem DOk.overI {n m n' m' : Nat} {w : Str} {i : Int} {t : PyData} (hw : w ∈ txS) (hx : -100 ≤ i ∧ i ≤ 100) (h : DOk n m t) (hn : n + 1 ≤ n') (hm : m + 3 ≤ m') : DOk n' m' (.tuple [.str w, .int i, t]) :=
  ⟨fine_mk (by simp [fine_tx hw, fine_int hx, h.f]), by have := h.dp; simp [dep, deps]; omega, by have := h.sz; simp [nod, nods]; omega, rfl, by simp [PyData.canLay0, PyData.canLayAll0, tx_ok w hw, h.pu]⟩
theorem DOk.one {n m n' m' : Nat} {w : Str} {t : PyData} (hw : w ∈ txS) (h : DOk n m t) (hn : n + 1 ≤ n') (hm : m + 2 ≤ m') : DOk n' m' (.tuple [.str w, t]) :=
  ⟨fine_mk (by simp [fine_tx hw, h.f]), by have := h.dp; simp [dep, deps]; omega, by have := h.sz; simp [nod, nods]; omega, rfl, by simp [PyData.canLay0, PyData.canLayAll0, tx_ok w hw, h.pu]⟩
theorem DOk.two {n m n2 m2 n' m' : Nat} {w : Str} {t u : PyData} (hw : w ∈ txS) (h : DOk n m t) (k : DOk n2 m2 u) (hn : n + 1 ≤ n') (hn2 : n2 + 1 ≤ n') (hm : m + m2 + 2 ≤ m') : DOk n' m' (.tuple [.str w, t, u]) :=
  ⟨fine_mk (by simp [fine_tx hw, h.f, k.f]), by have := h.dp; have := k.dp; simp [dep, deps]; omega, by have := h.sz; have := k.sz; simp [nod, nods]; omega, rfl, by simp [PyData.canLay0, PyData.canLayAll0, tx_ok w hw, h.pu, k.pu]⟩
theorem DOk.up {n m n' m' : Nat} {t : PyData} (h : DOk n m t) (hn : n ≤ n') (hm : m ≤ m') : DOk n' m' t := ⟨h.f, by have := h.dp; omega, by have := h.sz; omega, h.ne, h.pu⟩
noncomputable def szFm : Nat → Nat
  | 0 => 3
  | d + 1 => 2 * szFm d + 3
theorem szFm_ge : ∀ d, 3 ≤ szFm d
  | 0 => Nat.le_refl _
  | d + 1 => by show 3 ≤ 2 * szFm d + 3; omega
/-- names and rules as lists that the pot doesn't touch -/
structure LOk (K : PySem.W.Frag) (B : Hp) (a : Addr) (L : List Str) : Prop where
  at_ : SqL K B a (L.map V.str)
  pos : 0 < L.length
  few : L.length ≤ 1000
  sub : ∀ x ∈ L, x ∈ txS
theorem LOk.mono {K : PySem.W.Frag} {B B' : Hp} {a : Addr} {L : List Str} (e : Ex B B') (h : LOk K B a L) : LOk K B' a L := ⟨ex_l e h.at_, h.pos, h.few, h.sub⟩
noncomputable def sp_formula (K : PySem.W.Frag) (n : Nat) : Sp := fun vs H Q _ => ∃ (p : Addr) (d : Nat) (nl rl : Addr) (N R : List Str), vs = [.ref p, .int (d : Int), .ref nl, .ref rl] ∧ d < n ∧ PotAt H p ∧ LOk K (wo H p) nl N ∧ LOk K (wo H p) rl R ∧
  ∀ v t H2, Ex (wo H p) H2 → PotAt H2 p → Dq (wo H2 p) v t → DOk (d + 1) (szFm d) t → Q v H2
section
variable {K : PySem.W.Frag} {σ : L2.St} {H : Hp} {p : Addr} {i j : Nat} {ta tb te : TE} {Q : VK} {E : XK}
theorem if_mid {c : TT} {b : Bool} (Z : V → Hp → Prop) (hc : EvT c σ H b) (h1 : b = true → ∀ H1, Ex H H1 → ∀ Q' : VK, (∀ v H2, Z v H2 → Q' v H2) → ta σ H1 Q') (h2 : b = false → ∀ H1, Ex H H1 → ∀ Q' : VK, (∀ v H2, Z v H2 → Q' v H2) → tb σ H1 Q') (k : ∀ v H2, Z v H2 → Q v H2) : tIf c ta tb σ H Q := hc H (Ex.refl _) _ fun H1 e1 => by
  cases b with
  | true => rw [if_pos rfl]; exact h1 rfl H1 e1 Q k
  | false => rw [if_neg (by decide)]; exact h2 rfl H1 e1 Q k
theorem pickV {s : Addr} {L : List Str} (hp : PotAt H p) (hv : σ[i]? = some (some (.ref p))) (hs : σ[j]? = some (some (.ref s))) (hl : LOk K (wo H p) s L) (k : ∀ (x : Str) (H2 : Hp), x ∈ L → Ex (wo H p) H2 → PotAt H2 p → Q (.str x) H2) :
    tCall (sp_pick K) [] E (tCons (tVar i) (tCons (tVar j) tNil)) σ H Q := ⟨.ref p, hv, .ref s, hs, p, s, L.map V.str, rfl, hp, hl.at_, by rw [List.length_map]; exact hl.pos, by rw [List.length_map]; exact hl.few, fun m v H2 hm e h2 => by
      rw [List.getElem?_map] at hm
      obtain ⟨x, hx, rfl⟩ := Option.map_eq_some_iff.mp hm
      exact k x H2 (List.mem_of_getElem? hx) e h2⟩
theorem numC (hp : PotAt H p) (hv : σ[i]? = some (some (.ref p))) (k : ∀ m H2, -12 ≤ m → m ≤ 12 → Ex (wo H p) H2 → PotAt H2 p → Q (.int m) H2) : tCall sp_number [] E (tCons (tVar i) tNil) σ H Q := ⟨.ref p, hv, p, rfl, hp, k⟩
theorem formC {n d : Nat} {nl rl : Addr} {N R : List Str} {i2 i3 : Nat} (hp : PotAt H p) (hv : σ[i]? = some (some (.ref p))) (hd : Ev te σ H (.int (d : Int))) (h2 : σ[i2]? = some (some (.ref nl))) (h3 : σ[i3]? = some (some (.ref rl))) (hn : d < n) (ln : LOk K (wo H p) nl N) (lr : LOk K (wo H p) rl R)
    (k : ∀ v t H2, Ex (wo H p) H2 → PotAt H2 p → Dq (wo H2 p) v t → DOk (d + 1) (szFm d) t → Q v H2) : tCall (sp_formula K n) [] E (tCons (tVar i) (tCons te (tCons (tVar i2) (tCons (tVar i3) tNil)))) σ H Q := ⟨.ref p, hv, hd H (Ex.refl _) _ fun H1 e1 => ⟨.ref nl, h2, .ref rl, h3, p, d, nl, rl, N, R, rfl, hn, hp.mono e1, ln.mono (wo_mono e1), lr.mono (wo_mono e1), fun v t H2 e2 => k v t H2 ((wo_mono e1).trans e2)⟩⟩
theorem dq_new {q : Addr} {xs : List V} {ds : List PyData} (hp : PotAt H p) (hq : H q = none) (k : DqAll (wo H p) xs ds) : Dq (wo (upd H q (.tup xs)) p) (.ref q) (.tuple ds) := by
  obtain ⟨o, ho⟩ := hp.some
  refine .tup ?_ (k.mono (wo_mono (Ex.new hq)))
  rw [wo_ne (ne_of_none ho hq).symm]
  exact upd_same
end
section
variable {P : Program} {w : World} {K : PySem.W.Frag} {mg : Str → Option Value} {base : Heap} {SZ SY : Addr}
/-- ["..", ".."][i] -/
theorem ev_word {σ : L2.St} {H : Hp} {tA : TA} {tb : TE} (ws : List Str) {k : Nat} {x : Str} (ha : EvA tA σ H (ws.map V.str)) (hb : Ev tb σ H (.int (k : Int))) (hk : ws[k]? = some x) (hz : ws.length ≤ 100) : Ev (tOp (rIxL K) (tLst tA) tb) σ H (.str x) :=
  ev_opL1 (el_lst ha (by rw [List.length_map]; omega)) (fun H1 e1 => hb.mono e1) fun p H1 h1 e1 => rv_ixL (sq_of h1) (atI_nat (by rw [List.getElem?_map, hk] <;> rfl))
theorem ok_formula {f f1 f2 f3 : Addr} {fd fd1 fd2 fd3 : FuncData} (F : Fun K "_law_formula" "_law_formula" s__law_formula f fd) (T : Txt P w K mg SZ SY) (me : Me K mg "_law_formula" f fd ["_law_pot_here", "_law_deep_here", "_law_names", "_law_rules"]) (c__law_draw : Cal P w K mg base "_law_draw" f1 fd1 ["_law_pot_here", "_law_many"] 1 sp_draw) (c__law_pick : Cal P w K mg base "_law_pick" f2 fd2 ["_law_pot_here", "_law_some_here"] 2 (sp_pick K)) (c__law_number : Cal P w K mg base "_law_number" f3 fd3 ["_law_pot_here"] 3 sp_number) :
    ∀ n, FnOk P w K mg base CX0 (n + 4) f fd ["_law_pot_here", "_law_deep_here", "_law_names", "_law_rules"] (sp_formula K n) := by
  intro n
  induction n with
  | zero => exact ⟨fun vs H Q E h => by obtain ⟨p, d, nl, rl, N, R, _, hd, _⟩ := h; exact absurd hd (Nat.not_lt_zero _), fun A outer s H args us vs Q E _ _ _ _ h => by obtain ⟨p, d, nl, rl, N, R, _, hd, _⟩ := h; exact absurd hd (Nat.not_lt_zero _)⟩
  | succ n ih =>
  have c__law_formula : Cal P w K mg base "_law_formula" f fd ["_law_pot_here", "_law_deep_here", "_law_names", "_law_rules"] (n + 4) (sp_formula K n) := ⟨ih, me.mgx, me.kp, me.bd⟩
  refine F.ok (k := n + 4) sc__law_formula (fun vs H Q E h => ?_) (fun cdv A outer s H vs Q E hr h => ?_)
  · obtain ⟨p, d, nl, rl, N, R, rfl, _⟩ := h
    rfl
  · obtain ⟨p, d, nl, rl, N, R, rfl, hdn, hp, ln, lr, k⟩ := h
    refine ⟨_, (pss_cons (ps_set (i := 4) sc__law_formula.nd rfl (Or.inl rfl) (pe_ifExp (pt_cmpR op_gt (pv 1) pe_int (nomark _)) (pe_call c__law_draw.ok (hr.mono (by omega)) (by rfl) c__law_draw.mgx c__law_draw.kp c__law_draw.bd .nil pass0 (pa_cons (pv 0) (pa_cons pe_int pa_nil))) (pe_call c__law_draw.ok (hr.mono (by omega)) (by rfl) c__law_draw.mgx c__law_draw.kp c__law_draw.bd .nil pass0 (pa_cons (pv 0) (pa_cons pe_int pa_nil))))) (pss_cons (ps_if (pt_cmpR op_lt (pv 4) pe_int (nomark _)) (pss_one (ps_ret (pe_tup (pa_cons pe_str (pa_cons (pe_call c__law_pick.ok (hr.mono (by omega)) (by rfl) c__law_pick.mgx c__law_pick.kp c__law_pick.bd .nil pass0 (pa_cons (pv 0) (pa_cons (pv 2) pa_nil))) pa_nil))))) pss_nil) (pss_cons (ps_if (pt_cmpR op_eq (pv 4) pe_int (nomark _)) (pss_one (ps_ret (pe_tup (pa_cons pe_str (pa_cons (pe_call c__law_number.ok (hr.mono (by omega)) (by rfl) c__law_number.mgx c__law_number.kp c__law_number.bd .nil pass0 (pa_cons (pv 0) pa_nil)) pa_nil))))) pss_nil) (pss_cons (ps_set (i := 5) sc__law_formula.nd rfl (Or.inl rfl) (pe_call c__law_formula.ok (hr.mono (by omega)) (by rfl) c__law_formula.mgx c__law_formula.kp c__law_formula.bd .nil pass0 (pa_cons (pv 0) (pa_cons (pe_op op_sub (pv 1) pe_int) (pa_cons (pv 2) (pa_cons (pv 3) pa_nil)))))) (pss_cons (ps_if (pt_cmpR op_eq (pv 4) pe_int (nomark _)) (pss_one (ps_ret (pe_tup (pa_cons pe_str (pa_cons (pe_call c__law_number.ok (hr.mono (by omega)) (by rfl) c__law_number.mgx c__law_number.kp c__law_number.bd .nil pass0 (pa_cons (pv 0) pa_nil)) (pa_cons (pv 5) pa_nil)))))) pss_nil) (pss_cons (ps_if (pt_cmpR op_lt (pv 4) pe_int (nomark _)) (pss_one (ps_ret (pe_tup (pa_cons (pe_ix (ixL (K := K) rfl) (pe_lst (pa_cons pe_str (pa_cons pe_str (pa_cons pe_str (pa_cons pe_str pa_nil))))) (pe_op op_sub (pv 4) pe_int) (fun _ _ => rfl)) (pa_cons (pe_call c__law_pick.ok (hr.mono (by omega)) (by rfl) c__law_pick.mgx c__law_pick.kp c__law_pick.bd .nil pass0 (pa_cons (pv 0) (pa_cons (pv 3) pa_nil))) (pa_cons (pv 5) pa_nil)))))) pss_nil) (pss_one (ps_ret (pe_tup (pa_cons (pe_ix (ixL (K := K) rfl) (pe_lst (pa_cons pe_str (pa_cons pe_str (pa_cons pe_str pa_nil)))) (pe_op op_sub (pv 4) pe_int) (fun _ _ => rfl)) (pa_cons (pv 5) (pa_cons (pe_call c__law_formula.ok (hr.mono (by omega)) (by rfl) c__law_formula.mgx c__law_formula.kp c__law_formula.bd .nil pass0 (pa_cons (pv 0) (pa_cons (pe_op op_sub (pv 1) pe_int) (pa_cons (pv 2) (pa_cons (pv 3) pa_nil))))) pa_nil)))))))))))), ?_⟩
    refine asg_k (if_mid (b := decide ((d : Int) > 0)) (fun v H2 => ∃ m : Int, v = .int m ∧ 0 ≤ m ∧ m < 11 ∧ (3 ≤ m → 1 ≤ d) ∧ Ex (wo H p) H2 ∧ PotAt H2 p) (et_test (ev_op (ev_var rfl) ev_c rv_I0)) (fun hb H1 e1 Q' q' => drawC (hp.mono e1) rfl ev_c (by decide) (by decide) fun m H2 m0 m1 e2 h2 => q' _ H2 ⟨m, rfl, m0, m1, fun _ => by have := of_decide_eq_true hb; omega, (wo_mono e1).trans e2, h2⟩) (fun hb H1 e1 Q' q' => drawC (hp.mono e1) rfl ev_c (by decide) (by decide) fun m H2 m0 m1 e2 h2 => q' _ H2 ⟨m, rfl, m0, by omega, fun _ => by omega, (wo_mono e1).trans e2, h2⟩) ?_)
    rintro _ H2 ⟨m, rfl, m0, m11, md, e2, hp2⟩
    have hz := szFm_ge d
    refine q_when (b := decide (m < 2)) (et_test (ev_op (ev_var rfl) ev_c rv_I0)) (fun _ H3 e3 => ?_) (fun hm2 H3 e3 => ?_)
    · -- a name
      refine ret_k (tup_k (ac_v ev_c fun H4 e4 => ac_k (pickV (hp2.mono (e3.trans e4)) rfl rfl (ln.mono ((wo_sub e2).trans (wo_mono (e3.trans e4)))) fun x H5 hx e5 hp5 => ac_nil ⟨sz_of (by show 2 ≤ 100000; decide), fun q hq => ?_⟩)))
      have e05 : Ex (wo H p) H5 := wo_tr (e2.trans (e3.trans e4)) e5
      exact k _ _ _ (e05.trans (Ex.new hq)) (hp5.mono (Ex.new hq)) (dq_new hp5 hq (.cons (.str "day") (.cons (.str x) .nil))) (.leafS (by decide) (ln.sub x hx) (by omega) hz)
    · have hm2' : ¬ m < 2 := of_decide_eq_false hm2
      refine q_when (b := decide (V.int m = V.int 2)) (et_test (ev_op (ev_var rfl) ev_c (rv_eq rfl))) (fun _ H4 e4 => ?_) (fun hm3 H4 e4 => ?_)
      · -- a number
        refine ret_k (tup_k (ac_v ev_c fun H5 e5 => ac_k (numC (hp2.mono ((e3.trans e4).trans e5)) rfl fun x H6 x0 x1 e6 hp6 => ac_nil ⟨sz_of (by show 2 ≤ 100000; decide), fun q hq => ?_⟩)))
        have e06 : Ex (wo H p) H6 := wo_tr (e2.trans ((e3.trans e4).trans e5)) e6
        exact k _ _ _ (e06.trans (Ex.new hq)) (hp6.mono (Ex.new hq)) (dq_new hp6 hq (.cons (.str "num") (.cons (.int x) .nil))) (.leafI (by decide) (by omega) (by omega) hz)
      · have hm3' : m ≠ 2 := fun z => by rw [z] at hm3; exact absurd hm3 (by decide)
        have hd1 : 1 ≤ d := md (by omega)
        obtain ⟨d', rfl⟩ : ∃ d', d = d' + 1 := ⟨d - 1, by omega⟩
        have e04 : Ex (wo H p) H4 := e2.trans (e3.trans e4)
        have hp4 := hp2.mono (e3.trans e4)
        refine asg_k (formC (d := d') hp4 rfl (ev_is (ev_op (ev_var rfl) ev_c rv_I0) (by show V.int (((d' + 1 : Nat) : Int) - 1) = _; congr 1; omega)) rfl rfl (by omega) (ln.mono (wo_sub e04)) (lr.mono (wo_sub e04)) fun v1 t1 H5 e5 hp5 a5 f5 => ?_)
        have e05 : Ex (wo H p) H5 := wo_tr e04 e5
        have hz5 := szFm_ge d'
        have es : szFm (d' + 1) = 2 * szFm d' + 3 := rfl
        refine q_when (b := decide (V.int m = V.int 3)) (et_test (ev_op (ev_var rfl) ev_c (rv_eq rfl))) (fun _ H6 e6 => ?_) (fun hm4 H6 e6 => ?_)
        · refine ret_k (tup_k (ac_v ev_c fun H7 e7 => ac_k (numC (hp5.mono (e6.trans e7)) rfl fun x H8 x0 x1 e8 hp8 => ac_v (ev_var rfl) fun H9 e9 => ac_nil ⟨sz_of (by show 3 ≤ 100000; decide), fun q hq => ?_⟩)))
          have e09 : Ex (wo H p) H9 := (wo_tr (e05.trans (e6.trans e7)) e8).trans e9
          have a9 : Dq (wo H9 p) v1 t1 := a5.mono (((wo_mono (e6.trans e7)).trans (wo_sub e8)).trans (wo_mono e9))
          exact k _ _ _ (e09.trans (Ex.new hq)) ((hp8.mono e9).mono (Ex.new hq)) (dq_new (hp8.mono e9) hq (.cons (.str "add") (.cons (.int x) (.cons a9 .nil)))) (.overI (by decide) (by omega) f5 (by omega) (by omega))
        · have hm4' : m ≠ 3 := fun z => by rw [z] at hm4; exact absurd hm4 (by decide)
          refine q_when (b := decide (m < 8)) (et_test (ev_op (ev_var rfl) ev_c rv_I0)) (fun hm8 H7 e7 => ?_) (fun hm8 H7 e7 => ?_)
          · have hm8' : m < 8 := of_decide_eq_true hm8
            obtain ⟨j, rfl⟩ : ∃ j : Nat, m = 4 + (j : Int) := ⟨(m - 4).toNat, by omega⟩
            obtain ⟨wd, hw, hwt⟩ : ∃ wd : Str, (["on", "on", "by", "til"] : List Str)[j]? = some wd ∧ wd ∈ txS := by
              have : j = 0 ∨ j = 1 ∨ j = 2 ∨ j = 3 := by omega
              rcases this with e | e | e | e <;> subst e
              · exact ⟨"on", rfl, by decide⟩
              · exact ⟨"on", rfl, by decide⟩
              · exact ⟨"by", rfl, by decide⟩
              · exact ⟨"til", rfl, by decide⟩
            refine ret_k (tup_k (ac_v (ev_word (K := K) ["on", "on", "by", "til"] (ea_cons ev_c (ea_cons ev_c (ea_cons ev_c (ea_cons ev_c ea_nil)))) (ev_is (ev_op (ev_var rfl) ev_c rv_I0) (by congr 1; omega)) hw (by decide)) fun H8 e8 => ac_k (pickV (hp5.mono ((e6.trans e7).trans e8)) rfl rfl (lr.mono (wo_sub (e05.trans ((e6.trans e7).trans e8)))) fun x H9 hx e9 hp9 => ac_v (ev_var rfl) fun Ha ea => ac_nil ⟨sz_of (by show 3 ≤ 100000; decide), fun q hq => ?_⟩)))
            have e0a : Ex (wo H p) Ha := (wo_tr (e05.trans ((e6.trans e7).trans e8)) e9).trans ea
            have aa : Dq (wo Ha p) v1 t1 := a5.mono (((wo_mono ((e6.trans e7).trans e8)).trans (wo_sub e9)).trans (wo_mono ea))
            exact k _ _ _ (e0a.trans (Ex.new hq)) ((hp9.mono ea).mono (Ex.new hq)) (dq_new (hp9.mono ea) hq (.cons (.str wd) (.cons (.str x) (.cons aa .nil)))) (.overS hwt (lr.sub x hx) f5 (by omega) (by omega))
          · have hm8' : ¬ m < 8 := of_decide_eq_false hm8
            obtain ⟨j, rfl⟩ : ∃ j : Nat, m = 8 + (j : Int) := ⟨(m - 8).toNat, by omega⟩
            obtain ⟨wd, hw, hwt⟩ : ∃ wd : Str, (["late", "soon", "late"] : List Str)[j]? = some wd ∧ wd ∈ txS := by
              have : j = 0 ∨ j = 1 ∨ j = 2 := by omega
              rcases this with e | e | e <;> subst e
              · exact ⟨"late", rfl, by decide⟩
              · exact ⟨"soon", rfl, by decide⟩
              · exact ⟨"late", rfl, by decide⟩
            have e07 : Ex H5 H7 := e6.trans e7
            refine ret_k (tup_k (ac_v (ev_word (K := K) ["late", "soon", "late"] (ea_cons ev_c (ea_cons ev_c (ea_cons ev_c ea_nil))) (ev_is (ev_op (ev_var rfl) ev_c rv_I0) (by congr 1; omega)) hw (by decide)) fun H8 e8 => ac_v (ev_var rfl) fun H9 e9 => ac_k (formC (d := d') (hp5.mono ((e07.trans e8).trans e9)) rfl (ev_is (ev_op (ev_var rfl) ev_c rv_I0) (by show V.int (((d' + 1 : Nat) : Int) - 1) = _; congr 1; omega)) rfl rfl (by omega) (ln.mono (wo_sub (e05.trans ((e07.trans e8).trans e9)))) (lr.mono (wo_sub (e05.trans ((e07.trans e8).trans e9)))) fun v2 t2 Ha ea hpa aa fa => ac_nil ⟨sz_of (by show 3 ≤ 100000; decide), fun q hq => ?_⟩)))
            have e59 : Ex H5 H9 := (e07.trans e8).trans e9
            have e0a : Ex (wo H p) Ha := wo_tr (e05.trans e59) ea
            have a1 : Dq (wo Ha p) v1 t1 := a5.mono ((wo_mono e59).trans (wo_sub ea))
            exact k _ _ _ (e0a.trans (Ex.new hq)) (hpa.mono (Ex.new hq)) (dq_new hpa hq (.cons (.str wd) (.cons a1 (.cons aa .nil)))) (.two hwt f5 fa (by omega) (by omega) (by omega))
noncomputable def szSy : Nat → Nat
  | 0 => 2 * szFm 2 + 2
  | d + 1 => 2 * szSy d + 2
theorem szSy_ge : ∀ d, 2 * szFm 2 + 2 ≤ szSy d
  | 0 => Nat.le_refl _
  | d + 1 => by have := szSy_ge d; show _ ≤ 2 * szSy d + 2; omega
noncomputable def sp_saying (K : PySem.W.Frag) (n : Nat) : Sp := fun vs H Q _ => ∃ (p : Addr) (d : Nat) (nl rl : Addr) (N R : List Str), vs = [.ref p, .int (d : Int), .ref nl, .ref rl] ∧ d < n ∧ PotAt H p ∧ LOk K (wo H p) nl N ∧ LOk K (wo H p) rl R ∧
  ∀ v t H2, Ex (wo H p) H2 → PotAt H2 p → Dq (wo H2 p) v t → DOk (d + 4) (szSy d) t → Q v H2
theorem sayC {σ : L2.St} {H : Hp} {p : Addr} {i : Nat} {te : TE} {Q : VK} {E : XK} {n d : Nat} {nl rl : Addr} {N R : List Str} {i2 i3 : Nat} (hp : PotAt H p) (hv : σ[i]? = some (some (.ref p))) (hd : Ev te σ H (.int (d : Int))) (h2 : σ[i2]? = some (some (.ref nl))) (h3 : σ[i3]? = some (some (.ref rl))) (hn : d < n) (ln : LOk K (wo H p) nl N) (lr : LOk K (wo H p) rl R)
    (k : ∀ v t H2, Ex (wo H p) H2 → PotAt H2 p → Dq (wo H2 p) v t → DOk (d + 4) (szSy d) t → Q v H2) : tCall (sp_saying K n) [] E (tCons (tVar i) (tCons te (tCons (tVar i2) (tCons (tVar i3) tNil)))) σ H Q := ⟨.ref p, hv, hd H (Ex.refl _) _ fun H1 e1 => ⟨.ref nl, h2, .ref rl, h3, p, d, nl, rl, N, R, rfl, hn, hp.mono e1, ln.mono (wo_mono e1), lr.mono (wo_mono e1), fun v t H2 e2 => k v t H2 ((wo_mono e1).trans e2)⟩⟩
theorem ok_saying {f f1 f2 : Addr} {fd fd1 fd2 : FuncData} (F : Fun K "_law_saying" "_law_saying" s__law_saying f fd) (T : Txt P w K mg SZ SY) (me : Me K mg "_law_saying" f fd ["_law_pot_here", "_law_deep_here", "_law_names", "_law_rules"]) (c__law_draw : Cal P w K mg base "_law_draw" f1 fd1 ["_law_pot_here", "_law_many"] 1 sp_draw) (c__law_formula : Cal P w K mg base "_law_formula" f2 fd2 ["_law_pot_here", "_law_deep_here", "_law_names", "_law_rules"] (4 + 4) (sp_formula K 4)) :
    ∀ n, FnOk P w K mg base CX0 (n + 9) f fd ["_law_pot_here", "_law_deep_here", "_law_names", "_law_rules"] (sp_saying K n) := by
  intro n
  induction n with
  | zero => exact ⟨fun vs H Q E h => by obtain ⟨p, d, nl, rl, N, R, _, hd, _⟩ := h; exact absurd hd (Nat.not_lt_zero _), fun A outer s H args us vs Q E _ _ _ _ h => by obtain ⟨p, d, nl, rl, N, R, _, hd, _⟩ := h; exact absurd hd (Nat.not_lt_zero _)⟩
  | succ n ih =>
  have c__law_saying : Cal P w K mg base "_law_saying" f fd ["_law_pot_here", "_law_deep_here", "_law_names", "_law_rules"] (n + 9) (sp_saying K n) := ⟨ih, me.mgx, me.kp, me.bd⟩
  refine F.ok (k := n + 9) sc__law_saying (fun vs H Q E h => ?_) (fun cdv A outer s H vs Q E hr h => ?_)
  · obtain ⟨p, d, nl, rl, N, R, rfl, _⟩ := h
    rfl
  · obtain ⟨p, d, nl, rl, N, R, rfl, hdn, hp, ln, lr, k⟩ := h
    refine ⟨_, (pss_cons (ps_set (i := 4) sc__law_saying.nd rfl (Or.inl rfl) (pe_ifExp (pt_cmpR op_gt (pv 1) pe_int (nomark _)) (pe_call c__law_draw.ok (hr.mono (by omega)) (by rfl) c__law_draw.mgx c__law_draw.kp c__law_draw.bd .nil pass0 (pa_cons (pv 0) (pa_cons pe_int pa_nil))) pe_int)) (pss_cons (ps_if (pt_cmpR op_lt (pv 4) pe_int (nomark _)) (pss_one (ps_ret (pe_tup (pa_cons pe_str (pa_cons (pe_call c__law_formula.ok (hr.mono (by omega)) (by rfl) c__law_formula.mgx c__law_formula.kp c__law_formula.bd .nil pass0 (pa_cons (pv 0) (pa_cons pe_int (pa_cons (pv 2) (pa_cons (pv 3) pa_nil))))) (pa_cons (pe_call c__law_formula.ok (hr.mono (by omega)) (by rfl) c__law_formula.mgx c__law_formula.kp c__law_formula.bd .nil pass0 (pa_cons (pv 0) (pa_cons pe_int (pa_cons (pv 2) (pa_cons (pv 3) pa_nil))))) pa_nil)))))) pss_nil) (pss_cons (ps_set (i := 5) sc__law_saying.nd rfl (Or.inl rfl) (pe_call c__law_saying.ok (hr.mono (by omega)) (by rfl) c__law_saying.mgx c__law_saying.kp c__law_saying.bd .nil pass0 (pa_cons (pv 0) (pa_cons (pe_op op_sub (pv 1) pe_int) (pa_cons (pv 2) (pa_cons (pv 3) pa_nil)))))) (pss_cons (ps_if (pt_cmpR op_eq (pv 4) pe_int (nomark _)) (pss_one (ps_ret (pe_tup (pa_cons pe_str (pa_cons (pv 5) pa_nil))))) pss_nil) (pss_one (ps_ret (pe_tup (pa_cons (pe_ix (ixL (K := K) rfl) (pe_lst (pa_cons pe_str (pa_cons pe_str pa_nil))) (pe_op op_sub (pv 4) pe_int) (fun _ _ => rfl)) (pa_cons (pv 5) (pa_cons (pe_call c__law_saying.ok (hr.mono (by omega)) (by rfl) c__law_saying.mgx c__law_saying.kp c__law_saying.bd .nil pass0 (pa_cons (pv 0) (pa_cons (pe_op op_sub (pv 1) pe_int) (pa_cons (pv 2) (pa_cons (pv 3) pa_nil))))) pa_nil)))))))))), ?_⟩
    refine asg_k (if_mid (b := decide ((d : Int) > 0)) (fun v H2 => ∃ m : Int, v = .int m ∧ 0 ≤ m ∧ m < 5 ∧ (2 ≤ m → 1 ≤ d) ∧ Ex (wo H p) H2 ∧ PotAt H2 p) (et_test (ev_op (ev_var rfl) ev_c rv_I0)) (fun hb H1 e1 Q' q' => drawC (hp.mono e1) rfl ev_c (by decide) (by decide) fun m H2 m0 m1 e2 h2 => q' _ H2 ⟨m, rfl, m0, m1, fun _ => by have := of_decide_eq_true hb; omega, (wo_mono e1).trans e2, h2⟩) (fun hb H1 e1 Q' q' => q' _ H1 ⟨0, rfl, by omega, by omega, fun _ => by omega, wo_ex.trans e1, hp.mono e1⟩) ?_)
    rintro _ H2 ⟨m, rfl, m0, m5, md, e2, hp2⟩
    have hz := szSy_ge d
    refine q_when (b := decide (m < 2)) (et_test (ev_op (ev_var rfl) ev_c rv_I0)) (fun _ H3 e3 => ?_) (fun hm2 H3 e3 => ?_)
    · refine ret_k (tup_k (ac_v ev_c fun H4 e4 => ac_k (formC (d := 2) (hp2.mono (e3.trans e4)) rfl ev_c rfl rfl (by decide) (ln.mono ((wo_sub e2).trans (wo_mono (e3.trans e4)))) (lr.mono ((wo_sub e2).trans (wo_mono (e3.trans e4)))) fun v1 t1 H5 e5 hp5 a5 f5 => ?_)))
      have e05 : Ex (wo H p) H5 := wo_tr (e2.trans (e3.trans e4)) e5
      refine ac_k (formC (d := 2) hp5 rfl ev_c rfl rfl (by decide) (ln.mono (wo_sub e05)) (lr.mono (wo_sub e05)) fun v2 t2 H6 e6 hp6 a6 f6 => ac_nil ⟨sz_of (by show 3 ≤ 100000; decide), fun q hq => ?_⟩)
      have a1 : Dq (wo H6 p) v1 t1 := a5.mono (wo_sub e6)
      exact k _ _ _ ((wo_tr e05 e6).trans (Ex.new hq)) (hp6.mono (Ex.new hq)) (dq_new hp6 hq (.cons (.str "le") (.cons a1 (.cons a6 .nil)))) (.two (by decide) f5 f6 (by omega) (by omega) (by omega))
    · have hm2' : ¬ m < 2 := of_decide_eq_false hm2
      have hd1 : 1 ≤ d := md (by omega)
      obtain ⟨d', rfl⟩ : ∃ d', d = d' + 1 := ⟨d - 1, by omega⟩
      have e03 : Ex (wo H p) H3 := e2.trans e3
      have es : szSy (d' + 1) = 2 * szSy d' + 2 := rfl
      refine asg_k (sayC (d := d') (hp2.mono e3) rfl (ev_is (ev_op (ev_var rfl) ev_c rv_I0) (by show V.int (((d' + 1 : Nat) : Int) - 1) = _; congr 1; omega)) rfl rfl (by omega) (ln.mono (wo_sub e03)) (lr.mono (wo_sub e03)) fun v1 t1 H5 e5 hp5 a5 f5 => ?_)
      have e05 : Ex (wo H p) H5 := wo_tr e03 e5
      refine q_when (b := decide (V.int m = V.int 2)) (et_test (ev_op (ev_var rfl) ev_c (rv_eq rfl))) (fun _ H6 e6 => ?_) (fun hm4 H6 e6 => ?_)
      · refine ret_k (tup_k (ac_v ev_c fun H7 e7 => ac_v (ev_var rfl) fun H8 e8 => ac_nil ⟨sz_of (by show 2 ≤ 100000; decide), fun q hq => ?_⟩))
        have e58 := (e6.trans e7).trans e8
        exact k _ _ _ ((e05.trans e58).trans (Ex.new hq)) ((hp5.mono e58).mono (Ex.new hq)) (dq_new (hp5.mono e58) hq (.cons (.str "not") (.cons (a5.mono (wo_mono e58)) .nil))) (.one (by decide) f5 (by omega) (by omega))
      · have hm4' : m ≠ 2 := fun z => by rw [z] at hm4; exact absurd hm4 (by decide)
        obtain ⟨j, rfl⟩ : ∃ j : Nat, m = 3 + (j : Int) := ⟨(m - 3).toNat, by omega⟩
        obtain ⟨wd, hw, hwt⟩ : ∃ wd : Str, (["and", "or"] : List Str)[j]? = some wd ∧ wd ∈ txS := by
          have : j = 0 ∨ j = 1 := by omega
          rcases this with e | e <;> subst e
          · exact ⟨"and", rfl, by decide⟩
          · exact ⟨"or", rfl, by decide⟩
        refine ret_k (tup_k (ac_v (ev_word (K := K) ["and", "or"] (ea_cons ev_c (ea_cons ev_c ea_nil)) (ev_is (ev_op (ev_var rfl) ev_c rv_I0) (by congr 1; omega)) hw (by decide)) fun H8 e8 => ac_v (ev_var rfl) fun H9 e9 => ac_k (sayC (d := d') (hp5.mono ((e6.trans e8).trans e9)) rfl (ev_is (ev_op (ev_var rfl) ev_c rv_I0) (by show V.int (((d' + 1 : Nat) : Int) - 1) = _; congr 1; omega)) rfl rfl (by omega) (ln.mono (wo_sub (e05.trans ((e6.trans e8).trans e9)))) (lr.mono (wo_sub (e05.trans ((e6.trans e8).trans e9)))) fun v2 t2 Ha ea hpa aa fa => ac_nil ⟨sz_of (by show 3 ≤ 100000; decide), fun q hq => ?_⟩)))
        have e59 : Ex H5 H9 := (e6.trans e8).trans e9
        have e0a : Ex (wo H p) Ha := wo_tr (e05.trans e59) ea
        have a1 : Dq (wo Ha p) v1 t1 := a5.mono ((wo_mono e59).trans (wo_sub ea))
        exact k _ _ _ (e0a.trans (Ex.new hq)) (hpa.mono (Ex.new hq)) (dq_new hpa hq (.cons (.str wd) (.cons a1 (.cons aa .nil)))) (.two hwt f5 fa (by omega) (by omega) (by omega))
end
end K20
end
section
set_option maxHeartbeats 4000000
namespace K20
open PySem L2 Evl G OQ
/-! ### what evaluates to data apart from the pot -/
theorem catA {X : Cx} {K : PySem.W.Frag} (hK : X.K = K) : OpR X (binaryOp .Add) (rCatA K) := hK ▸ op_catA
/-- [..]: the new list is not the dict of modules, which the machine has from its start -/
noncomputable def tLstB (t : TA) : TE := fun σ H Q => t σ H fun xs H1 => xs.length ≤ sizeLine ∧ ∀ p, H1 p = none → p ≠ sysModules → Q (.ref p) (upd H1 p (.lst xs))
theorem pe_lstB {X : Cx} {es : List Expr} {t : TA} {pos : Pos} (h : PA X es t) : PE X (.List es pos) (tLstB t) := ⟨fun pins s σ H Q I hq =>
  wpAny_List_spliced (thn (h.run pos pins s σ H _ I hq) fun us s1 ⟨xs, H1, I1, r, z, q⟩ => ⟨by rw [← r.length]; exact z,
    .ref s1.heap.objs.size, upd H1 s1.heap.objs.size (.lst xs), I1.laid (t' := s1.toks) (fun b u e => Heap.get?_push_of_some _ e) (Nat.le_refl _) ⟨z, us, 0, r, Heap.get?_push_size _ rfl⟩, rfl, q _ (I1.hok.fresh (Nat.le_refl _)) (Nat.ne_of_gt I1.big)⟩)⟩
/-- list(t), t a tuple -/
theorem call_list_ofB {X : Cx} : CallR X (.type "list") (fun xs H Q => ∃ p ys, xs = [.ref p] ∧ SqT X.K H p ys ∧ ∀ l, H l = none → l ≠ sysModules → Q (.ref l) (upd H l (.lst ys))) := by
  intro pins s σ H xs us Q I r h
  obtain ⟨p, ys, rfl, hq, q⟩ := h
  obtain ⟨u, rfl, rx⟩ := vals1 r
  cases rx
  obtain ⟨its, r', ⟨o, ho, hc, n, hd⟩, hz⟩ := I.tuple hq
  have hlen := r'.length
  exact call_list_seq p (.inr rfl) ho hc hd (fun h' c' kp e => ⟨.ref s.heap.objs.size, _, I.laid (t' := s.toks) kp (Nat.le_refl _) (show ObjOk X.prog X.w _ h' _ (.lst ys) from ⟨hz, its, c', r', e⟩), rfl, q _ (I.hok.fresh (Nat.le_refl _)) (Nat.ne_of_gt I.big)⟩) (by simp only [List.size_toArray] <;> omega)
/-- the heap with the places Z out of sight: the pot, a list that still grows -/
noncomputable def hid (Z : List Addr) (H : Hp) : Hp := fun b => if b ∈ Z then none else H b
theorem hid_off {Z : List Addr} {H : Hp} {b : Addr} (h : b ∉ Z) : hid Z H b = H b := if_neg h
theorem hid_at {Z : List Addr} {H : Hp} {b : Addr} (h : b ∈ Z) : hid Z H b = none := if_pos h
theorem hid_ex {Z : List Addr} {H : Hp} : Ex (hid Z H) H := fun b o h => by
  by_cases hb : b ∈ Z
  · rw [hid_at hb] at h; cases h
  · rwa [hid_off hb] at h
theorem hid_mono {Z : List Addr} {H H' : Hp} (e : Ex H H') : Ex (hid Z H) (hid Z H') := fun b o h => by
  by_cases hb : b ∈ Z
  · rw [hid_at hb] at h; cases h
  · rw [hid_off hb] at h ⊢; exact e b o h
theorem hid_wo {Z : List Addr} {H : Hp} {p : Addr} (hp : p ∈ Z) : Ex (hid Z H) (wo H p) := fun b o h => by
  by_cases hb : b ∈ Z
  · rw [hid_at hb] at h; cases h
  · rw [hid_off hb] at h
    rwa [wo_ne (show b ≠ p from fun z => hb (by rw [z]; exact hp))]
theorem hid_sub {Z : List Addr} {H H' : Hp} {p : Addr} (hp : p ∈ Z) (e : Ex (wo H p) H') : Ex (hid Z H) (hid Z H') := fun b o h => by
  by_cases hb : b ∈ Z
  · rw [hid_at hb] at h; cases h
  · have := e b o (hid_wo hp b o h)
    rwa [hid_off hb]
theorem hid_one {p : Addr} {H : Hp} : hid [p] H = wo H p := by
  funext b
  by_cases hb : b = p
  · subst hb; rw [wo_at, hid_at (by simp)]
  · rw [wo_ne hb, hid_off (by simpa using hb)]
noncomputable def Hd (Z : List Addr) (H : Hp) : Prop := ∀ b ∈ Z, ∃ o, H b = some o
theorem Hd.mono {Z : List Addr} {H H' : Hp} (h : Hd Z H) (e : Ex H H') : Hd Z H' := fun b hb => let ⟨o, ho⟩ := h b hb; ⟨o, e b o ho⟩
theorem Hd.step {Z : List Addr} {H H' : Hp} {p : Addr} (h : Hd Z H) (e : Ex (wo H p) H') (hp : PotAt H' p) : Hd Z H' := fun b hb => by
  by_cases hq : b = p
  · rw [hq]; exact hp.some
  · obtain ⟨o, ho⟩ := h b hb
    exact ⟨o, e b o (by rwa [wo_ne hq])⟩
theorem Hd.new {Z : List Addr} {H : Hp} {a : Addr} (h : Hd Z H) (ha : H a = none) : a ∉ Z := fun z => by
  obtain ⟨o, ho⟩ := h a z
  rw [ha] at ho; cases ho
noncomputable def EvW (Z : List Addr) (te : TE) (σ : L2.St) (H : Hp) (d : PyData) : Prop := ∀ H1, Ex H H1 → ∀ Q : VK, (∀ v H2, Ex H1 H2 → Dq (hid Z H2) v d → Q v H2) → te σ H1 Q
noncomputable def EvAW (Z : List Addr) (tA : TA) (σ : L2.St) (H : Hp) (ds : List PyData) : Prop := ∀ H1, Ex H H1 → ∀ Q : List V → Hp → Prop, (∀ vs H2, Ex H1 H2 → DqAll (hid Z H2) vs ds → Q vs H2) → tA σ H1 Q
noncomputable def EvLw (Z : List Addr) (te : TE) (σ : L2.St) (H : Hp) (ds : List PyData) : Prop := ∀ H1, Ex H H1 → ∀ Q : VK, (∀ a vs H2, H1 a = none → Ex H1 H2 → hid Z H2 a = some (.lst vs) → DqAll (hid Z H2) vs ds → Q (.ref a) H2) → te σ H1 Q
section
variable {K : PySem.W.Frag} {σ : L2.St} {H : Hp} {te ta tb : TE} {tA : TA} {v : V} {d : PyData} {ds es : List PyData} {D : Ends} {tz : TS} {i : Nat} {p : Addr} {Z : List Addr}
theorem ew_of (h : Ev te σ H v) (hd : ∀ H1, Dq H1 v d) : EvW Z te σ H d := fun H1 e Q q => h H1 e Q fun H2 e2 => q v H2 e2 (hd _)
theorem ew_non : EvW Z (tC .non) σ H .none := ew_of ev_c fun _ => .non
theorem ew_bl {b : Bool} : EvW Z (tC (.bl b)) σ H (.bool b) := ew_of ev_c fun _ => .bl b
theorem ew_int {i : Int} : EvW Z (tC (.int i)) σ H (.int i) := ew_of ev_c fun _ => .int i
theorem ew_neg {i : Int} : EvW Z (tUn (rU fun i => .int (-i)) (tC (.int i))) σ H (.int (-i)) := ew_of (ev_un ev_c ru_neg) fun _ => .int (-i)
theorem ew_str {x : Str} : EvW Z (tC (.str x)) σ H (.str x) := ew_of ev_c fun _ => .str x
theorem aw_nil : EvAW Z tNil σ H [] := fun H1 _ Q q => q [] H1 (Ex.refl _) .nil
theorem aw_cons (h : EvW Z te σ H d) (t : EvAW Z tA σ H ds) : EvAW Z (tCons te tA) σ H (d :: ds) := fun H1 e Q q =>
  h H1 e _ fun v H2 e2 a => t H2 (e.trans e2) _ fun vs H3 e3 k => q (v :: vs) H3 (e2.trans e3) (.cons (a.mono (hid_mono e3)) k)
theorem ew_tup (hp : Hd Z H) (h : EvAW Z tA σ H ds) (hl : ds.length ≤ 100000) : EvW Z (tTup tA) σ H (.tuple ds) := fun H1 e Q q =>
  h H1 e _ fun vs H2 e2 k => ⟨sz_of (by rw [k.len]; exact hl), fun a ha => q _ _ (e2.trans (Ex.new ha)) (.tup (by rw [hid_off ((hp.mono (e.trans e2)).new ha)]; exact upd_same) (k.mono (hid_mono (Ex.new ha))))⟩
theorem lw_lst (hp : Hd Z H) (h : EvAW Z tA σ H ds) (hl : ds.length ≤ 100000) : EvLw Z (tLstB tA) σ H ds := fun H1 e Q q =>
  h H1 e _ fun vs H2 e2 k => ⟨sz_of (by rw [k.len]; exact hl), fun a ha _ => q a vs _ (fresh_back e2 ha) (e2.trans (Ex.new ha)) (by rw [hid_off ((hp.mono (e.trans e2)).new ha)]; exact upd_same) (k.mono (hid_mono (Ex.new ha)))⟩
theorem ew_lst (hp : Hd Z H) (h : EvAW Z tA σ H ds) (hl : ds.length ≤ 100000) : EvW Z (tLstB tA) σ H (.list ds) := fun H1 e Q q =>
  h H1 e _ fun vs H2 e2 k => ⟨sz_of (by rw [k.len]; exact hl), fun a ha hs => q _ _ (e2.trans (Ex.new ha)) (.lst hs (by rw [hid_off ((hp.mono (e.trans e2)).new ha)]; exact upd_same) (k.mono (hid_mono (Ex.new ha))))⟩
theorem ew_dnew (hp : Hd Z H) : EvW Z tDNewK σ H (.dict []) := fun H1 e Q q a ha => q _ _ (Ex.new ha) (.dct [] (by rw [hid_off ((hp.mono e).new ha)]; exact upd_same))
theorem ew_done (hp : Hd Z H) {x : Str} {i : Int} : EvW Z (tDisp [(tC (.str x), tC (.int i))]) σ H (.dict [(.str x, .int i)]) := fun H1 e Q q a ha => by
  refine ⟨upd_same, [(Sum.inr x, V.int i)], rfl, by show 1 ≤ 15; decide, ?_⟩
  rw [upd_upd]
  refine q _ _ (Ex.new ha) (.dct [(x, i)] ?_)
  rw [hid_off ((hp.mono e).new ha)]; exact upd_same
/-- x + [..] -/
theorem lw_cat {l : Addr} {xs : List V} (hp : Hd Z H) (ha : Ev ta σ H (.ref l)) (hl : hid Z H l = some (.lst xs)) (k : DqAll (hid Z H) xs ds) (hb : EvLw Z tb σ H es) (hz : ds.length + es.length ≤ 100000) : EvLw Z (tOp rCat ta tb) σ H (ds ++ es) := fun H1 e Q q =>
  ha H1 e _ fun H2 e2 => hb H2 (e.trans e2) _ fun r ys H3 hr e3 h3 k3 => by
    have x3 := (e.trans e2).trans e3
    have hl3 : H3 l = some (.lst xs) := hid_ex _ _ (hid_mono x3 _ _ hl)
    refine ⟨l, r, xs, ys, rfl, rfl, hl3, hid_ex _ _ h3, sz_of (by rw [k.len, k3.len]; exact hz), fun u hu => q u _ _ (fresh_back (e2.trans e3) hu) ((e2.trans e3).trans (Ex.new hu)) ?_ (((k.mono (hid_mono x3)).app k3).mono (hid_mono (Ex.new hu)))⟩
    rw [hid_off ((hp.mono x3).new hu)]; exact upd_same
theorem q_lw (h : EvLw Z te σ H ds) (k : ∀ a vs H1, H a = none → Ex H H1 → hid Z H1 a = some (.lst vs) → DqAll (hid Z H1) vs ds → tz D (σ.set i (some (.ref a))) H1) : tSeq (tAsg te (gName i)) tz D σ H := h H (Ex.refl H) _ k
/-- pick(pot, s), s a list of data -/
theorem pickQ {s : Addr} {xs : List V} {j : Nat} {Q : VK} {E : XK} (hp : PotAt H p) (hz : p ∈ Z) (hv : σ[i]? = some (some (.ref p))) (hs : σ[j]? = some (some (.ref s))) (hl : hid Z H s = some (.lst xs)) (kk : DqAll (hid Z H) xs ds) (h0 : 0 < ds.length) (h1 : ds.length ≤ 1000)
    (k : ∀ (v : V) (d : PyData) (H2 : Hp), d ∈ ds → Ex (wo H p) H2 → PotAt H2 p → Dq (hid Z H2) v d → Q v H2) : tCall (sp_pick K) [] E (tCons (tVar i) (tCons (tVar j) tNil)) σ H Q := ⟨.ref p, hv, .ref s, hs, p, s, xs, rfl, hp, sq_of (hid_wo hz _ _ hl), by rw [kk.len]; exact h0, by rw [kk.len]; exact h1, fun m v H2 hm e h2 => by
      obtain ⟨d, hd, a⟩ := kk.get hm
      exact k v d H2 (List.mem_of_getElem? hd) e h2 (a.mono (hid_sub hz e))⟩
end
/-! ### odd values -/
structure VOk (n m : Nat) (t : PyData) : Prop where
  f : fine t = true
  dp : dep t ≤ n
  sz : nod t ≤ m
noncomputable def odd1 : List PyData := [.bool true, .bool false, .none, .int 0, .int (-1), .int 7, .str "", .str "a", .str "h", .str "i", .str "p", .str "z", .str "o", .str "pq", .str "ab", .str "A", .str "X", .str "on", .str "le", .str "day", .str "num"]
noncomputable def odd2 : List PyData := [.tuple [], .list [], .dict [], .tuple [.str "day", .str "x"], .tuple [.str "num", .int 3], .tuple [.str "num", .bool true], .list [.str "day", .str "x"], .list [.str "num", .int 0], .tuple [.str "on", .str "a", .tuple [.str "num", .int 0]]]
noncomputable def odd3 : List PyData := [.tuple [.str "le", .tuple [.str "day", .str "x"], .tuple [.str "num", .int 0]], .tuple [.str "not", .tuple [.str "le", .tuple [.str "day", .str "y"], .tuple [.str "num", .int 1]]], .dict [(.str "x", .int 0)], .tuple [.str "add", .int 0, .int 0]]
theorem odd_ok : ∀ d ∈ odd1 ++ odd2 ++ odd3, VOk 4 20 d := by
  intro d hd
  have h : ((odd1 ++ odd2 ++ odd3).all fun d => fine d && decide (dep d ≤ 4) && decide (nod d ≤ 20)) = true := by decide +kernel
  have := List.all_eq_true.mp h d hd
  rw [Bool.and_eq_true, Bool.and_eq_true, decide_eq_true_iff, decide_eq_true_iff] at this
  exact ⟨this.1.1, this.1.2, this.2⟩
noncomputable def sp_odd : Sp := fun vs H Q _ => ∃ p Z, vs = [.ref p] ∧ PotAt H p ∧ p ∈ Z ∧ Hd Z H ∧ ∀ v d H2, Ex (wo H p) H2 → PotAt H2 p → Dq (hid Z H2) v d → VOk 4 20 d → Q v H2
section
variable {P : Program} {w : World} {K : PySem.W.Frag} {mg : Str → Option Value} {base : Heap} {SZ SY : Addr}
theorem ok_odd {f f1 : Addr} {fd fd1 : FuncData} (F : Fun K "_law_odd" "_law_odd" s__law_odd f fd) (T : Txt P w K mg SZ SY) (c__law_pick : Cal P w K mg base "_law_pick" f1 fd1 ["_law_pot_here", "_law_some_here"] 2 (sp_pick K)) : FnOk P w K mg base CX0 3 f fd ["_law_pot_here"] sp_odd := by
  refine F.ok sc__law_odd (fun vs H Q E h => ?_) (fun cdv A outer s H vs Q E hr h => ?_)
  · obtain ⟨p, Z, rfl, _⟩ := h
    rfl
  · obtain ⟨p, Z, rfl, hp, hz, ex, k⟩ := h
    refine ⟨_, (pss_cons (ps_set (i := 1) sc__law_odd.nd rfl (Or.inl rfl) (pe_lstB (pa_cons pe_bl (pa_cons pe_bl (pa_cons pe_non (pa_cons pe_int (pa_cons (pe_un un_neg pe_int) (pa_cons pe_int (pa_cons pe_str (pa_cons pe_str (pa_cons pe_str (pa_cons pe_str (pa_cons pe_str (pa_cons pe_str (pa_cons pe_str (pa_cons pe_str (pa_cons pe_str (pa_cons pe_str (pa_cons pe_str (pa_cons pe_str (pa_cons pe_str (pa_cons pe_str (pa_cons pe_str pa_nil))))))))))))))))))))))) (pss_cons (ps_set (i := 1) sc__law_odd.nd rfl (Or.inl rfl) (pe_op op_cat (pv 1) (pe_lstB (pa_cons (pe_tup pa_nil) (pa_cons (pe_lstB pa_nil) (pa_cons pe_dnewK (pa_cons (pe_tup (pa_cons pe_str (pa_cons pe_str pa_nil))) (pa_cons (pe_tup (pa_cons pe_str (pa_cons pe_int pa_nil))) (pa_cons (pe_tup (pa_cons pe_str (pa_cons pe_bl pa_nil))) (pa_cons (pe_lstB (pa_cons pe_str (pa_cons pe_str pa_nil))) (pa_cons (pe_lstB (pa_cons pe_str (pa_cons pe_int pa_nil))) (pa_cons (pe_tup (pa_cons pe_str (pa_cons pe_str (pa_cons (pe_tup (pa_cons pe_str (pa_cons pe_int pa_nil))) pa_nil)))) pa_nil)))))))))))) (pss_cons (ps_set (i := 1) sc__law_odd.nd rfl (Or.inl rfl) (pe_op op_cat (pv 1) (pe_lstB (pa_cons (pe_tup (pa_cons pe_str (pa_cons (pe_tup (pa_cons pe_str (pa_cons pe_str pa_nil))) (pa_cons (pe_tup (pa_cons pe_str (pa_cons pe_int pa_nil))) pa_nil)))) (pa_cons (pe_tup (pa_cons pe_str (pa_cons (pe_tup (pa_cons pe_str (pa_cons (pe_tup (pa_cons pe_str (pa_cons pe_str pa_nil))) (pa_cons (pe_tup (pa_cons pe_str (pa_cons pe_int pa_nil))) pa_nil)))) pa_nil))) (pa_cons (pe_disp (pps_cons pe_str pe_int pps_nil) rfl rfl (by intro z; cases z) (by decide)) (pa_cons (pe_tup (pa_cons pe_str (pa_cons pe_int (pa_cons pe_int pa_nil)))) pa_nil))))))) (pss_one (ps_ret (pe_call c__law_pick.ok (hr.mono (by decide)) (by rfl) c__law_pick.mgx c__law_pick.kp c__law_pick.bd .nil pass0 (pa_cons (pv 0) (pa_cons (pv 1) pa_nil)))))))), ?_⟩
    refine q_lw (Z := Z) (ds := odd1) (lw_lst ex (aw_cons ew_bl (aw_cons ew_bl (aw_cons ew_non (aw_cons ew_int (aw_cons ew_neg (aw_cons ew_int (aw_cons ew_str (aw_cons ew_str (aw_cons ew_str (aw_cons ew_str (aw_cons ew_str (aw_cons ew_str (aw_cons ew_str (aw_cons ew_str (aw_cons ew_str (aw_cons ew_str (aw_cons ew_str (aw_cons ew_str (aw_cons ew_str (aw_cons ew_str (aw_cons ew_str aw_nil))))))))))))))))))))) (by decide)) fun a1 v1 H1 ha1 e1 h1 k1 => ?_
    have ex1 : Hd Z H1 := ex.mono e1
    refine q_lw (Z := Z) (ds := odd1 ++ odd2) (lw_cat ex1 (ev_var rfl) h1 k1 (lw_lst ex1 (aw_cons (ew_tup ex1 aw_nil (by decide)) (aw_cons (ew_lst ex1 aw_nil (by decide)) (aw_cons (ew_dnew ex1) (aw_cons (ew_tup ex1 (aw_cons ew_str (aw_cons ew_str aw_nil)) (by decide)) (aw_cons (ew_tup ex1 (aw_cons ew_str (aw_cons ew_int aw_nil)) (by decide)) (aw_cons (ew_tup ex1 (aw_cons ew_str (aw_cons ew_bl aw_nil)) (by decide))
      (aw_cons (ew_lst ex1 (aw_cons ew_str (aw_cons ew_str aw_nil)) (by decide)) (aw_cons (ew_lst ex1 (aw_cons ew_str (aw_cons ew_int aw_nil)) (by decide)) (aw_cons (ew_tup ex1 (aw_cons ew_str (aw_cons ew_str (aw_cons (ew_tup ex1 (aw_cons ew_str (aw_cons ew_int aw_nil)) (by decide)) aw_nil))) (by decide)) aw_nil))))))))) (by decide)) (by decide)) fun a2 v2 H2 ha2 e2 h2 k2 => ?_
    have ex2 : Hd Z H2 := ex1.mono e2
    refine q_lw (Z := Z) (ds := odd1 ++ odd2 ++ odd3) (lw_cat ex2 (ev_var rfl) h2 k2 (lw_lst ex2 (aw_cons (ew_tup ex2 (aw_cons ew_str (aw_cons (ew_tup ex2 (aw_cons ew_str (aw_cons ew_str aw_nil)) (by decide)) (aw_cons (ew_tup ex2 (aw_cons ew_str (aw_cons ew_int aw_nil)) (by decide)) aw_nil))) (by decide)) (aw_cons (ew_tup ex2 (aw_cons ew_str (aw_cons (ew_tup ex2 (aw_cons ew_str (aw_cons (ew_tup ex2 (aw_cons ew_str (aw_cons ew_str aw_nil)) (by decide)) (aw_cons (ew_tup ex2 (aw_cons ew_str (aw_cons ew_int aw_nil)) (by decide)) aw_nil))) (by decide)) aw_nil)) (by decide))
      (aw_cons (ew_done ex2) (aw_cons (ew_tup ex2 (aw_cons ew_str (aw_cons ew_int (aw_cons ew_int aw_nil))) (by decide)) aw_nil)))) (by decide)) (by decide)) fun a3 v3 H3 ha3 e3 h3 k3 => ?_
    have e03 := (e1.trans e2).trans e3
    exact ret_k (pickQ (hp.mono e03) hz rfl rfl h3 k3 (by decide) (by decide) fun v d H4 hd e4 hp4 hq => k v d H4 ((wo_mono e03).trans e4) hp4 hq (odd_ok d hd))
end
end K20
end
section
set_option maxHeartbeats 4000000
namespace K20
open PySem L2 Evl G OQ
/-! ### data as the library tells of it -/
mutual
theorem depth_le : ∀ d : PyData, fine d = true → d.depth ≤ dep d + 1
  | .none, _ => by simp [PyData.depth]
  | .bool _, _ => by simp [PyData.depth]
  | .int _, _ => by simp [PyData.depth]
  | .str _, _ => by simp [PyData.depth]
  | .list ds, h => by
    have := depthAll_le ds (by rw [fine] at h; exact h)
    simp only [PyData.depth, dep]; omega
  | .tuple ds, h => by
    have := depthAll_le ds (by rw [fine] at h; exact h)
    simp only [PyData.depth, dep]; omega
  | .dict kvs, h => by
    rw [fine] at h
    unfold dictS at h
    split at h
    · simp [PyData.depth, PyData.depthKv]
    · simp [PyData.depth, PyData.depthKv]
    · cases h
theorem depthAll_le : ∀ ds : List PyData, fines ds = true → PyData.depthAll ds ≤ deps ds + 1
  | [], _ => by simp [PyData.depthAll]
  | d :: ds, h => by
    rw [fines, Bool.and_eq_true] at h
    have h1 := depth_le d h.1
    have h2 := depthAll_le ds h.2
    simp only [PyData.depthAll, deps]; omega
end
theorem shaped_fine {d : PyData} (h : d.canLay0 = true) (f : fine d = true) (hd : dep d ≤ 60) : SeqAt.shaped d = true := by
  unfold SeqAt.shaped
  have := depth_le d f
  rw [h, decide_eq_true (show d.depth ≤ 64 by omega)]; rfl
mutual
theorem dq_dp {K : PySem.W.Frag} {H : Hp} : ∀ (d : PyData) {v : V}, d.canLay0 = true → Dq H v d → Dp K H v d
  | .none, _, _, h => by cases h; exact .non
  | .bool _, _, _, h => by cases h; exact .bl _
  | .int _, _, _, h => by cases h; exact .int _
  | .str _, _, _, h => by cases h; exact .str _
  | .list ds, _, c, h => by cases h with | lst n a k => exact .lst (sq_of a) (dqAll_dp ds (by simpa [PyData.canLay0] using c) k)
  | .tuple ds, _, c, h => by cases h with | tup a k => exact .tup (st_of a) (dqAll_dp ds (by simpa [PyData.canLay0] using c) k)
  | .dict _, _, c, _ => by simp [PyData.canLay0] at c
theorem dqAll_dp {K : PySem.W.Frag} {H : Hp} : ∀ (ds : List PyData) {vs : List V}, PyData.canLayAll0 ds = true → DqAll H vs ds → DpAll K H vs ds
  | [], _, _, h => by cases h; exact .nil
  | d :: ds, _, c, h => by
    have c' : d.canLay0 = true ∧ PyData.canLayAll0 ds = true := by simpa [PyData.canLayAll0] using c
    cases h with | cons a k => exact .cons (dq_dp d c'.1 a) (dqAll_dp ds c'.2 k)
end
theorem lay_mem : ∀ {ds : List PyData} {d : PyData}, PyData.canLayAll0 ds = true → d ∈ ds → d.canLay0 = true
  | e :: ds, d, c, h => by
    have c' : e.canLay0 = true ∧ PyData.canLayAll0 ds = true := by simpa [PyData.canLayAll0] using c
    rcases List.mem_cons.mp h with h | h
    · subst h; exact c'.1
    · exact lay_mem c'.2 h
theorem eqv_nilT (ds : List PyData) : PyData.eqv (.tuple ds) (.tuple []) = ds.isEmpty := by
  cases ds <;> simp [PyData.eqv, PyData.eqvAll]
theorem eqv_nilL (ds : List PyData) : PyData.eqv (.list ds) (.list []) = ds.isEmpty := by
  cases ds <;> simp [PyData.eqv, PyData.eqvAll]
theorem neT_tup {t : PyData} (h : neT t = true) : ∃ d ds, t = .tuple (d :: ds) := by
  cases t with
  | tuple ds => cases ds with
    | nil => cases h
    | cons d ds => exact ⟨d, ds, rfl⟩
  | _ => cases h
theorem layAll_ints : ∀ ns : List Int, PyData.canLayAll0 (ns.map PyData.int) = true
  | [] => rfl
  | n :: ns => by rw [List.map_cons]; simp [PyData.canLayAll0, PyData.canLay0, layAll_ints ns]
theorem depthAll_ints : ∀ ns : List Int, PyData.depthAll (ns.map PyData.int) = 0
  | [] => rfl
  | n :: ns => by rw [List.map_cons]; simp [PyData.depthAll, PyData.depth, depthAll_ints ns]
theorem shaped_ints (ns : List Int) : SeqAt.shaped (.list (ns.map PyData.int)) = true := by
  unfold SeqAt.shaped
  simp [PyData.canLay0, layAll_ints, PyData.depth, depthAll_ints]
theorem deps_app : ∀ ds es : List PyData, deps (ds ++ es) = max (deps ds) (deps es)
  | [], es => by simp [deps]
  | d :: ds, es => by rw [List.cons_append, deps, deps_app ds es, deps]; omega
/-! ### what spoiling makes of data -/
structure RB (t t' : PyData) : Prop where
  f : fine t' = true
  dp : dep t' ≤ dep t + 5
  sz : nod t' ≤ 2 * nod t + 20
theorem nod_tup (ds : List PyData) : nod (.tuple ds) = nods ds + 1 := by rw [nod]
theorem nod_lst (ds : List PyData) : nod (.list ds) = nods ds + 1 := by rw [nod]
theorem dep_lst (ds : List PyData) : dep (.list ds) = deps ds + 1 := by rw [dep]
theorem split_at {α : Type} {l : List α} {k : Nat} {x : α} (h : l[k]? = some x) : l = l.take k ++ ([x] ++ l.drop (k + 1)) := by
  obtain ⟨hk, hx⟩ := List.getElem?_eq_some_iff.mp h
  conv => lhs; rw [← List.take_append_drop k l]
  rw [List.drop_eq_getElem_cons hk, hx]; rfl
theorem rb_tup {ds es : List PyData} (hf : es.all fine = true) (hd : deps es ≤ deps ds + 5) (hn : nods es ≤ 2 * nods ds + 20) : RB (.tuple ds) (.tuple es) :=
  ⟨fine_mk hf, by rw [dep_tup, dep_tup]; omega, by rw [nod_tup, nod_tup]; omega⟩
/-- one part exchanged -/
theorem rb_put {ds : List PyData} {k : Nat} {x y : PyData} (h : ds[k]? = some x) (hf : ds.all fine = true) (fy : fine y = true) (dy : dep y ≤ deps ds + 5) (ny : nod y ≤ 2 * nod x + 20) : RB (.tuple ds) (.tuple (ds.take k ++ [y] ++ ds.drop (k + 1))) := by
  have e := split_at h
  generalize ha : ds.take k = a at e
  generalize hb : ds.drop (k + 1) = b at e
  subst e
  rw [List.all_append, List.all_append] at hf
  simp only [Bool.and_eq_true] at hf
  refine rb_tup ?_ ?_ ?_
  · rw [List.all_append, List.all_append, hf.1, hf.2.2]; simp [fy]
  · rw [deps_app, deps_app, deps_app, deps_app] at *
    simp only [deps] at *
    omega
  · rw [nods_app, nods_app, nods_app, nods_app]
    simp only [nods]
    omega
theorem rb_cut {ds : List PyData} {k : Nat} (hf : ds.all fine = true) : RB (.tuple ds) (.tuple (ds.take k ++ ds.drop (k + 1))) := by
  have hs : ∀ d ∈ ds.take k ++ ds.drop (k + 1), d ∈ ds := fun d hd => by
    rcases List.mem_append.mp hd with q | q
    · exact List.mem_of_mem_take q
    · exact List.mem_of_mem_drop q
  refine rb_tup (List.all_eq_true.mpr fun d hd => List.all_eq_true.mp hf d (hs d hd)) ?_ ?_
  · have := deps_le (ds := ds.take k ++ ds.drop (k + 1)) (n := deps ds) fun d hd => deps_mem (hs d hd)
    omega
  · by_cases hk : k < ds.length
    · have e := split_at (List.getElem?_eq_getElem hk)
      have : nods ds = nods (ds.take k) + nods ([ds[k]] ++ ds.drop (k + 1)) := by rw [← nods_app, ← e]
      rw [nods_app] at this ⊢
      omega
    · rw [List.take_of_length_le (by omega), List.drop_eq_nil_of_le (by omega), List.append_nil]; omega
theorem rb_more {ds : List PyData} {x : PyData} (hx : x ∈ ds) (hf : ds.all fine = true) : RB (.tuple ds) (.tuple (ds ++ [x])) := by
  refine rb_tup ?_ ?_ ?_
  · rw [List.all_append, hf]; simp [List.all_eq_true.mp hf x hx]
  · have := deps_mem hx
    rw [deps_app]; simp only [deps]; omega
  · have := nods_mem hx
    rw [nods_app]; simp only [nods]; omega
theorem rb_list {ds : List PyData} (hf : ds.all fine = true) : RB (.tuple ds) (.list ds) := ⟨by rw [fine, fines_all]; exact hf, by rw [dep_tup, dep_lst]; omega, by rw [nod_tup, nod_lst]; omega⟩
theorem rb_head {d : PyData} {ds : List PyData} {w : Str} (hw : w ∈ txS) (hf : (d :: ds).all fine = true) : RB (.tuple (d :: ds)) (.tuple ([.str w] ++ ds)) := by
  rw [List.all_cons, Bool.and_eq_true] at hf
  refine rb_tup ?_ ?_ ?_
  · rw [List.all_append, hf.2]; simp [fine_tx hw]
  · rw [deps_app]; simp only [deps, dep]; omega
  · rw [nods_app]; simp only [nods, nod]; omega
theorem cut_take {xs : List V} {k : Nat} (h : k ≤ xs.length) : cutV xs none (some (k : Int)) = xs.take k := by
  unfold cutV
  rw [HT.sIx_none, HT.sIx_nat, Nat.min_eq_left h]; simp
theorem cut_drop {xs : List V} {k : Nat} : cutV xs (some (k : Int)) none = xs.drop k := by
  unfold cutV
  rw [HT.sIx_none, HT.sIx_nat]
  by_cases h : k ≤ xs.length
  · rw [Nat.min_eq_left h, List.take_of_length_le (by rw [List.length_drop]; exact Nat.le_refl _)]
  · rw [Nat.min_eq_right (by omega), List.drop_eq_nil_of_le (Nat.le_refl _), List.drop_eq_nil_of_le (by omega)]; simp
theorem atI_end {xs : List V} (h : xs ≠ []) : ∃ v, atI xs (-1) = some v ∧ xs[xs.length - 1]? = some v := by
  obtain ⟨l, v, rfl⟩ : ∃ l v, xs = l ++ [v] := ⟨_, _, (List.dropLast_concat_getLast h).symm⟩
  exact ⟨v, atI_last l v, by simp⟩
/-- a heap in which the pot may have changed, and new things lie -/
structure Rg (p : Addr) (H H2 : Hp) : Prop where
  x : Ex (wo H p) H2
  hp : PotAt H2 p
theorem Rg.rfl {p : Addr} {H : Hp} (h : PotAt H p) : Rg p H H := ⟨wo_ex, h⟩
theorem Rg.mono {p : Addr} {H H2 H3 : Hp} (r : Rg p H H2) (e : Ex H2 H3) : Rg p H H3 := ⟨r.x.trans e, r.hp.mono e⟩
theorem Rg.step {p : Addr} {H H2 H3 : Hp} (r : Rg p H H2) (e : Ex (wo H2 p) H3) (h : PotAt H3 p) : Rg p H H3 := ⟨wo_tr r.x e, h⟩
theorem Rg.tr {p : Addr} {H H2 H3 : Hp} (r : Rg p H H2) (r2 : Rg p H2 H3) : Rg p H H3 := r.step r2.x r2.hp
theorem Rg.hz {p : Addr} {H H2 : Hp} {Z : List Addr} (r : Rg p H H2) (hz : Hd Z H) : Hd Z H2 := hz.step r.x r.hp
theorem Rg.ex {p : Addr} {H H2 : Hp} {Z : List Addr} (r : Rg p H H2) (pz : p ∈ Z) : Ex (hid Z H) (hid Z H2) := hid_sub pz r.x
theorem Rg.at {p a : Addr} {H H2 : Hp} {Z : List Addr} {o : HO} (r : Rg p H H2) (pz : p ∈ Z) (h : hid Z H a = some o) : H2 a = some o := hid_ex _ _ (r.ex pz _ _ h)
section
variable {K : PySem.W.Frag} {σ : L2.St} {H : Hp} {p a b : Addr} {Z : List Addr} {i j i0 : Nat} {tA tr : TA} {tn ta tb tl te : TE} {t1 t2 : TT} {Q : VK} {E : XK} {D : Ends} {tz ts : TS} {xs ys : List V} {vs : List Nat} {v : V} {d : PyData}
theorem et_neT (h : Ev te σ H v) (hd : Dq H v d) (fd : fine d = true) (c : d.canLay0 = true) (dd : dep d ≤ 60) :
    EvT (tAnd (tB (tCB (rIsi K) (tCons te (tCons (tC (.ty "tuple")) tNil)))) (tTest (tOp (rNeD K) te (tTup tNil)))) σ H (neT d) := by
  have h1 := ev_isiD (K := K) (n := "tuple") h hd (kit_tup d)
  refine et_is (et_and (et_B h1) fun ht => et_test (evd_neD (evd_ref h (dq_dp d c hd)) (evd_tup evad_nil (by show 0 ≤ 100000; decide)) (shaped_fine c fd dd) (by decide))) ?_
  cases d with
  | tuple ds => show (true && !PyData.eqv (.tuple ds) (.tuple [])) = _; rw [eqv_nilT]; cases ds <;> rfl
  | _ => rfl
theorem par_k (h : tA σ H fun vs H1 => ∃ v w, vs = [v, w] ∧ tz D ((σ.set i (some v)).set j (some w)) H1) : tSeq (tPar i j tA) tz D σ H := h
theorem test_k {QB : Bool → Hp → Prop} (h : te σ H fun x H' => ∃ k, x = .bl k ∧ QB k H') : tTest te σ H QB := h
theorem and_mid {b : Bool} (R S : Hp → Prop) (h1 : EvT t1 σ H b) (no : b = false → ∀ H1, Ex H H1 → R H1) (yes : b = true → ∀ H1, Ex H H1 → ∀ Q : Bool → Hp → Prop, (∀ c H2, (if c = true then S H2 else R H2) → Q c H2) → t2 σ H1 Q)
    (body : ∀ H1, S H1 → ts { D with nx := tz D } σ H1) (rest : ∀ H1, R H1 → tz D σ H1) : tSeq (tIfS (tAnd t1 t2) ts tNext) tz D σ H := h1 H (Ex.refl H) _ fun H1 e1 => by
  cases b with
  | true =>
    rw [if_pos rfl]
    refine yes rfl H1 e1 _ fun c H2 hc => ?_
    cases c with
    | true => rw [if_pos rfl] at hc ⊢; exact body H2 hc
    | false => rw [if_neg (by decide)] at hc ⊢; exact rest H2 hc
  | false => rw [if_neg (by decide)]; exact rest H1 (no rfl H1 e1)
/-- a piece of a told tuple, told apart from Z -/
theorem eu_take {k : Nat} (h : Ev ta σ H (.ref a)) (hk : Ev tb σ H (.int (k : Int))) (ha : H a = some (.tup xs)) (hl : k < xs.length) : EvU (tSl (rSlA K) ta tNoPart (tPart tb)) σ H (xs.take k) := by
  have := eu_slA (K := K) h eo_none (eo_some hk) (st_of ha) (by rw [HT.sIx_nat]; omega)
  rwa [cut_take (by omega)] at this
theorem eu_drop {k : Nat} (h : Ev ta σ H (.ref a)) (hk : Ev tb σ H (.int ((k : Int) + 1))) (ha : H a = some (.tup xs)) (hl : 0 < xs.length) : EvU (tSl (rSlA K) ta (tPart tb) tNoPart) σ H (xs.drop (k + 1)) := by
  have hk' : Ev tb σ H (.int ((k + 1 : Nat) : Int)) := ev_is hk (by congr 1)
  have := eu_slA (K := K) h (eo_some hk') eo_none (st_of ha) (by rw [HT.sIx_nat]; omega)
  rwa [cut_drop] at this
theorem u_k (h : EvU te σ H xs) (hz : Hd Z H) (k : ∀ q H1, Ex H H1 → hid Z H1 q = some (.tup xs) → Q (.ref q) H1) : te σ H Q := h H (Ex.refl H) _ fun q H1 hq e h1 => k q H1 e (by rw [hid_off (hz.new hq)]; exact h1)
theorem cat_k (hz : Hd Z H) (ha : hid Z H a = some (.tup xs)) (hb : hid Z H b = some (.tup ys)) (hl : xs.length + ys.length ≤ 100000) (k : ∀ q H2, Ex H H2 → hid Z H2 q = some (.tup (xs ++ ys)) → Q (.ref q) H2) : rCatA K (.ref a) (.ref b) H Q :=
  ⟨a, b, xs, ys, rfl, rfl, st_of (hid_ex _ _ ha), st_of (hid_ex _ _ hb), sz_of hl, fun h => by subst h; exact k b H (Ex.refl H) hb, fun _ h2 => by subst h2; exact k a H (Ex.refl H) (by simpa using ha), fun _ _ q hq => k q _ (Ex.new hq) (by rw [hid_off (hz.new hq)]; exact upd_same)⟩
theorem pickA {s : Addr} (hp : PotAt H p) (hv : σ[i]? = some (some (.ref p))) (hs : σ[j]? = some (some (.ref s))) (hl : SqL K (wo H p) s xs) (h0 : 0 < xs.length) (h1 : xs.length ≤ 1000) (k : ∀ (m : Nat) (v : V) (H2 : Hp), xs[m]? = some v → Ex (wo H p) H2 → PotAt H2 p → Q v H2) :
    tCall (sp_pick K) [] E (tCons (tVar i) (tCons (tVar j) tNil)) σ H Q := ⟨.ref p, hv, .ref s, hs, p, s, xs, rfl, hp, hl, h0, h1, k⟩
theorem tupN_k (h : tA σ H fun vs H1 => vs.length ≤ sizeLine ∧ ∀ p, H1 p = none → Q (.ref p) (upd H1 p (.tup vs))) : tTup tA σ H Q := h
theorem cb_k {r : List V → Hp → VK → Prop} (h : tA σ H fun vs H1 => r vs H1 Q) : tCB r tA σ H Q := h
theorem el_lcR2 {t : TT} {lo hi : Int} (f : Nat → Bool) (v : Nat → V) (h : EvA tA σ H [.int lo, .int hi]) (hn : -100000 ≤ lo ∧ lo ≤ hi ∧ hi ≤ 40000 ∧ hi - lo ≤ 40000) (hw : ∀ x, wipe ((wipe σ vs).set j (some x)) vs = wipe σ vs)
    (ht : ∀ (i : Nat) H1, Ex H H1 → lo + (i : Int) < hi → EvT t ((wipe σ vs).set j (some (.int (lo + (i : Int))))) H1 (f i)) (he : ∀ (i : Nat) H1, Ex H H1 → lo + (i : Int) < hi → f i = true → Ev te ((wipe σ vs).set j (some (.int (lo + (i : Int))))) H1 (v i)) :
    EvL (tLc (iRng2 tA) (gName j) t te vs) σ H (given (hi - lo).toNat f v) := fun H0 e Q q => h H0 e _ fun H1 e1 => ⟨lo, hi, rfl, ⟨by omega, by omega, by omega, by omega⟩, fun Dl hD =>
  lc_range (lo := lo) (n := (hi - lo).toNat) (Cw H1 f v Dl) ⟨hD, Ex.new hD, upd_same⟩ (fun i H' hi p => ⟨hw _, cw_turn p (by omega) (ht i H1 (e.trans e1) (by omega)) (fun hf => he i H1 (e.trans e1) (by omega) hf)⟩) (fun H' p => q Dl H' (fresh_back e1 p.1) (e1.trans p.2.1) p.2.2)⟩
end
end K20
end
section
set_option maxHeartbeats 4000000
namespace K20
open PySem L2 Evl G OQ
/-! ### spoilt data -/
noncomputable def sp_spoilt (n : Nat) : Sp := fun vs H Q _ => ∃ (p : Addr) (Z : List Addr) (v : V) (t : PyData), vs = [.ref p, v] ∧ PotAt H p ∧ p ∈ Z ∧ Hd Z H ∧ Dq (hid Z H) v t ∧ fine t = true ∧ neT t = true ∧ t.canLay0 = true ∧ dep t < n ∧ n ≤ 40 ∧ nod t ≤ 900 ∧
  ∀ v' t' H2, Rg p H H2 → Dq (hid Z H2) v' t' → RB t t' → Q v' H2
noncomputable def wordsS : List Str := ["day", "num", "on", "by", "til", "add", "late", "soon", "le", "and", "or", "not", "up", "Day", "a", "x"]
theorem words_tx : ∀ x ∈ wordsS, x ∈ txS := by decide +kernel
section
variable {P : Program} {w : World} {K : PySem.W.Frag} {mg : Str → Option Value} {base : Heap} {SZ SY : Addr}
theorem ok_spoilt {f f1 f2 f3 : Addr} {fd fd1 fd2 fd3 : FuncData} (F : Fun K "_law_spoilt" "_law_spoilt" s__law_spoilt f fd) (T : Txt P w K mg SZ SY) (me : Me K mg "_law_spoilt" f fd ["_law_pot_here", "_law_told"]) (c__law_draw : Cal P w K mg base "_law_draw" f1 fd1 ["_law_pot_here", "_law_many"] 1 sp_draw) (c__law_pick : Cal P w K mg base "_law_pick" f2 fd2 ["_law_pot_here", "_law_some_here"] 2 (sp_pick K)) (c__law_odd : Cal P w K mg base "_law_odd" f3 fd3 ["_law_pot_here"] 3 sp_odd) :
    ∀ n, FnOk P w K mg base CX0 (n + 4) f fd ["_law_pot_here", "_law_told"] (sp_spoilt n) := by
  intro n
  induction n with
  | zero => exact ⟨fun vs H Q E h => by obtain ⟨p, Z, v, t, _, _, _, _, _, _, _, _, hd, _⟩ := h; exact absurd hd (Nat.not_lt_zero _), fun A outer s H args us vs Q E _ _ _ _ h => by obtain ⟨p, Z, v, t, _, _, _, _, _, _, _, _, hd, _⟩ := h; exact absurd hd (Nat.not_lt_zero _)⟩
  | succ n ih =>
  have c__law_spoilt : Cal P w K mg base "_law_spoilt" f fd ["_law_pot_here", "_law_told"] (n + 4) (sp_spoilt n) := ⟨ih, me.mgx, me.kp, me.bd⟩
  refine F.ok (k := n + 4) sc__law_spoilt (fun vs H Q E h => ?_) (fun cdv A outer s H vs Q E hr h => ?_)
  · obtain ⟨p, Z, v, t, rfl, _⟩ := h
    rfl
  · obtain ⟨p, Z, v, t, rfl, hp, pz, hz, hd, ft, nt, ct, dt, n40, st, k⟩ := h
    refine ⟨_, (pss_cons (ps_setLc (i := 2) (own := [("_law_place", 3)]) (g := (gName 3)) (by rfl) sc__law_spoilt.nd rfl rfl (sw_true rfl rfl rfl (by decide +kernel)) (pi_range2 (by rfl) T.b_range (pa_cons pe_int (pa_cons (pe_callB (lenS (K := K) rfl) (by rfl) T.b_len (by decide +kernel) (pa_cons (pv 1) pa_nil)) pa_nil))) (blkOk_by (own := [("_law_place", 3)]) (N := ["_law_pot_here", "_law_told", "_law_places", "_law_place", "_law_way", "_law_words"]) (sc := defScope s__law_spoilt) (by decide +kernel)) (fun _ _ _ _ _ => (pg_name (i := 3) sc__law_spoilt.nd rfl (Or.inl rfl))) (fun _ _ _ _ _ => (pts_one (PW.pt (pw_and (pt_val (pe_callB (isiS (K := K) rfl) (by rfl) T.b_isinstance (by decide +kernel) (pa_cons (pe_ix (ixT (K := K) rfl) (pv 1) (pv 3) (fun _ _ => rfl)) (pa_cons (pe_bltn (v := .ty "tuple") (u := .type "tuple") (by rfl) T.b_tuple (by decide +kernel) rfl) pa_nil)))) (pw_and1 (pt_cmpR (neD (K := K) rfl hr.units) (pe_ix (ixT (K := K) rfl) (pv 1) (pv 3) (fun _ _ => rfl)) (pe_tup pa_nil) (nomark _))))))) (fun _ _ _ _ _ => (pv 3))) (pss_cons (ps_if (PW.pt (pw_and (pt_cmpR (neD (K := K) rfl hr.units) (pv 2) (pe_lst pa_nil) (nomark _)) (pw_and1 (pt_cmpR op_gt (pe_call c__law_draw.ok (hr.mono (by omega)) (by rfl) c__law_draw.mgx c__law_draw.kp c__law_draw.bd .nil pass0 (pa_cons (pv 0) (pa_cons pe_int pa_nil))) pe_int (nomark _))))) (pss_cons (ps_set (i := 3) sc__law_spoilt.nd rfl (Or.inl rfl) (pe_call c__law_pick.ok (hr.mono (by omega)) (by rfl) c__law_pick.mgx c__law_pick.kp c__law_pick.bd .nil pass0 (pa_cons (pv 0) (pa_cons (pv 2) pa_nil)))) (pss_one (ps_ret (pe_op (catA (K := K) rfl) (pe_op (catA (K := K) rfl) (pe_slice (slA (K := K) rfl) (pv 1) po_none (po_some (pv 3))) (pe_tup (pa_cons (pe_call c__law_spoilt.ok (hr.mono (by omega)) (by rfl) c__law_spoilt.mgx c__law_spoilt.kp c__law_spoilt.bd .nil pass0 (pa_cons (pv 0) (pa_cons (pe_ix (ixT (K := K) rfl) (pv 1) (pv 3) (fun _ _ => rfl)) pa_nil))) pa_nil))) (pe_slice (slA (K := K) rfl) (pv 1) (po_some (pe_op op_add (pv 3) pe_int)) po_none))))) pss_nil) (pss_cons (ps_par (i := 4) (j := 3) (by rfl) sc__law_spoilt.nd rfl rfl (by decide) rfl rfl (pa_cons (pe_call c__law_draw.ok (hr.mono (by omega)) (by rfl) c__law_draw.mgx c__law_draw.kp c__law_draw.bd .nil pass0 (pa_cons (pv 0) (pa_cons pe_int pa_nil))) (pa_cons (pe_call c__law_draw.ok (hr.mono (by omega)) (by rfl) c__law_draw.mgx c__law_draw.kp c__law_draw.bd .nil pass0 (pa_cons (pv 0) (pa_cons (pe_callB (lenS (K := K) rfl) (by rfl) T.b_len (by decide +kernel) (pa_cons (pv 1) pa_nil)) pa_nil))) pa_nil)) (by rfl)) (pss_cons (ps_if (pt_cmpR op_eq (pv 4) pe_int (nomark _)) (pss_one (ps_ret (pe_callTy call_list_ofB (by rfl) T.b_list (by decide +kernel) (pa_cons (pv 1) pa_nil)))) pss_nil) (pss_cons (ps_if (pt_cmpR op_eq (pv 4) pe_int (nomark _)) (pss_one (ps_ret (pe_op (catA (K := K) rfl) (pv 1) (pe_tup (pa_cons (pe_ix (ixT (K := K) rfl) (pv 1) (pe_un un_neg pe_int) (fun _ _ => rfl)) pa_nil))))) pss_nil) (pss_cons (ps_if (pt_cmpR op_eq (pv 4) pe_int (nomark _)) (pss_one (ps_ret (pe_op (catA (K := K) rfl) (pe_slice (slA (K := K) rfl) (pv 1) po_none (po_some (pv 3))) (pe_slice (slA (K := K) rfl) (pv 1) (po_some (pe_op op_add (pv 3) pe_int)) po_none)))) pss_nil) (pss_cons (ps_if (pt_cmpR op_eq (pv 4) pe_int (nomark _)) (pss_cons (ps_set (i := 5) sc__law_spoilt.nd rfl (Or.inl rfl) (pe_lst (pa_cons pe_str (pa_cons pe_str (pa_cons pe_str (pa_cons pe_str (pa_cons pe_str (pa_cons pe_str (pa_cons pe_str (pa_cons pe_str (pa_cons pe_str (pa_cons pe_str (pa_cons pe_str (pa_cons pe_str (pa_cons pe_str (pa_cons pe_str (pa_cons pe_str (pa_cons pe_str pa_nil)))))))))))))))))) (pss_one (ps_ret (pe_op (catA (K := K) rfl) (pe_tup (pa_cons (pe_call c__law_pick.ok (hr.mono (by omega)) (by rfl) c__law_pick.mgx c__law_pick.kp c__law_pick.bd .nil pass0 (pa_cons (pv 0) (pa_cons (pv 5) pa_nil))) pa_nil)) (pe_slice (slA (K := K) rfl) (pv 1) (po_some pe_int) po_none))))) pss_nil) (pss_one (ps_ret (pe_op (catA (K := K) rfl) (pe_op (catA (K := K) rfl) (pe_slice (slA (K := K) rfl) (pv 1) po_none (po_some (pv 3))) (pe_tup (pa_cons (pe_call c__law_odd.ok (hr.mono (by omega)) (by rfl) c__law_odd.mgx c__law_odd.kp c__law_odd.bd .nil pass0 (pa_cons (pv 0) pa_nil)) pa_nil))) (pe_slice (slA (K := K) rfl) (pv 1) (po_some (pe_op op_add (pv 3) pe_int)) po_none))))))))))), ?_⟩
    obtain ⟨d0, ds0, rfl⟩ := neT_tup nt
    obtain ⟨a, xs, ds, e, rfl, ha, hk⟩ := tup_of hd rfl
    cases e
    obtain ⟨ds, hds⟩ : ∃ ds, ds = d0 :: ds0 := ⟨_, rfl⟩
    have hf : ds.all fine = true := by rw [hds]; exact fine_tup ft
    have hc : PyData.canLayAll0 ds = true := by rw [hds]; simpa [PyData.canLay0] using ct
    rw [← hds] at hk k dt st
    have hlen : xs.length = ds.length := hk.len
    have hl1 : 1 ≤ ds.length := by rw [hds]; simp
    have hn9 : nods ds ≤ 899 := by rw [nod_tup] at st; omega
    have hl9 : ds.length ≤ 899 := by have := nods_len ds; omega
    have hdd : deps ds < n := by rw [dep_tup] at dt; omega
    have haH : H a = some (.tup xs) := hid_ex _ _ ha
    have one : ∀ (i : Nat) (x : V) (H1 : Hp), Rg p H H1 → xs[i]? = some x → ∃ d, ds[i]? = some d ∧ Dq (hid Z H1) x d ∧ fine d = true ∧ d.canLay0 = true ∧ dep d < n ∧ nod d ≤ 899 := fun i x H1 r hx => by
      obtain ⟨d, hd, q⟩ := hk.get hx
      have hm := List.mem_of_getElem? hd
      have h1 := deps_mem hm
      have h2 := nods_mem hm
      exact ⟨d, hd, q.mono (r.ex pz), List.all_eq_true.mp hf d hm, lay_mem hc hm, by omega, by omega⟩
    refine q_asgL (el_lcR2 (vs := [3]) (j := 3) (fun i => neT (ds.getD (i + 1) .none)) (fun i => V.int (1 + (i : Int))) (ea_cons ev_c (ea_cons (ev_lenTup (K := K) (ev_var rfl) haH) ea_nil)) (by omega) (fun _ => rfl) (fun i H1 e1 hi => ?_) (fun i H1 e1 hi _ => ev_var rfl)) fun l H1 hl e1 h1 => ?_
    · have hi' : i + 1 < xs.length := by omega
      obtain ⟨d, hd', q, g1, g2, g3, g4⟩ := one (i + 1) _ H1 ((Rg.rfl hp).mono e1) (List.getElem?_eq_getElem hi')
      rw [getD_q hd']
      exact et_neT (ev_op (ev_var rfl) (ev_var rfl) (rv_ixT (st_of (e1 a _ haH)) (by rw [show (1 + (i : Int)) = ((i + 1 : Nat) : Int) by omega]; exact atI_nat (List.getElem?_eq_getElem hi')))) (q.mono hid_ex) g1 g2 (by omega)
    obtain ⟨ns, hns, hmem, hnl⟩ : ∃ ns : List Int, given ((xs.length : Int) - 1).toNat (fun i => neT (ds.getD (i + 1) .none)) (fun i => V.int (1 + (i : Int))) = ns.map V.int ∧ (∀ y ∈ ns, ∃ i : Nat, y = ((i + 1 : Nat) : Int) ∧ i + 1 < ds.length ∧ neT (ds.getD (i + 1) .none) = true) ∧ ns.length ≤ 899 := by
      refine ⟨((List.range ((xs.length : Int) - 1).toNat).filter fun i => neT (ds.getD (i + 1) .none)).map fun (i : Nat) => 1 + (i : Int), by unfold given; rw [List.map_map]; rfl, fun y hy => ?_, ?_⟩
      · obtain ⟨i, hi, rfl⟩ := List.mem_map.mp hy
        rw [List.mem_filter, List.mem_range] at hi
        exact ⟨i, by omega, by omega, hi.2⟩
      · rw [List.length_map]
        have := List.length_filter_le (fun i => neT (ds.getD (i + 1) .none)) (List.range ((xs.length : Int) - 1).toNat)
        rw [List.length_range] at this
        omega
    rw [hns] at h1
    have hlp : l ≠ p := fun z => by obtain ⟨o, ho⟩ := hp.some; rw [z, ho] at hl; cases hl
    have r1 : Rg p H H1 := (Rg.rfl hp).mono e1
    refine and_mid (b := !ns.isEmpty) (fun H2 => Rg p H H2) (fun H2 => Rg p H H2 ∧ ns ≠ [] ∧ H2 l = some (.lst (ns.map V.int))) (et_is (et_test (evd_neD (K := K) (evd_ref (ev_var rfl) (dp_ints (sq_of h1))) (evd_lst evad_nil (by show 0 ≤ 100000; decide)) (shaped_ints ns) (by decide))) (by show (!PyData.eqv (.list (ns.map PyData.int)) (.list [])) = _; rw [eqv_nilL]; cases ns <;> rfl)) (fun _ H2 e2 => r1.mono e2)
      (fun hb H2 e2 Q' q' => test_k (op_k (drawC (hp.mono (e1.trans e2)) rfl ev_c (by decide) (by decide) fun d H3 d0 d1 e3 hp3 => v_k ev_c fun H4 e4 => ⟨d, 0, rfl, rfl, _, rfl, q' _ H4 ?_⟩))) (fun H2 h2 => ?_) (fun H2 r2 => ?_)
    · have r4 : Rg p H H4 := ((r1.mono e2).step e3 hp3).mono e4
      split
      · refine ⟨r4, fun z => (by rw [z] at hb; cases hb), e4 _ _ (e3 _ _ (by rw [wo_ne hlp]; exact e2 _ _ h1))⟩
      · exact r4
    · -- a part is spoilt
      obtain ⟨r2, hne, hl2⟩ := h2
      refine asg_k (pickA r2.hp rfl rfl (sq_of (by rw [wo_ne hlp]; exact hl2)) (by rw [List.length_map]; exact List.length_pos_iff.mpr hne) (by rw [List.length_map]; omega) fun m u H3 hu e3 hp3 => ?_)
      rw [List.getElem?_map] at hu
      obtain ⟨y, hy, rfl⟩ := Option.map_eq_some_iff.mp hu
      obtain ⟨i, rfl, hi, hnt⟩ := hmem y (List.mem_of_getElem? hy)
      have r3 : Rg p H H3 := r2.step e3 hp3
      have hi' : i + 1 < xs.length := by omega
      have hx := List.getElem?_eq_getElem hi'
      refine ret_k (op_k (op_k (u_k (Z := Z) (eu_take (K := K) (k := i + 1) (ev_var rfl) (ev_var rfl) (r3.at pz ha) hi') (r3.hz hz) fun q1 H4 e4 h4 => tupN_k (ac_k (call_k (ac_v (ev_var rfl) fun H5 e5 => ac_v (ev_op (ev_var rfl) (ev_var rfl) (rv_ixT (st_of ((r3.mono (e4.trans e5)).at pz ha)) (atI_nat hx))) fun H6 e6 => ac_nil ?_))))))
      have r6 : Rg p H H6 := r3.mono ((e4.trans e5).trans e6)
      obtain ⟨d, hd', q, g1, g2, g3, g4⟩ := one (i + 1) _ H6 r6 hx
      rw [getD_q hd'] at hnt
      refine ⟨p, Z, _, d, rfl, r6.hp, pz, r6.hz hz, q, g1, hnt, g2, g3, by omega, by omega, fun v' t' H7 r67 hq7 rb => ac_nil ⟨sz_of (by show 1 ≤ 100000; decide), fun q2 hq2 => ?_⟩⟩
      have r7 : Rg p H H7 := r6.tr r67
      have z7 := r7.hz hz
      have r8 := r7.mono (Ex.new (o := .tup [v']) hq2)
      have h48 := hid_mono (Z := Z) (Ex.new (o := .tup [v']) hq2) _ _ (r67.ex pz _ _ (hid_mono (e5.trans e6) _ _ h4))
      refine cat_k (r8.hz hz) h48 (by rw [hid_off (z7.new hq2)]; exact upd_same) (by rw [List.length_take]; simp; omega) fun q3 H9 e9 h9 => ?_
      have r9 := r8.mono e9
      refine u_k (Z := Z) (eu_drop (K := K) (k := i + 1) (ev_var rfl) (ev_op (ev_var rfl) ev_c rv_I0) (r9.at pz ha) (by omega)) (r9.hz hz) fun q4 Ha ea h10 => ?_
      have ra := r9.mono ea
      refine cat_k (ra.hz hz) (hid_mono ea _ _ h9) h10 (by rw [List.length_append, List.length_take, List.length_drop]; simp; omega) fun q5 Hb eb h11 => ?_
      have rb' := ra.mono eb
      have hkb := hk.mono (rb'.ex pz)
      have hvb : Dq (hid Z Hb) v' t' := hq7.mono (hid_mono (((Ex.new (o := .tup [v']) hq2).trans e9).trans (ea.trans eb)))
      refine k _ _ Hb rb' (.tup h11 (((hkb.take (i + 1)).app (.cons hvb .nil)).app (hkb.drop (i + 1 + 1)))) (rb_put hd' hf rb.f ?_ rb.sz)
      have := rb.dp
      have := deps_mem (List.mem_of_getElem? hd')
      omega
    · -- the tuple itself
      refine par_k (ac_k (drawC r2.hp rfl ev_c (by decide) (by decide) fun way H3 w0 w1 e3 hp3 => ac_k ?_))
      have r3 : Rg p H H3 := r2.step e3 hp3
      refine drawC (n := (xs.length : Int)) hp3 rfl (ev_lenTup (K := K) (ev_var rfl) (hid_wo pz _ _ (r3.ex pz _ _ ha))) (by omega) (by omega) fun pl H4 p0 p1 e4 hp4 => ac_nil ⟨_, _, rfl, ?_⟩
      have r4 : Rg p H H4 := r3.step e4 hp4
      obtain ⟨m, rfl⟩ : ∃ m : Nat, pl = (m : Int) := ⟨pl.toNat, by omega⟩
      have hm : m < xs.length := by omega
      have hx := List.getElem?_eq_getElem hm
      refine q_when (et_test (ev_op (ev_var rfl) ev_c (rv_eq rfl))) (fun _ H5 e5 => ?_) (fun _ H5 e5 => ?_)
      · refine ret_k (cb_k (ac_v (ev_var rfl) fun H6 e6 => ac_nil ?_))
        have r6 := (r4.mono e5).mono e6
        refine ⟨a, xs, rfl, st_of (r6.at pz ha), fun q hq hqs => ?_⟩
        have r7 := r6.mono (Ex.new (o := .lst xs) hq)
        exact k _ (.list ds) _ r7 (.lst hqs (by rw [hid_off ((r6.hz hz).new hq)]; exact upd_same) (hk.mono (r7.ex pz))) (rb_list hf)
      have r5 := r4.mono e5
      refine q_when (et_test (ev_op (ev_var rfl) ev_c (rv_eq rfl))) (fun _ H6 e6 => ?_) (fun _ H6 e6 => ?_)
      · obtain ⟨x, hat, hx'⟩ := atI_end (xs := xs) (fun z => by rw [z] at hm; exact absurd hm (Nat.not_lt_zero _))
        refine ret_k (op_k (v_k (ev_var rfl) fun H7 e7 => tupN_k (ac_v (ev_op (ev_var rfl) (ev_un ev_c ru_neg) (rv_ixT (st_of (((r5.mono e6).mono e7).at pz ha)) hat)) fun H8 e8 => ac_nil ⟨sz_of (by show 1 ≤ 100000; decide), fun q2 hq2 => ?_⟩)))
        have r8 := ((r5.mono e6).mono e7).mono e8
        have r9 := r8.mono (Ex.new (o := .tup [x]) hq2)
        refine cat_k (r9.hz hz) (r9.ex pz _ _ ha) (by rw [hid_off ((r8.hz hz).new hq2)]; exact upd_same) (by simp; omega) fun q3 Ha ea h10 => ?_
        have ra := r9.mono ea
        obtain ⟨d, hd', q, g1, g2, g3, g4⟩ := one _ _ Ha ra hx'
        exact k _ _ Ha ra (.tup h10 ((hk.mono (ra.ex pz)).app (.cons q .nil))) (rb_more (List.mem_of_getElem? hd') hf)
      have r6 := r5.mono e6
      refine q_when (et_test (ev_op (ev_var rfl) ev_c (rv_eq rfl))) (fun _ H7 e7 => ?_) (fun _ H7 e7 => ?_)
      · have r7 := r6.mono e7
        refine ret_k (op_k (u_k (Z := Z) (eu_take (K := K) (k := m) (ev_var rfl) (ev_var rfl) (r7.at pz ha) hm) (r7.hz hz) fun q1 H8 e8 h8 => ?_))
        have r8 := r7.mono e8
        refine u_k (Z := Z) (eu_drop (K := K) (k := m) (ev_var rfl) (ev_op (ev_var rfl) ev_c rv_I0) (r8.at pz ha) (by omega)) (r8.hz hz) fun q2 H9 e9 h9 => ?_
        have r9 := r8.mono e9
        refine cat_k (r9.hz hz) (hid_mono e9 _ _ h8) h9 (by rw [List.length_take, List.length_drop]; omega) fun q3 Ha ea h10 => ?_
        have ra := r9.mono ea
        have hka := hk.mono (ra.ex pz)
        exact k _ _ Ha ra (.tup h10 ((hka.take m).app (hka.drop (m + 1)))) (rb_cut hf)
      have r7 := r6.mono e7
      refine q_when (et_test (ev_op (ev_var rfl) ev_c (rv_eq rfl))) (fun _ H8 e8 => ?_) (fun _ H8 e8 => ?_)
      · have r8 := r7.mono e8
        refine q_asgL (xs := wordsS.map V.str) (el_lst (ea_cons ev_c (ea_cons ev_c (ea_cons ev_c (ea_cons ev_c (ea_cons ev_c (ea_cons ev_c (ea_cons ev_c (ea_cons ev_c (ea_cons ev_c (ea_cons ev_c (ea_cons ev_c (ea_cons ev_c (ea_cons ev_c (ea_cons ev_c (ea_cons ev_c (ea_cons ev_c ea_nil)))))))))))))))) (by decide)) fun wl H9 hwl e9 h9 => ?_
        have r9 := r8.mono e9
        have wlp : wl ≠ p := fun z => by obtain ⟨o, ho⟩ := r8.hp.some; rw [z, ho] at hwl; cases hwl
        refine ret_k (op_k (tupN_k (ac_k (pickA r9.hp rfl rfl (sq_of (by rw [wo_ne wlp]; exact h9)) (by decide) (by decide) fun j u Ha hu ea hpa => ac_nil ⟨sz_of (by show 1 ≤ 100000; decide), fun q2 hq2 => ?_⟩))))
        rw [List.getElem?_map] at hu
        obtain ⟨wd, hwd, rfl⟩ := Option.map_eq_some_iff.mp hu
        have hwt := words_tx wd (List.mem_of_getElem? hwd)
        have ra := r9.step ea hpa
        have rb := ra.mono (Ex.new (o := .tup [V.str wd]) hq2)
        refine u_k (Z := Z) (eu_drop (K := K) (k := 0) (ev_var rfl) ev_c (rb.at pz ha) (by omega)) (rb.hz hz) fun q3 Hc ec hc3 => ?_
        have rc := rb.mono ec
        refine cat_k (rc.hz hz) (hid_mono ec _ _ (by rw [hid_off ((ra.hz hz).new hq2)]; exact upd_same)) hc3 (by rw [List.length_drop]; simp; omega) fun q4 Hd' ed h4 => ?_
        have rd := rc.mono ed
        subst hds
        exact k _ _ Hd' rd (.tup h4 ((DqAll.cons (.str wd) .nil).app ((hk.mono (rd.ex pz)).drop 1))) (rb_head hwt hf)
      have r8 := r7.mono e8
      refine ret_k (op_k (op_k (u_k (Z := Z) (eu_take (K := K) (k := m) (ev_var rfl) (ev_var rfl) (r8.at pz ha) hm) (r8.hz hz) fun q1 H9 e9 h9 => tupN_k (ac_k (call_k (ac_v (ev_var rfl) fun Ha ea => ac_nil ?_))))))
      have ra := (r8.mono e9).mono ea
      refine ⟨p, Z, rfl, ra.hp, pz, ra.hz hz, fun v' t' Hb xb hpb hq7 vo => ac_nil ⟨sz_of (by show 1 ≤ 100000; decide), fun q2 hq2 => ?_⟩⟩
      have rb := ra.step xb hpb
      have zb := rb.hz hz
      have rc := rb.mono (Ex.new (o := .tup [v']) hq2)
      have h9c := hid_mono (Z := Z) (Ex.new (o := .tup [v']) hq2) _ _ (hid_sub pz xb _ _ (hid_mono ea _ _ h9))
      refine cat_k (rc.hz hz) h9c (by rw [hid_off (zb.new hq2)]; exact upd_same) (by rw [List.length_take]; simp; omega) fun q3 Hd' ed h10 => ?_
      have rd := rc.mono ed
      refine u_k (Z := Z) (eu_drop (K := K) (k := m) (ev_var rfl) (ev_op (ev_var rfl) ev_c rv_I0) (rd.at pz ha) (by omega)) (rd.hz hz) fun q4 He ee h11 => ?_
      have re := rd.mono ee
      refine cat_k (re.hz hz) (hid_mono ee _ _ h10) h11 (by rw [List.length_append, List.length_take, List.length_drop]; simp; omega) fun q5 Hf ef h12 => ?_
      have rf := re.mono ef
      have hkb := hk.mono (rf.ex pz)
      have hvb : Dq (hid Z Hf) v' t' := hq7.mono (hid_mono (((Ex.new (o := .tup [v']) hq2).trans ed).trans (ee.trans ef)))
      obtain ⟨d, hd', _⟩ := one m _ Hf rf hx
      have v1 := vo.dp
      have v2 := vo.sz
      exact k _ _ Hf rf (.tup h12 (((hkb.take m).app (.cons hvb .nil)).app (hkb.drop (m + 1)))) (rb_put hd' hf vo.f (by omega) (by omega))
end
end K20
end
section
set_option maxHeartbeats 4000000
namespace K20
open PySem L2 Evl G OQ
/-! ### a value judged -/
structure CalG (P : Program) (w : World) (K : PySem.W.Frag) (mg : Str → Option Value) (base : Heap) (x : Str) (f : Addr) (fd : FuncData) (ps : List Str) (k : Nat) (sp : Sp) : Prop where
  ok : FnG P w K mg base CX0 k f fd ps sp
  mgx : mg x = some (.ref f)
  kp : PySem.W.keepIn K (.ref f) = true
  bd : Binds K fd ps []
noncomputable def sp_judged : Sp := fun vs H Q _ => ∃ v d, vs = [v] ∧ Dq H v d ∧ fine d = true ∧ nod d ≤ 3000 ∧ dep d < 50 ∧ RetV (.bl true) H Q
noncomputable def sp_wide (e : Nat) : Sp := fun vs H Q _ => ∃ (m : Nat) (v : V) (t : PyData), vs = [.int (m : Int), v] ∧ m ≤ 1000 ∧ 1 ≤ m ∧ 2 * m ≤ 2 ^ e ∧ Dq H v t ∧ fine t = true ∧
  ∀ v' t' H2, Ex H H2 → Dq H2 v' t' → fine t' = true → dep t' + 1 ≤ dep t + e → nod t' + 2 ≤ m * (nod t + 2) → Q v' H2
noncomputable def sp_deep : Sp := fun vs H Q _ => ∃ (v : V) (t : PyData), vs = [.int 34, v] ∧ Dq H v t ∧ fine t = true ∧ ∀ v' t' H2, Ex H H2 → Dq H2 v' t' → fine t' = true → dep t' ≤ dep t + 34 → nod t' ≤ nod t + 102 → Q v' H2
theorem shaped_b3 (a b c : Bool) : SeqAt.shaped (.tuple [.bool a, .bool b, .bool c]) = true := by cases a <;> cases b <;> cases c <;> decide
theorem deep_word : ∀ i : Nat, i < 34 → ∃ c, atI (("abcdefgh" : Str).cps.toList) ((i : Int).fdiv 5) = some c ∧ (⟨#[c]⟩ : Str) ∈ txS := by
  have h : ∀ j : Fin 34, (match atI (("abcdefgh" : Str).cps.toList) ((j.val : Int).fdiv 5) with | some c => decide ((⟨#[c]⟩ : Str) ∈ txS) | none => false) = true := by decide +kernel
  intro i hi
  have := h ⟨i, hi⟩
  revert this
  cases atI (("abcdefgh" : Str).cps.toList) ((i : Int).fdiv 5) with
  | none => exact fun z => nomatch z
  | some c => exact fun z => ⟨c, rfl, of_decide_eq_true z⟩
section
variable {K : PySem.W.Frag} {σ : L2.St} {H : Hp} {p a b : Addr} {i j : Nat} {te tc : TE} {c : TT} {Q : VK} {E : XK} {D : Ends} {tz : TS} {v : V} {d : PyData}
theorem ev_reprQ (h : Ev te σ H v) (hd : Dq H v d) (fd : fine d = true) (nd : nod d ≤ 3000) (dd : dep d < 50) : Ev (tCB rReprQ (tCons te tNil)) σ H (.str d.shown) := fun H1 e Q q => h H1 e _ fun H2 e2 => by
  obtain ⟨s1, s2⟩ := shown_le d fd
  have s3 := depth_le d fd
  exact ⟨v, d, rfl, hd.mono (e.trans e2), s2, by omega, sz_of (by omega), q H2 e2⟩
theorem q_ifSet {b : Bool} (M : L2.St → Hp → Prop) (hc : EvT c σ H b) (h1 : b = true → ∀ H1, Ex H H1 → ∀ Q : VK, (∀ v H2, M (σ.set i (some v)) H2 → Q v H2) → te σ H1 Q) (h2 : b = false → ∀ H1, Ex H H1 → M σ H1) (k : ∀ σ1 H1, M σ1 H1 → tz D σ1 H1) : tSeq (tIfS c (tAsg te (gName i)) tNext) tz D σ H := hc H (Ex.refl H) _ fun H1 e1 => by
  cases b with
  | true => rw [if_pos rfl]; exact h1 rfl H1 e1 _ fun v H2 m => k _ H2 m
  | false => rw [if_neg (by decide)]; exact k σ H1 (h2 rfl H1 e1)
theorem s_asgk (h : te σ H fun v H1 => D.nx (σ.set i (some v)) H1) : tAsg te (gName i) D σ H := h
end
section
variable {P : Program} {w : World} {K : PySem.W.Frag} {mg : Str → Option Value} {base : Heap} {SZ SY : Addr}
theorem ok_judged {f f1 f2 f3 f4 f5 f6 : Addr} {fd fd1 fd2 fd3 fd4 fd5 fd6 : FuncData} (F : Fun K "_law_judged" "_law_judged" s__law_judged f fd) (T : Txt P w K mg SZ SY) (c__law_is_formula : Cal P w K mg base "_law_is_formula" f1 fd1 ["_law_value"] (50 + 4) (sp_rec fOk 50)) (c__law_is_saying : Cal P w K mg base "_law_is_saying" f2 fd2 ["_law_value"] (50 + 55) (sp_rec sOk 50))
    (c__law_is_chain : Cal P w K mg base "_law_is_chain" f3 fd3 ["_law_value"] 55 (sp_rec cOk 50)) (c_is_formula : Cal P w K mg base "is_formula" f4 fd4 ["value"] 3 (sp_form fOk)) (c_is_saying : Cal P w K mg base "is_saying" f5 fd5 ["value"] 4 (sp_form sOk)) (c_is_chain : Cal P w K mg base "is_chain" f6 fd6 ["value"] 4 (sp_form cOk))
    (kb_is_formula_value : KBn K fd4 ["value"] 0 ["value"] (fun us ws => us ++ ws) (fun vs zs => vs ++ zs)) (kb_is_saying_value : KBn K fd5 ["value"] 0 ["value"] (fun us ws => us ++ ws) (fun vs zs => vs ++ zs)) (kb_is_chain_value : KBn K fd6 ["value"] 0 ["value"] (fun us ws => us ++ ws) (fun vs zs => vs ++ zs)) :
    FnG P w K mg base CX0 106 f fd ["_law_value"] sp_judged := by
  refine okG F sc__law_judged (fun vs H Q E h => ?_) (fun cdv A outer s H vs Q E hg hr h => ?_)
  · obtain ⟨v, d, rfl, _⟩ := h
    rfl
  · obtain ⟨v, d, rfl, hd, fd, nd, dd, k⟩ := h
    have hu := hr.units
    refine ⟨_, (pss_cons (ps_par (i := 1) (j := 2) (by rfl) sc__law_judged.nd rfl rfl (by decide) rfl rfl (pa_cons (pe_callB (OQ.call_reprQ hg hu) (by rfl) T.b_repr (by decide +kernel) (pa_cons (pv 0) pa_nil)) (pa_cons (pe_tup (pa_cons (pe_call c__law_is_formula.ok (hr.mono (by decide)) (by rfl) c__law_is_formula.mgx c__law_is_formula.kp c__law_is_formula.bd .nil pass0 (pa_cons (pv 0) pa_nil)) (pa_cons (pe_call c__law_is_saying.ok (hr.mono (by decide)) (by rfl) c__law_is_saying.mgx c__law_is_saying.kp c__law_is_saying.bd .nil pass0 (pa_cons (pv 0) pa_nil)) (pa_cons (pe_call c__law_is_chain.ok (hr.mono (by decide)) (by rfl) c__law_is_chain.mgx c__law_is_chain.kp c__law_is_chain.bd .nil pass0 (pa_cons (pv 0) pa_nil)) pa_nil)))) pa_nil)) (by rfl)) (pss_cons (ps_for PassesOwn.never rfl (pi_range1 (by rfl) T.b_range (pa_cons pe_int pa_nil)) (pg_name (i := 3) sc__law_judged.nd rfl (Or.inl rfl)) (pss_cons (ps_set (i := 4) sc__law_judged.nd rfl (Or.inl rfl) (pe_tup (pa_cons (pe_call c_is_formula.ok (hr.mono (by decide)) (by rfl) c_is_formula.mgx c_is_formula.kp c_is_formula.bd .nil pass0 (pa_cons (pv 0) pa_nil)) (pa_cons (pe_call c_is_saying.ok (hr.mono (by decide)) (by rfl) c_is_saying.mgx c_is_saying.kp c_is_saying.bd .nil pass0 (pa_cons (pv 0) pa_nil)) (pa_cons (pe_call c_is_chain.ok (hr.mono (by decide)) (by rfl) c_is_chain.mgx c_is_chain.kp c_is_chain.bd .nil pass0 (pa_cons (pv 0) pa_nil)) pa_nil))))) (pss_cons (ps_if (pt_cmpR op_eq (pv 3) pe_int (nomark _)) (pss_one (ps_set (i := 4) sc__law_judged.nd rfl (Or.inl rfl) (pe_tup (pa_cons (pe_callN0 c_is_formula.ok (hr.mono (by decide)) (by rfl) c_is_formula.mgx c_is_formula.kp kb_is_formula_value pass0 (pk_cons (pv 0) pk_nil)) (pa_cons (pe_callN0 c_is_saying.ok (hr.mono (by decide)) (by rfl) c_is_saying.mgx c_is_saying.kp kb_is_saying_value pass0 (pk_cons (pv 0) pk_nil)) (pa_cons (pe_callN0 c_is_chain.ok (hr.mono (by decide)) (by rfl) c_is_chain.mgx c_is_chain.kp kb_is_chain_value pass0 (pk_cons (pv 0) pk_nil)) pa_nil)))))) pss_nil) (pss_one (ps_if (PW.pt (pw_or (pt_cmpR (neD (K := K) rfl hr.units) (pv 4) (pv 2) (nomark _)) (pw_or1 (pt_not (pt_val (pe_callB (allL (K := K) rfl rfl) (by rfl) T.b_all (by decide +kernel) (pa_cons (pe_lc (own := [("_law_one", 5)]) (g := (gName 5)) (by rfl) sc__law_judged.nd (piT (K := K) rfl (pv 4)) (blkOk_by (own := [("_law_one", 5)]) (N := ["_law_value", "_law_shown", "_law_due", "_law_turn", "_law_told", "_law_one"]) (sc := defScope s__law_judged) (by decide +kernel)) (fun _ _ _ _ _ => (pg_name (i := 5) sc__law_judged.nd rfl (Or.inl rfl))) (fun _ _ _ _ _ => pts_nil) (fun _ _ _ _ _ => (pe_callB (isiS (K := K) rfl) (by rfl) T.b_isinstance (by decide +kernel) (pa_cons (pv 5) (pa_cons (pe_bltn (v := .ty "bool") (u := .type "bool") (by rfl) T.b_bool (by decide +kernel) rfl) pa_nil))))) pa_nil))))))) (pss_one (ps_ret pe_bl)) pss_nil))))) (pss_one (ps_ret (pe_cmpR op_eq (pe_callB (OQ.call_reprQ hg hu) (by rfl) T.b_repr (by decide +kernel) (pa_cons (pv 0) pa_nil)) (pv 1) (nomark _)))))), ?_⟩
    refine par_k (ac_v (ev_reprQ (ev_var rfl) hd fd nd dd) fun H1 e1 => ac_k (eu_tup (ea_cons (ev_call (ea_cons (ev_var rfl) ea_nil) (spv_rec (hd.mono e1) fd dd)) (ea_cons (ev_call (ea_cons (ev_var rfl) ea_nil) (spv_rec (hd.mono e1) fd dd)) (ea_cons (ev_call (ea_cons (ev_var rfl) ea_nil) (spv_rec (hd.mono e1) fd dd)) ea_nil))) (by show 3 ≤ 100000; decide) H1 (Ex.refl H1) _ fun q H2 hq e2 h2 => ac_nil ⟨_, _, rfl, ?_⟩))
    have x2 : Ex H H2 := e1.trans e2
    refine q_forR1 (n := 2) (ea_cons ev_c ea_nil) (by decide) (fun i σ' H' => ∃ (o3 o4 o5 : Option V), σ' = [some v, some (.str d.shown), some (.ref q), o3, o4, o5] ∧ Ex H2 H') (fun H3 e3 => ⟨none, none, none, rfl, e3⟩) (fun i σ' H' hi hpv => ?_) (fun σ' H' hpv => ?_)
    · obtain ⟨o3, o4, o5, rfl, e3⟩ := hpv
      have hd3 := hd.mono (x2.trans e3)
      refine q_asgU (eu_tup (ea_cons (ev_call (ea_cons (ev_var rfl) ea_nil) (spv_form hd3 fd nd)) (ea_cons (ev_call (ea_cons (ev_var rfl) ea_nil) (spv_form hd3 fd nd)) (ea_cons (ev_call (ea_cons (ev_var rfl) ea_nil) (spv_form hd3 fd nd)) ea_nil))) (by show 3 ≤ 100000; decide)) fun r H4 hr4 e4 h4 => ?_
      refine q_ifSet (fun σ1 H5 => ∃ r1, σ1 = [some v, some (.str d.shown), some (.ref q), some (.int (i : Int)), some (.ref r1), o5] ∧ Ex H2 H5 ∧ H5 r1 = some (.tup [.bl (fOk d), .bl (sOk d), .bl (cOk d)])) (et_test (ev_op (ev_var rfl) ev_c (rv_eq rfl))) (fun _ H5 e5 Q' q' => ?_) (fun _ H5 e5 => ⟨r, rfl, (e3.trans e4).trans e5, e5 _ _ h4⟩) ?_
      · have hd5 := hd3.mono (e4.trans e5)
        exact eu_tup (ea_cons (ev_callN0 (ea_cons (ev_var rfl) ea_nil) rfl (spv_form hd5 fd nd)) (ea_cons (ev_callN0 (ea_cons (ev_var rfl) ea_nil) rfl (spv_form hd5 fd nd)) (ea_cons (ev_callN0 (ea_cons (ev_var rfl) ea_nil) rfl (spv_form hd5 fd nd)) ea_nil))) (by show 3 ≤ 100000; decide) H5 (Ex.refl H5) Q' fun r1 H6 hr6 e6 h6 => q' _ H6 ⟨r1, rfl, ((e3.trans e4).trans e5).trans e6, h6⟩
      · rintro _ H5 ⟨r1, rfl, e5, h5⟩
        have hb : ∀ {H' : Hp}, DpAll K H' [.bl (fOk d), .bl (sOk d), .bl (cOk d)] [.bool (fOk d), .bool (sOk d), .bool (cOk d)] := fun {H'} => .cons (.bl _) (.cons (.bl _) (.cons (.bl _) .nil))
        have sh := shaped_b3 (fOk d) (sOk d) (cOk d)
        refine s_when (b := false) (et_or (a := false) (b := false) (et_is (et_test (evd_neD (K := K) (evd_ref (ev_var rfl) (.tup (st_of h5) hb)) (evd_ref (ev_var rfl) (.tup (st_of (e5 _ _ h2)) hb)) sh sh)) (by rw [SeqAt.eqv_refl _ (SeqAt.canLay_of_shaped sh)]; rfl)) fun _ =>
          et_not (a := true) (et_B (ev_allT (el_lcT (K := K) (vs := [5]) (j := 5) (fun _ => true) (fun _ => V.bl true) (ev_var rfl) (st_of h5) (by show 3 ≤ 40000; decide) (fun _ => rfl) (fun _ _ _ _ _ => lc_yes) (fun i x H6 e6 hx _ => ?_))))) (fun z => nomatch z) fun _ H6 e6 => ⟨_, _, _, rfl, e5.trans e6⟩
        obtain ⟨b, rfl⟩ : ∃ b, x = V.bl b := by
          have := List.mem_of_getElem? hx
          simp only [List.mem_cons, List.not_mem_nil, or_false] at this
          rcases this with z | z | z <;> exact ⟨_, z⟩
        exact ev_isiD (K := K) (n := "bool") (ev_var rfl) (Dq.bl b) (kit_bool _)
    · obtain ⟨o3, o4, o5, rfl, e3⟩ := hpv
      exact s_ret (ev_is (ev_op (ev_reprQ (ev_var rfl) (hd.mono (x2.trans e3)) fd nd dd) (ev_var rfl) (rv_eq rfl)) (congrArg V.bl (decide_eq_true (show _ = _ from rfl)))) fun H4 e4 => k H4 ((x2.trans e3).trans e4)
theorem ok_wide {f : Addr} {fd : FuncData} (F : Fun K "_law_wide" "_law_wide" s__law_wide f fd) (T : Txt P w K mg SZ SY) (me : Me K mg "_law_wide" f fd ["_law_many", "_law_leaf"]) :
    ∀ n, FnOk P w K mg base CX0 (n + 1) f fd ["_law_many", "_law_leaf"] (sp_wide n) := by
  intro n
  induction n with
  | zero => exact ⟨fun vs H Q E h => by obtain ⟨m, v, t, _, _, h1, h2, _⟩ := h; rw [Nat.pow_zero] at h2; omega, fun A outer s H args us vs Q E _ _ _ _ h => by obtain ⟨m, v, t, _, _, h1, h2, _⟩ := h; rw [Nat.pow_zero] at h2; omega⟩
  | succ n ih =>
  have c__law_wide : Cal P w K mg base "_law_wide" f fd ["_law_many", "_law_leaf"] (n + 1) (sp_wide n) := ⟨ih, me.mgx, me.kp, me.bd⟩
  refine F.ok (k := n + 1) sc__law_wide (fun vs H Q E h => ?_) (fun cdv A outer s H vs Q E hr h => ?_)
  · obtain ⟨m, v, t, rfl, _⟩ := h
    rfl
  · obtain ⟨m, v, t, rfl, m3, m1, m2, hd, ft, k⟩ := h
    refine ⟨_, (pss_cons (ps_if (pt_cmpR op_eq (pv 0) pe_int (nomark _)) (pss_one (ps_ret (pv 1))) pss_nil) (pss_one (ps_ret (pe_tup (pa_cons pe_str (pa_cons (pe_call c__law_wide.ok (hr.mono (by omega)) (by rfl) c__law_wide.mgx c__law_wide.kp c__law_wide.bd .nil pass0 (pa_cons (pe_op op_fdivN (pv 0) pe_int) (pa_cons (pv 1) pa_nil))) (pa_cons (pe_call c__law_wide.ok (hr.mono (by omega)) (by rfl) c__law_wide.mgx c__law_wide.kp c__law_wide.bd .nil pass0 (pa_cons (pe_op op_sub (pv 0) (pe_op op_fdivN (pv 0) pe_int)) (pa_cons (pv 1) pa_nil))) pa_nil))))))), ?_⟩
    refine q_when (et_is (et_test (ev_op (ev_var rfl) ev_c (rv_eq rfl))) (show decide (V.int (m : Int) = V.int 1) = decide (m = 1) by rw [decide_eq_decide]; exact ⟨fun z => by have := V.int.inj z; omega, fun z => by rw [z]; rfl⟩)) (fun hb H1 e1 => ?_) (fun hb H1 e1 => ?_)
    · have hm : m = 1 := of_decide_eq_true hb
      subst hm
      exact s_ret (ev_var rfl) fun H2 e2 => k v t H2 (e1.trans e2) (hd.mono (e1.trans e2)) ft (by omega) (by omega)
    · have hm : m ≠ 1 := of_decide_eq_false hb
      have h2 : (m : Int).fdiv 2 = ((m / 2 : Nat) : Int) := by rw [Int.fdiv_eq_ediv_of_nonneg _ (by decide)]; omega
      have p2 : 2 ^ (n + 1) = 2 * 2 ^ n := by rw [Nat.pow_succ, Nat.mul_comm]
      have ne1 : 1 ≤ n := by
        cases n with
        | zero => simp at m2; omega
        | succ n => omega
      obtain ⟨n', rfl⟩ : ∃ n', n = n' + 1 := ⟨n - 1, by omega⟩
      have p3 : 2 ^ (n' + 1) = 2 * 2 ^ n' := by rw [Nat.pow_succ, Nat.mul_comm]
      refine ret_k (tup_k (ac_v ev_c fun H2 e2 => ac_k (call_k (ac_v (ev_is (ev_op (ev_var rfl) ev_c (rv_I ⟨by decide, by decide⟩)) (congrArg V.int h2)) fun H3 e3 => ac_v (ev_var rfl) fun H4 e4 => ac_nil ⟨m / 2, v, t, rfl, by omega, by omega, by omega, hd.mono (((e1.trans e2).trans e3).trans e4), ft, fun v1 t1 H5 e5 a1 f1 d1 n1 => ?_⟩))))
      have x5 := (((e1.trans e2).trans e3).trans e4).trans e5
      refine ac_k (call_k (ac_v (ev_is (ev_op (ev_var rfl) (ev_is (ev_op (ev_var rfl) ev_c (rv_I ⟨by decide, by decide⟩)) (congrArg V.int h2)) rv_I0) (congrArg V.int (show (m : Int) - ((m / 2 : Nat) : Int) = ((m - m / 2 : Nat) : Int) by omega))) fun H6 e6 => ac_v (ev_var rfl) fun H7 e7 => ac_nil ⟨m - m / 2, v, t, rfl, by omega, by omega, by omega, hd.mono ((x5.trans e6).trans e7), ft, fun v2 t2 H8 e8 a2 f2 d2 n2 => ac_nil ⟨sz_of (by show 3 ≤ 100000; decide), fun q hq => ?_⟩⟩))
      have x8 : Ex H5 H8 := (e6.trans e7).trans e8
      refine k _ (.tuple [.str "late", t1, t2]) _ ((x5.trans x8).trans (Ex.new hq)) (.tup upd_same (.cons (.str "late") (.cons (a1.mono (x8.trans (Ex.new hq))) (.cons (a2.mono (Ex.new hq)) .nil)))) (fine_mk (by simp [f1, f2, fine_tx (show ("late" : Str) ∈ txS by decide)])) ?_ ?_
      · simp only [dep, deps]; omega
      · have e : m / 2 * (nod t + 2) + (m - m / 2) * (nod t + 2) = m * (nod t + 2) := by rw [← Nat.add_mul, show m / 2 + (m - m / 2) = m by omega]
        simp only [nod, nods]; omega
theorem ok_deep {f : Addr} {fd : FuncData} (F : Fun K "_law_deep" "_law_deep" s__law_deep f fd) (T : Txt P w K mg SZ SY) : FnOk P w K mg base CX0 1 f fd ["_law_many", "_law_leaf"] sp_deep := by
  refine F.ok sc__law_deep (fun vs H Q E h => ?_) (fun cdv A outer s H vs Q E hr h => ?_)
  · obtain ⟨v, t, rfl, _⟩ := h
    rfl
  · obtain ⟨v, t, rfl, hd, ft, k⟩ := h
    refine ⟨_, (pss_cons (ps_set (i := 2) sc__law_deep.nd rfl (Or.inl rfl) (pv 1)) (pss_cons (ps_for PassesOwn.never rfl (pi_range1 (by rfl) T.b_range (pa_cons (pv 0) pa_nil)) (pg_name (i := 3) sc__law_deep.nd rfl (Or.inl rfl)) (pss_one (ps_set (i := 2) sc__law_deep.nd rfl (Or.inl rfl) (pe_ifExp (pt_cmpR op_eq (pe_op op_mul (pe_op op_fdivN (pv 3) pe_int) pe_int) (pv 3) (nomark _)) (pe_tup (pa_cons pe_str (pa_cons (pv 3) (pa_cons (pv 2) pa_nil)))) (pe_tup (pa_cons pe_str (pa_cons (pe_ix ix_str pe_str (pe_op op_fdivN (pv 3) pe_int) (fun _ _ => rfl)) (pa_cons (pv 2) pa_nil)))))))) (pss_one (ps_ret (pv 2))))), ?_⟩
    refine q_asg (ev_var rfl) fun H1 e1 => ?_
    refine q_forR1 (n := 34) (ea_cons (ev_var rfl) ea_nil) (by decide) (fun i σ' H' => ∃ (u : V) (t' : PyData) (o3 : Option V), σ' = [some (.int 34), some v, some u, o3] ∧ Ex H H' ∧ Dq H' u t' ∧ fine t' = true ∧ dep t' ≤ dep t + i ∧ nod t' ≤ nod t + 3 * i) (fun H2 e2 => ⟨v, t, none, rfl, e1.trans e2, hd.mono (e1.trans e2), ft, by omega, by omega⟩) (fun i σ' H' hi hpv => ?_) (fun σ' H' hpv => ?_)
    · obtain ⟨u, t', o3, rfl, x, hu, fu, du, nu⟩ := hpv
      have hi' : i < 34 := by omega
      obtain ⟨c, hc, hct⟩ := deep_word i hi'
      have fi : fine (.int (i : Int)) = true := fine_int (by omega)
      refine s_asgk (if_mid (fun u1 H2 => ∃ t1, Ex H H2 ∧ Dq H2 u1 t1 ∧ fine t1 = true ∧ dep t1 ≤ dep t + (i + 1) ∧ nod t1 ≤ nod t + 3 * (i + 1)) (et_test (ev_op (ev_op (ev_op (ev_var rfl) ev_c (rv_I ⟨by decide, by decide⟩)) ev_c (rv_I (.inr ⟨by decide, by decide⟩))) (ev_var rfl) (rv_eq rfl))) (fun _ H2 e2 Q' q' => ?_) (fun _ H2 e2 Q' q' => ?_) ?_)
      · refine tup_k (ac_v ev_c fun H3 e3 => ac_v (ev_var rfl) fun H4 e4 => ac_v (ev_var rfl) fun H5 e5 => ac_nil ⟨sz_of (by show 3 ≤ 100000; decide), fun q hq => q' _ _ ⟨.tuple [.str "add", .int (i : Int), t'], ?_, ?_, ?_, ?_, ?_⟩⟩)
        · exact ((((x.trans e2).trans e3).trans e4).trans e5).trans (Ex.new hq)
        · exact .tup upd_same (.cons (.str "add") (.cons (.int _) (.cons (hu.mono ((((e2.trans e3).trans e4).trans e5).trans (Ex.new hq))) .nil)))
        · exact fine_mk (by simp [fu, fi, fine_tx (show ("add" : Str) ∈ txS by decide)])
        · simp only [dep, deps]; omega
        · simp only [nod, nods]; omega
      · refine tup_k (ac_v ev_c fun H3 e3 => ac_v (v := .str ⟨#[c]⟩) (ev_op ev_c (ev_op (ev_var rfl) ev_c (rv_I ⟨by decide, by decide⟩)) (fun H4 e4 Q q => ⟨_, _, c, rfl, rfl, sz_of (by decide), hc, q H4 (Ex.refl _)⟩)) fun H4 e4 => ac_v (ev_var rfl) fun H5 e5 => ac_nil ⟨sz_of (by show 3 ≤ 100000; decide), fun q hq => q' _ _ ⟨.tuple [.str "on", .str ⟨#[c]⟩, t'], ?_, ?_, ?_, ?_, ?_⟩⟩)
        · exact ((((x.trans e2).trans e3).trans e4).trans e5).trans (Ex.new hq)
        · exact .tup upd_same (.cons (.str "on") (.cons (.str _) (.cons (hu.mono ((((e2.trans e3).trans e4).trans e5).trans (Ex.new hq))) .nil)))
        · exact fine_mk (by simp [fu, fine_tx hct, fine_tx (show ("on" : Str) ∈ txS by decide)])
        · simp only [dep, deps]; omega
        · simp only [nod, nods]; omega
      · rintro u1 H2 ⟨t1, y1, y2, y3, y4, y5⟩
        exact ⟨u1, t1, _, rfl, y1, y2, y3, y4, y5⟩
    · obtain ⟨u, t', o3, rfl, x, hu, fu, du, nu⟩ := hpv
      have h34 : (34 : Int).toNat = 34 := rfl
      rw [h34] at du nu
      exact s_ret (ev_var rfl) fun H2 e2 => k u t' H2 (x.trans e2) (hu.mono e2) fu du (by omega)
end
end K20
end
section
set_option maxHeartbeats 4000000
namespace K20
open PySem L2 Evl G OQ
/-! ### great values -/
noncomputable def sp_great : Sp := fun vs H Q _ => ∃ (p : Addr) (v : V) (t : PyData), vs = [.ref p, v] ∧ PotAt H p ∧ Dq (wo H p) v t ∧ fine t = true ∧ dep t ≤ 2 ∧ nod t ≤ 5 ∧ ∀ H2, Rg p H H2 → Q (.bl true) H2
structure JOk (d : PyData) : Prop where
  f : fine d = true
  n : nod d ≤ 3000
  d : dep d < 50
section
variable {K : PySem.W.Frag} {σ : L2.St} {H : Hp} {te tl : TE} {tu : TS} {E : XK} {D : Ends} {tz : TS} {v : V} {d : PyData} {ds : List PyData} {j : Nat}
theorem spv_judged (hd : Dq H v d) (k : JOk d) : SpV sp_judged ([v] ++ []) H (.bl true) := fun H1 e Q q E => ⟨v, d, rfl, hd.mono e, k.f, k.n, k.d, q⟩
theorem q_forLq (h : EvLq tl σ H ds) (Pv : Addr → List V → Nat → L2.St → Hp → Prop) (h0 : ∀ p ys H1, H p = none → Ex H H1 → H1 p = some (.lst ys) → DqAll H1 ys ds → Pv p ys 0 σ H1) (hl : ∀ p ys i σ' H', i ≤ ys.length → Pv p ys i σ' H' → SqL K H' p ys)
    (hs : ∀ p ys i x σ' H', ys[i]? = some x → Pv p ys i σ' H' → tu { D with nx := Pv p ys (i + 1), ct := Pv p ys (i + 1), bk := tz D } (σ'.set j (some x)) H') (hd : ∀ p ys σ' H', ys.length = ds.length → Pv p ys ys.length σ' H' → tz D σ' H') : tSeq (tFor (iList K tl) (gName j) tu) tz D σ H :=
  h H (Ex.refl H) _ fun p ys H1 hp e h1 k => ⟨p, rfl, ⟨ys, sq_of h1⟩, for_list (D := { D with nx := tz D }) (Pv p ys) (h0 p ys H1 hp e h1 k) (hl p ys) (fun i x σ' H' hi pv => hs p ys i x σ' H' hi pv) (fun σ' H' pv => hd p ys σ' H' k.len pv)⟩
end
section
variable {P : Program} {w : World} {K : PySem.W.Frag} {mg : Str → Option Value} {base : Heap} {SZ SY : Addr}
theorem ok_great {f f1 f2 f3 f4 : Addr} {fd fd1 fd2 fd3 fd4 : FuncData} (F : Fun K "_law_great_right" "_law_great_right" s__law_great_right f fd) (T : Txt P w K mg SZ SY) (c__law_draw : Cal P w K mg base "_law_draw" f1 fd1 ["_law_pot_here", "_law_many"] 1 sp_draw) (c__law_wide : Cal P w K mg base "_law_wide" f2 fd2 ["_law_many", "_law_leaf"] (8 + 1) (sp_wide 8)) (c__law_deep : Cal P w K mg base "_law_deep" f3 fd3 ["_law_many", "_law_leaf"] 1 sp_deep) (c__law_judged : CalG P w K mg base "_law_judged" f4 fd4 ["_law_value"] 106 sp_judged) :
    FnG P w K mg base CX0 107 f fd ["_law_pot_here", "_law_leaf"] sp_great := by
  refine okG F sc__law_great_right (fun vs H Q E h => ?_) (fun cdv A outer s H vs Q E hg hr h => ?_)
  · obtain ⟨p, v, t, rfl, _⟩ := h
    rfl
  · obtain ⟨p, v, t, rfl, hp, hd, ft, dt, nt, k⟩ := h
    refine ⟨_, (pss_cons (ps_par (i := 2) (j := 3) (by rfl) sc__law_great_right.nd rfl rfl (by decide) rfl rfl (pa_cons (pe_call c__law_wide.ok (hr.mono (by decide)) (by rfl) c__law_wide.mgx c__law_wide.kp c__law_wide.bd .nil pass0 (pa_cons (pe_op op_add pe_int (pe_call c__law_draw.ok (hr.mono (by decide)) (by rfl) c__law_draw.mgx c__law_draw.kp c__law_draw.bd .nil pass0 (pa_cons (pv 0) (pa_cons pe_int pa_nil)))) (pa_cons (pv 1) pa_nil))) (pa_cons (pe_call c__law_deep.ok (hr.mono (by decide)) (by rfl) c__law_deep.mgx c__law_deep.kp c__law_deep.bd .nil pass0 (pa_cons pe_int (pa_cons (pv 1) pa_nil))) pa_nil)) (by rfl)) (pss_cons (ps_for PassesOwn.never rfl (piL (K := K) rfl (pe_lst (pa_cons (pv 2) (pa_cons (pv 3) (pa_cons (pe_tup (pa_cons pe_str (pa_cons (pv 2) (pa_cons (pv 3) pa_nil)))) (pa_cons (pe_tup (pa_cons pe_str (pa_cons (pe_tup (pa_cons pe_str (pa_cons (pv 3) (pa_cons (pv 2) pa_nil)))) (pa_cons (pe_tup (pa_cons pe_str (pa_cons (pe_tup (pa_cons pe_str (pa_cons (pv 2) (pa_cons (pv 2) pa_nil)))) pa_nil))) pa_nil)))) pa_nil)))))) (pg_name (i := 4) sc__law_great_right.nd rfl (Or.inl rfl)) (pss_one (ps_if (pt_not (pt_val (pe_callG c__law_judged.ok hg (hr.mono (by decide)) (by rfl) c__law_judged.mgx c__law_judged.kp c__law_judged.bd .nil pass0 (pa_cons (pv 4) pa_nil)))) (pss_one (ps_ret pe_bl)) pss_nil))) (pss_one (ps_ret pe_bl)))), ?_⟩
    refine par_k (ac_k (call_k (ac_k (op_k (v_k (ev_c (v := .int 31)) fun H1 e1 => drawC (hp.mono e1) rfl ev_c (by decide) (by decide) fun m H2 m0 m1 e2 hp2 => ⟨31, m, rfl, rfl, ac_v (ev_var rfl) fun H3 e3 => ac_nil ?_⟩)))))
    have r3 : Rg p H H3 := (((Rg.rfl hp).mono e1).step e2 hp2).mono e3
    obtain ⟨j, rfl⟩ : ∃ j : Nat, m = (j : Int) := ⟨m.toNat, by omega⟩
    refine ⟨31 + j, v, t, by show [V.int (31 + (j : Int)), v] = _; congr 2, by omega, by omega, by show 2 * (31 + j) ≤ 256; omega, (hd.mono (wo_sub r3.x)).mono wo_ex, ft, fun vw tw H4 e4 qw fw dw nw => ac_k (call_k (ac_v ev_c fun H5 e5 => ac_v (ev_var rfl) fun H6 e6 => ac_nil ?_))⟩
    have r6 := ((r3.mono e4).mono e5).mono e6
    refine ⟨v, t, rfl, (hd.mono (wo_sub r6.x)).mono wo_ex, ft, fun vd td H7 e7 qd fdd dd nd => ac_nil ⟨_, _, rfl, ?_⟩⟩
    have r7 := r6.mono e7
    have qw7 := qw.mono ((e5.trans e6).trans e7)
    have nw' : nod tw ≤ 500 := by
      have : (31 + j) * (nod t + 2) ≤ 65 * 7 := Nat.mul_le_mul (by omega) (by omega)
      omega
    have jok : ∀ d ∈ [tw, td, .tuple [.str "le", tw, td], .tuple [.str "and", .tuple [.str "le", td, tw], .tuple [.str "not", .tuple [.str "le", tw, tw]]]], JOk d := by
      intro d hd
      simp only [List.mem_cons, List.not_mem_nil, or_false] at hd
      have f1 : fine (.str "le") = true := fine_tx (by decide)
      have f2 : fine (.str "and") = true := fine_tx (by decide)
      have f3 : fine (.str "not") = true := fine_tx (by decide)
      have g1 : fine (.tuple [.str "le", td, tw]) = true := fine_mk (by simp [fw, fdd, f1])
      have g2 : fine (.tuple [.str "not", .tuple [.str "le", tw, tw]]) = true := fine_mk (by simp [fine_mk (show [PyData.str "le", tw, tw].all fine = true by simp [fw, f1]), f3])
      rcases hd with e | e | e | e <;> subst e
      · exact ⟨fw, by omega, by omega⟩
      · exact ⟨fdd, by omega, by omega⟩
      · exact ⟨fine_mk (by simp [fw, fdd, f1]), by simp only [nod, nods]; omega, by simp only [dep, deps]; omega⟩
      · exact ⟨fine_mk (by simp [g1, g2, f2]), by simp only [nod, nods]; omega, by simp only [dep, deps]; omega⟩
    refine q_forLq (lq_lst (aq_cons (eq_ref (ev_var rfl) qw7) (aq_cons (eq_ref (ev_var rfl) qd) (aq_cons (eq_tup (aq_cons eq_str (aq_cons (eq_ref (ev_var rfl) qw7) (aq_cons (eq_ref (ev_var rfl) qd) aq_nil))) (by show 3 ≤ 100000; decide)) (aq_cons (eq_tup (aq_cons eq_str (aq_cons (eq_tup (aq_cons eq_str (aq_cons (eq_ref (ev_var rfl) qd) (aq_cons (eq_ref (ev_var rfl) qw7) aq_nil))) (by show 3 ≤ 100000; decide))
      (aq_cons (eq_tup (aq_cons eq_str (aq_cons (eq_tup (aq_cons eq_str (aq_cons (eq_ref (ev_var rfl) qw7) (aq_cons (eq_ref (ev_var rfl) qw7) aq_nil))) (by show 3 ≤ 100000; decide)) aq_nil)) (by show 2 ≤ 100000; decide)) aq_nil))) (by show 3 ≤ 100000; decide)) aq_nil)))) (by show 4 ≤ 100000; decide))
      (fun q ys i σ' H' => ∃ o4, σ' = [some (.ref p), some v, some vw, some vd, o4] ∧ Ex H7 H' ∧ H' q = some (.lst ys) ∧ DqAll H' ys _) (fun q ys H8 hq e8 h8 k8 => ⟨none, rfl, e8, h8, k8⟩) (fun q ys i σ' H' hi hpv => ?_) (fun q ys i x σ' H' hx hpv => ?_) (fun q ys σ' H' hl hpv => ?_)
    · obtain ⟨o4, _, _, h, _⟩ := hpv
      exact sq_of h
    · obtain ⟨o4, rfl, e8, h8, k8⟩ := hpv
      obtain ⟨d, hdi, hq⟩ := k8.get hx
      exact s_when (b := false) (et_not (a := true) (et_B (ev_call (ea_cons (ev_var rfl) ea_nil) (spv_judged hq (jok d (List.mem_of_getElem? hdi)))))) (fun z => nomatch z) fun _ H9 e9 => ⟨_, rfl, e8.trans e9, e9 _ _ h8, k8.mono e9⟩
    · obtain ⟨o4, rfl, e8, h8, k8⟩ := hpv
      exact s_ret ev_c fun H9 e9 => k H9 (r7.mono (e8.trans e9))
end
end K20
end
section
set_option maxHeartbeats 4000000
namespace K20
open PySem L2 Evl G OQ
/-! ### a pot judged right -/
noncomputable def sp_right : Sp := fun vs H Q _ => ∃ (p : Addr), vs = [.ref p] ∧ PotAt H p ∧ ∀ H2, Rg p H H2 → Q (.bl true) H2
theorem hid_new {H : Hp} {p vl : Addr} {o : HO} (hv : H vl = none) : Ex (wo H p) (hid [p, vl] (upd H vl o)) := fun b u h => by
  by_cases hb : b = p
  · subst hb; rw [wo_at] at h; cases h
  · rw [wo_ne hb] at h
    have hb2 : b ≠ vl := fun z => by rw [z, hv] at h; cases h
    rw [hid_off (by simp [hb, hb2]), upd_ne hb2]; exact h
theorem hid_updE {Z : List Addr} {H : Hp} {vl : Addr} {o : HO} (h : vl ∈ Z) : Ex (hid Z H) (hid Z (upd H vl o)) := fun b u k => by
  by_cases hb : b ∈ Z
  · rw [hid_at hb] at k; cases k
  · rw [hid_off hb] at k
    rw [hid_off hb, upd_ne (fun z => hb (by rw [z]; exact h))]; exact k
theorem names_tx : ∀ x ∈ SX.signs "pqrstuvwxyz", x ∈ txS := by decide +kernel
theorem rules_tx : ∀ x ∈ SX.signs "abcdefgh", x ∈ txS := by decide +kernel
theorem JOk.of {n m : Nat} {d : PyData} (h : VOk n m d) (hn : n < 50) (hm : m ≤ 3000) : JOk d := ⟨h.f, by have := h.sz; omega, by have := h.dp; omega⟩
noncomputable def more1 (t u : PyData) : List PyData := [u, .tuple [.str "add", .int 2, u], .tuple [.str "le", t, u], .tuple [.str "le", u, t], .tuple [.str "not", u]]
noncomputable def more2 (t s u : PyData) : List PyData := [.tuple [.str "soon", t, u], .tuple [.str "or", s, u], .tuple [.str "and", u, s], .list [u], .tuple [u]]
theorem more_ok {t s u : PyData} (ht : VOk 6 200 t) (hs : VOk 6 200 s) (hu : VOk 20 600 u) : (∀ d ∈ more1 t u, JOk d) ∧ ∀ d ∈ more2 t s u, JOk d := by
  have f1 : fine (.str "add") = true := fine_tx (by decide)
  have f2 : fine (.str "le") = true := fine_tx (by decide)
  have f3 : fine (.str "not") = true := fine_tx (by decide)
  have f4 : fine (.str "soon") = true := fine_tx (by decide)
  have f5 : fine (.str "or") = true := fine_tx (by decide)
  have f6 : fine (.str "and") = true := fine_tx (by decide)
  have f7 : fine (.int 2) = true := by decide
  obtain ⟨t1, t2, t3⟩ := ht
  obtain ⟨s1, s2, s3⟩ := hs
  obtain ⟨u1, u2, u3⟩ := hu
  constructor
  · intro d hd
    simp only [more1, List.mem_cons, List.not_mem_nil, or_false] at hd
    rcases hd with e | e | e | e | e <;> subst e
    · exact ⟨u1, by omega, by omega⟩
    all_goals exact ⟨fine_mk (by simp [t1, s1, u1, f1, f2, f3, f7]), by simp only [nod, nods]; omega, by simp only [dep, deps]; omega⟩
  · intro d hd
    simp only [more2, List.mem_cons, List.not_mem_nil, or_false] at hd
    rcases hd with e | e | e | e | e <;> subst e
    · exact ⟨fine_mk (by simp [t1, s1, u1, f4]), by simp only [nod, nods]; omega, by simp only [dep, deps]; omega⟩
    · exact ⟨fine_mk (by simp [t1, s1, u1, f5]), by simp only [nod, nods]; omega, by simp only [dep, deps]; omega⟩
    · exact ⟨fine_mk (by simp [t1, s1, u1, f6]), by simp only [nod, nods]; omega, by simp only [dep, deps]; omega⟩
    · exact ⟨by rw [fine, fines_all]; simp [u1], by simp only [nod, nods]; omega, by simp only [dep, deps]; omega⟩
    · exact ⟨fine_mk (by simp [u1]), by simp only [nod, nods]; omega, by simp only [dep, deps]; omega⟩
section
variable {K : PySem.W.Frag} {σ : L2.St} {H : Hp} {p vl : Addr} {Z : List Addr} {tA : TA} {te ta tb tl : TE} {Q : VK} {E : XK} {D : Ends} {tz : TS} {v : V} {d : PyData} {us : List V} {ds : List PyData} {i : Nat}
theorem lstB_k (h : tA σ H fun vs H1 => vs.length ≤ sizeLine ∧ ∀ p, H1 p = none → p ≠ sysModules → Q (.ref p) (upd H1 p (.lst vs))) : tLstB tA σ H Q := h
theorem el_lstB {vs : List V} (h : EvA tA σ H vs) (hl : vs.length ≤ 100000) : EvL (tLstB tA) σ H vs := fun H1 e Q q => h H1 e _ fun H2 e2 => ⟨sz_of hl, fun p hp _ => q p _ (fresh_back e2 hp) (e2.trans (Ex.new hp)) upd_same⟩
theorem ew_ref (h : Ev te σ H v) (hd : Dq (hid Z H) v d) : EvW Z te σ H d := fun H1 e Q q => h H1 e Q fun H2 e2 => q v H2 e2 (hd.mono (hid_mono (e.trans e2)))
theorem s_extW (hl : H vl = some (.lst us)) (ha : Ev ta σ H (.ref vl)) (h : EvLw Z tl σ H ds) (hn : us.length + ds.length ≤ 100000) (k : ∀ vs H1, Ex H H1 → DqAll (hid Z H1) vs ds → D.nx σ (upd H1 vl (.lst (us ++ vs)))) :
    tDrop (tBM K "list" rExtend ta (tCons tl tNil)) D σ H := ha H (Ex.refl H) _ fun H1 e1 =>
  ⟨Or.inl ⟨rfl, us, sq_of (e1 vl _ hl)⟩, h H1 e1 _ fun q vs H2 hq e2 h2 kk => ⟨vl, q, us, vs, rfl, rfl, e2 vl _ (e1 vl _ hl), hid_ex _ _ h2, sz_of (by rw [kk.len]; exact hn), k vs H2 (e1.trans e2) kk⟩⟩
theorem q_extW (hl : H vl = some (.lst us)) (ha : Ev ta σ H (.ref vl)) (h : EvLw Z tl σ H ds) (hn : us.length + ds.length ≤ 100000) (k : ∀ vs H1, Ex H H1 → DqAll (hid Z H1) vs ds → tz D σ (upd H1 vl (.lst (us ++ vs)))) :
    tSeq (tDrop (tBM K "list" rExtend ta (tCons tl tNil))) tz D σ H := s_extW (D := { D with nx := tz D }) hl ha h hn k
theorem andV_k (h : ta σ H fun x H1 => ∃ c, x = .bl c ∧ if c = true then tb σ H1 Q else Q (.bl false) H1) : tAndV ta tb σ H Q := h
theorem someC {z : Str} {n : Int} {m : Nat} (hm : n = (m : Int)) (hp : PotAt H p) (hv : σ[i]? = some (some (.ref p))) (h1 : m ≤ (SX.signs z).length) (h2 : (SX.signs z).length ≤ 1000) (h3 : (SX.signs z).Nodup) (h4 : z.cps.size ≤ 1000)
    (k : ∀ l (ks : List Str) H2, ks.length = m → (∀ k ∈ ks, k ∈ SX.signs z) → H l = none → Rg p H H2 → H2 l = some (.lst (ks.map V.str)) → Q (.ref l) H2) : tCall (sp_some K) [] E (tCons (tVar i) (tCons (tC (.str z)) (tCons (tC (.int n)) tNil))) σ H Q := by
  subst hm
  exact ⟨.ref p, hv, p, z, m, rfl, hp, h1, h2, h3, h4, fun l ks H2 a1 _ a3 a4 a5 a6 a7 => k l ks H2 a1 a3 a4 ⟨a5, a6⟩ a7⟩
theorem oddC (hp : PotAt H p) (hz : p ∈ Z) (hd : Hd Z H) (hv : σ[i]? = some (some (.ref p))) (k : ∀ v d H2, Rg p H H2 → Dq (hid Z H2) v d → VOk 4 20 d → Q v H2) : tCall sp_odd [] E (tCons (tVar i) tNil) σ H Q := ⟨.ref p, hv, p, Z, rfl, hp, hz, hd, fun v d H2 e2 hp2 q o => k v d H2 ⟨e2, hp2⟩ q o⟩
end
theorem PotAt.hd {H : Hp} {p : Addr} (h : PotAt H p) : Hd [p] H := fun b hb => by rw [List.mem_singleton.mp hb]; exact h.some
theorem DOk.vok {n m n' m' : Nat} {t : PyData} (h : DOk n m t) (hn : n ≤ n') (hm : m ≤ m') : VOk n' m' t := ⟨h.f, by have := h.dp; omega, by have := h.sz; omega⟩
section
variable {P : Program} {w : World} {K : PySem.W.Frag} {mg : Str → Option Value} {base : Heap} {SZ SY : Addr}
theorem ok_right {f f1 f2 f3 f4 f5 f6 f7 f8 : Addr} {fd fd1 fd2 fd3 fd4 fd5 fd6 fd7 fd8 : FuncData} (F : Fun K "_law_right" "_law_right" s__law_right f fd) (T : Txt P w K mg SZ SY) (c__law_some : Cal P w K mg base "_law_some" f1 fd1 ["_law_pot_here", "_law_letters", "_law_many"] 2 (sp_some K)) (c__law_formula : Cal P w K mg base "_law_formula" f2 fd2 ["_law_pot_here", "_law_deep_here", "_law_names", "_law_rules"] (4 + 4) (sp_formula K 4)) (c__law_saying : Cal P w K mg base "_law_saying" f3 fd3 ["_law_pot_here", "_law_deep_here", "_law_names", "_law_rules"] (3 + 9) (sp_saying K 3))
    (c__law_odd : Cal P w K mg base "_law_odd" f4 fd4 ["_law_pot_here"] 3 sp_odd) (c__law_spoilt : Cal P w K mg base "_law_spoilt" f5 fd5 ["_law_pot_here", "_law_told"] (10 + 4) (sp_spoilt 10)) (c__law_number : Cal P w K mg base "_law_number" f6 fd6 ["_law_pot_here"] 3 sp_number) (c__law_judged : CalG P w K mg base "_law_judged" f7 fd7 ["_law_value"] 106 sp_judged) (c__law_great_right : CalG P w K mg base "_law_great_right" f8 fd8 ["_law_pot_here", "_law_leaf"] 107 sp_great) :
    FnG P w K mg base CX0 108 f fd ["_law_pot_here"] sp_right := by
  refine okG F sc__law_right (fun vs H Q E h => ?_) (fun cdv A outer s H vs Q E hg hr h => ?_)
  · obtain ⟨p, rfl, _⟩ := h
    rfl
  · obtain ⟨p, rfl, hp, k⟩ := h
    refine ⟨_, (pss_cons (ps_par (i := 1) (j := 2) (by rfl) sc__law_right.nd rfl rfl (by decide) rfl rfl (pa_cons (pe_call c__law_some.ok (hr.mono (by decide)) (by rfl) c__law_some.mgx c__law_some.kp c__law_some.bd .nil pass0 (pa_cons (pv 0) (pa_cons pe_str (pa_cons pe_int pa_nil)))) (pa_cons (pe_call c__law_some.ok (hr.mono (by decide)) (by rfl) c__law_some.mgx c__law_some.kp c__law_some.bd .nil pass0 (pa_cons (pv 0) (pa_cons pe_str (pa_cons pe_int pa_nil)))) pa_nil)) (by rfl)) (pss_cons (ps_par (i := 3) (j := 4) (by rfl) sc__law_right.nd rfl rfl (by decide) rfl rfl (pa_cons (pe_call c__law_formula.ok (hr.mono (by decide)) (by rfl) c__law_formula.mgx c__law_formula.kp c__law_formula.bd .nil pass0 (pa_cons (pv 0) (pa_cons pe_int (pa_cons (pv 1) (pa_cons (pv 2) pa_nil))))) (pa_cons (pe_call c__law_saying.ok (hr.mono (by decide)) (by rfl) c__law_saying.mgx c__law_saying.kp c__law_saying.bd .nil pass0 (pa_cons (pv 0) (pa_cons pe_int (pa_cons (pv 1) (pa_cons (pv 2) pa_nil))))) pa_nil)) (by rfl)) (pss_cons (ps_set (i := 5) sc__law_right.nd rfl (Or.inl rfl) (pe_lstB (pa_cons (pv 3) (pa_cons (pv 4) (pa_cons (pe_call c__law_odd.ok (hr.mono (by decide)) (by rfl) c__law_odd.mgx c__law_odd.kp c__law_odd.bd .nil pass0 (pa_cons (pv 0) pa_nil)) (pa_cons (pe_call c__law_odd.ok (hr.mono (by decide)) (by rfl) c__law_odd.mgx c__law_odd.kp c__law_odd.bd .nil pass0 (pa_cons (pv 0) pa_nil)) pa_nil)))))) (pss_cons (ps_for PassesOwn.never rfl (piL (K := K) rfl (pe_lstB (pa_cons (pv 3) (pa_cons (pv 4) (pa_cons (pv 3) (pa_cons (pv 4) pa_nil)))))) (pg_name (i := 6) sc__law_right.nd rfl (Or.inl rfl)) (pss_cons (ps_set (i := 7) sc__law_right.nd rfl (Or.inl rfl) (pe_call c__law_spoilt.ok (hr.mono (by decide)) (by rfl) c__law_spoilt.mgx c__law_spoilt.kp c__law_spoilt.bd .nil pass0 (pa_cons (pv 0) (pa_cons (pv 6) pa_nil)))) (pss_cons (ps_expr (pe_bm PySem.F.plainAttrs_list PySem.F.slot_list_extend PySem.F.type_list_extend mt_extend (pv 5) (pa_cons (pe_lstB (pa_cons (pv 7) (pa_cons (pe_tup (pa_cons pe_str (pa_cons pe_int (pa_cons (pv 7) pa_nil)))) (pa_cons (pe_tup (pa_cons pe_str (pa_cons (pv 3) (pa_cons (pv 7) pa_nil)))) (pa_cons (pe_tup (pa_cons pe_str (pa_cons (pv 7) (pa_cons (pv 3) pa_nil)))) (pa_cons (pe_tup (pa_cons pe_str (pa_cons (pv 7) pa_nil))) pa_nil)))))) pa_nil))) (pss_one (ps_expr (pe_bm PySem.F.plainAttrs_list PySem.F.slot_list_extend PySem.F.type_list_extend mt_extend (pv 5) (pa_cons (pe_lstB (pa_cons (pe_tup (pa_cons pe_str (pa_cons (pv 3) (pa_cons (pv 7) pa_nil)))) (pa_cons (pe_tup (pa_cons pe_str (pa_cons (pv 4) (pa_cons (pv 7) pa_nil)))) (pa_cons (pe_tup (pa_cons pe_str (pa_cons (pv 7) (pa_cons (pv 4) pa_nil)))) (pa_cons (pe_lstB (pa_cons (pv 7) pa_nil)) (pa_cons (pe_tup (pa_cons (pv 7) pa_nil)) pa_nil)))))) pa_nil))))))) (pss_cons (ps_for PassesOwn.never rfl (piL (K := K) rfl (pv 5)) (pg_name (i := 8) sc__law_right.nd rfl (Or.inl rfl)) (pss_one (ps_if (pt_not (pt_val (pe_callG c__law_judged.ok hg (hr.mono (by decide)) (by rfl) c__law_judged.mgx c__law_judged.kp c__law_judged.bd .nil pass0 (pa_cons (pv 8) pa_nil)))) (pss_one (ps_ret pe_bl)) pss_nil))) (pss_one (ps_ret (pe_and (pe_callG c__law_great_right.ok hg (hr.mono (by decide)) (by rfl) c__law_great_right.mgx c__law_great_right.kp c__law_great_right.bd .nil pass0 (pa_cons (pv 0) (pa_cons (pe_tup (pa_cons pe_str (pa_cons (pe_ix (ixL (K := K) rfl) (pv 1) pe_int (fun _ _ => rfl)) pa_nil))) pa_nil))) (pe_one (pe_callG c__law_great_right.ok hg (hr.mono (by decide)) (by rfl) c__law_great_right.mgx c__law_great_right.kp c__law_great_right.bd .nil pass0 (pa_cons (pv 0) (pa_cons (pe_tup (pa_cons pe_str (pa_cons (pe_call c__law_number.ok (hr.mono (by decide)) (by rfl) c__law_number.mgx c__law_number.kp c__law_number.bd .nil pass0 (pa_cons (pv 0) pa_nil)) pa_nil))) pa_nil)))))))))))), ?_⟩
    refine par_k (ac_k (someC (K := K) (m := 3) rfl hp rfl (by decide) (by decide) (by decide +kernel) (by decide) fun nl N H1 nN sN hnl r1 h1 => ac_k (someC (K := K) (m := 3) rfl r1.hp rfl (by decide) (by decide) (by decide +kernel) (by decide) fun rl R H2 nR sR hrl r12 h2 => ac_nil ⟨_, _, rfl, ?_⟩)))
    have r2 := r1.tr r12
    have nlp : nl ≠ p := fun z => by obtain ⟨o, ho⟩ := hp.some; rw [z, ho] at hnl; cases hnl
    have rlp : rl ≠ p := fun z => by obtain ⟨o, ho⟩ := r1.hp.some; rw [z, ho] at hrl; cases hrl
    have lN : LOk K (wo H2 p) nl N := ⟨sq_of (by rw [wo_ne nlp]; exact r12.x _ _ (by rw [wo_ne nlp]; exact h1)), by omega, by omega, fun x hx => names_tx x (sN x hx)⟩
    have lR : LOk K (wo H2 p) rl R := ⟨sq_of (by rw [wo_ne rlp]; exact h2), by omega, by omega, fun x hx => rules_tx x (sR x hx)⟩
    refine par_k (ac_k (formC (d := 3) r2.hp rfl ev_c rfl rfl (by decide) lN lR fun v3 t3 H3 e3 hp3 q3 f3 => ac_k (sayC (d := 2) hp3 rfl ev_c rfl rfl (by decide) (lN.mono (wo_sub e3)) (lR.mono (wo_sub e3)) fun v4 t4 H4 e4 hp4 q4 f4 => ac_nil ⟨_, _, rfl, ?_⟩)))
    have r4 := (r2.step e3 hp3).step e4 hp4
    have r24 : Rg p H2 H4 := (Rg.rfl r2.hp |>.step e3 hp3).step e4 hp4
    have q3 := q3.mono (wo_sub e4)
    refine asg_k (lstB_k (ac_v (ev_var rfl) fun H5 e5 => ac_v (ev_var rfl) fun H6 e6 => ac_k (oddC (Z := [p]) ((hp4.mono e5).mono e6) (by simp) ((hp4.mono e5).mono e6).hd rfl fun vo1 o1 H7 r67 qo1 fo1 => ac_k (oddC (Z := [p]) r67.hp (by simp) r67.hp.hd rfl fun vo2 o2 Ha r7a qo2 fo2 => ac_nil ⟨sz_of (by show 4 ≤ 100000; decide), fun vl hvl _ => ?_⟩))))
    have r4a : Rg p H4 Ha := (((Rg.rfl hp4).mono e5).mono e6).tr (r67.tr r7a)
    have ra : Rg p H Ha := r4.tr r4a
    have r2a : Rg p H2 Ha := r24.tr r4a
    have vlp : vl ≠ p := fun z => by obtain ⟨o, ho⟩ := ra.hp.some; rw [z, ho] at hvl; cases hvl
    generalize hHv : upd Ha vl (.lst [v3, v4, vo1, vo2]) = Hv
    have pZ : p ∈ [p, vl] := by simp
    have vZ : vl ∈ [p, vl] := by simp
    have xav : Ex (wo Ha p) (hid [p, vl] Hv) := by rw [← hHv]; exact hid_new hvl
    have hvv : Hv vl = some (.lst [v3, v4, vo1, vo2]) := by rw [← hHv]; exact upd_same
    have hpv : PotAt Hv p := by
      obtain ⟨a, b, q, z⟩ := ra.hp
      exact ⟨a, b, q, by rw [← hHv, upd_ne (Ne.symm vlp)]; exact z⟩
    have d3 : Dq (hid [p, vl] Hv) v3 t3 := (q3.mono (wo_sub r4a.x)).mono xav
    have d4 : Dq (hid [p, vl] Hv) v4 t4 := (q4.mono (wo_sub r4a.x)).mono xav
    have do1 : Dq (hid [p, vl] Hv) vo1 o1 := by rw [hid_one] at qo1; exact (qo1.mono (wo_sub r7a.x)).mono xav
    have do2 : Dq (hid [p, vl] Hv) vo2 o2 := by rw [hid_one] at qo2; exact qo2.mono xav
    have g3 : VOk 6 200 t3 := f3.vok (by decide) (by decide)
    have g4 : VOk 6 200 t4 := f4.vok (by decide) (by decide)
    refine q_forNL (K := K) (xs := [v3, v4, v3, v4]) (el_lstB (ea_cons (ev_var rfl) (ea_cons (ev_var rfl) (ea_cons (ev_var rfl) (ea_cons (ev_var rfl) ea_nil)))) (by show 4 ≤ 100000; decide))
      (fun r i σ' H' => ∃ (o6 o7 : Option V) (us : List V) (es : List PyData), σ' = [some (.ref p), some (.ref nl), some (.ref rl), some v3, some v4, some (.ref vl), o6, o7, none] ∧ Ex (hid [p, vl] Hv) (hid [p, vl] H') ∧ PotAt H' p ∧ r ∉ [p, vl] ∧ H' r = some (.lst [v3, v4, v3, v4]) ∧ H' vl = some (.lst us) ∧ DqAll (hid [p, vl] H') us es ∧ (∀ d ∈ es, JOk d) ∧ us.length ≤ 4 + 10 * i)
      (fun r H1' hr1 e1' h1' => ⟨none, none, _, [t3, t4, o1, o2], rfl, hid_mono e1', hpv.mono e1', (fun z => by
          rcases List.mem_cons.mp z with z | z
          · obtain ⟨o, ho⟩ := hpv.some; rw [z, ho] at hr1; cases hr1
          · rw [List.mem_singleton.mp z, hvv] at hr1; cases hr1), h1', e1' _ _ hvv, (DqAll.cons d3 (.cons d4 (.cons do1 (.cons do2 .nil)))).mono (hid_mono e1'), (fun d hd => by
          simp only [List.mem_cons, List.not_mem_nil, or_false] at hd
          rcases hd with e | e | e | e <;> subst e
          · exact .of g3 (by decide) (by decide)
          · exact .of g4 (by decide) (by decide)
          · exact .of fo1 (by decide) (by decide)
          · exact .of fo2 (by decide) (by decide)), by show 4 ≤ 4 + 10 * 0; decide⟩) (fun r i σ' H' hi hpv' => ?_) (fun r i x σ' H' hx hpv' => ?_) (fun r σ' H' hpv' => ?_)
    · obtain ⟨o6, o7, us, es, _, _, _, _, h, _⟩ := hpv'
      exact sq_of h
    · obtain ⟨o6, o7, us, es, rfl, xH, pH, rz, hr', hvl', kus, jes, lus⟩ := hpv'
      obtain ⟨t, dx, ft⟩ : ∃ t, Dq (hid [p, vl] H') x t ∧ DOk 6 200 t := by
        have := List.mem_of_getElem? hx
        simp only [List.mem_cons, List.not_mem_nil, or_false] at this
        rcases this with e | e | e | e <;> subst e
        · exact ⟨t3, d3.mono xH, f3.up (by decide) (by decide)⟩
        · exact ⟨t4, d4.mono xH, f4.up (by decide) (by decide)⟩
        · exact ⟨t3, d3.mono xH, f3.up (by decide) (by decide)⟩
        · exact ⟨t4, d4.mono xH, f4.up (by decide) (by decide)⟩
      have hi4 : i < 4 := (List.getElem?_eq_some_iff.mp hx).1
      have hdH : Hd [p, vl] H' := fun b hb => by
        rcases List.mem_cons.mp hb with z | z
        · rw [z]; exact pH.some
        · rw [List.mem_singleton.mp z]; exact ⟨_, hvl'⟩
      have ftd := ft.dp
      have fts := ft.sz
      refine asg_k (call_k (ac_v (ev_var rfl) fun H5 e5 => ac_v (ev_var rfl) fun H6 e6 => ac_nil ⟨p, [p, vl], x, t, rfl, (pH.mono e5).mono e6, pZ, (hdH.mono e5).mono e6, dx.mono (hid_mono (e5.trans e6)), ft.f, ft.ne, ft.pu, by omega, by decide, by omega, fun v' t' H7 r67' q' rb => ?_⟩))
      have r7 : Rg p H' H7 := (((Rg.rfl pH).mono e5).mono e6).tr r67'
      have x7 : Ex (hid [p, vl] Hv) (hid [p, vl] H7) := xH.trans (r7.ex pZ)
      have hd7 := r7.hz hdH
      have hv7 : H7 vl = some (.lst us) := r7.x _ _ (by rw [wo_ne vlp]; exact hvl')
      have hr7 : H7 r = some (.lst [v3, v4, v3, v4]) := r7.x _ _ (by rw [wo_ne (fun z => rz (by rw [z]; simp))]; exact hr')
      have k7 := kus.mono (r7.ex pZ)
      have gu : VOk 20 600 t' := ⟨rb.f, by have := rb.dp; omega, by have := rb.sz; omega⟩
      obtain ⟨j1, j2⟩ := more_ok g3 g4 gu
      have a3 := d3.mono x7
      have a4 := d4.mono x7
      refine q_extW (Z := [p, vl]) (ds := more1 t3 t') hv7 (ev_var rfl) (lw_lst hd7 (aw_cons (ew_ref (ev_var rfl) q') (aw_cons (ew_tup hd7 (aw_cons ew_str (aw_cons ew_int (aw_cons (ew_ref (ev_var rfl) q') aw_nil))) (by show 3 ≤ 100000; decide)) (aw_cons (ew_tup hd7 (aw_cons ew_str (aw_cons (ew_ref (ev_var rfl) a3) (aw_cons (ew_ref (ev_var rfl) q') aw_nil))) (by show 3 ≤ 100000; decide))
        (aw_cons (ew_tup hd7 (aw_cons ew_str (aw_cons (ew_ref (ev_var rfl) q') (aw_cons (ew_ref (ev_var rfl) a3) aw_nil))) (by show 3 ≤ 100000; decide)) (aw_cons (ew_tup hd7 (aw_cons ew_str (aw_cons (ew_ref (ev_var rfl) q') aw_nil)) (by show 2 ≤ 100000; decide)) aw_nil))))) (by show 5 ≤ 100000; decide)) (by show us.length + 5 ≤ 100000; omega) fun vs1 H8 e8 k8 => ?_
      generalize hH9 : upd H8 vl (.lst (us ++ vs1)) = H9
      have x89 : Ex (hid [p, vl] H8) (hid [p, vl] H9) := by rw [← hH9]; exact hid_updE vZ
      have x79 : Ex (hid [p, vl] H7) (hid [p, vl] H9) := (hid_mono e8).trans x89
      have hv9 : H9 vl = some (.lst (us ++ vs1)) := by rw [← hH9]; exact upd_same
      have hp9 : PotAt H9 p := by
        obtain ⟨a, b, q, z⟩ := r7.hp.mono e8
        exact ⟨a, b, q, by rw [← hH9, upd_ne (Ne.symm vlp)]; exact z⟩
      have hr9 : H9 r = some (.lst [v3, v4, v3, v4]) := by rw [← hH9, upd_ne (fun z => rz (by rw [z]; simp))]; exact e8 _ _ hr7
      have hd9 : Hd [p, vl] H9 := fun b hb => by
        rcases List.mem_cons.mp hb with z | z
        · rw [z]; exact hp9.some
        · rw [List.mem_singleton.mp z]; exact ⟨_, hv9⟩
      have l1 : vs1.length = 5 := k8.len
      have q9 := q'.mono x79
      have b3 := a3.mono x79
      have b4 := a4.mono x79
      refine s_extW (Z := [p, vl]) (ds := more2 t3 t4 t') hv9 (ev_var rfl) (lw_lst hd9 (aw_cons (ew_tup hd9 (aw_cons ew_str (aw_cons (ew_ref (ev_var rfl) b3) (aw_cons (ew_ref (ev_var rfl) q9) aw_nil))) (by show 3 ≤ 100000; decide)) (aw_cons (ew_tup hd9 (aw_cons ew_str (aw_cons (ew_ref (ev_var rfl) b4) (aw_cons (ew_ref (ev_var rfl) q9) aw_nil))) (by show 3 ≤ 100000; decide))
        (aw_cons (ew_tup hd9 (aw_cons ew_str (aw_cons (ew_ref (ev_var rfl) q9) (aw_cons (ew_ref (ev_var rfl) b4) aw_nil))) (by show 3 ≤ 100000; decide)) (aw_cons (ew_lst hd9 (aw_cons (ew_ref (ev_var rfl) q9) aw_nil) (by show 1 ≤ 100000; decide)) (aw_cons (ew_tup hd9 (aw_cons (ew_ref (ev_var rfl) q9) aw_nil) (by show 1 ≤ 100000; decide)) aw_nil))))) (by show 5 ≤ 100000; decide)) (by rw [List.length_append, l1]; show us.length + 5 + 5 ≤ 100000; omega) fun vs2 Hb eb kb => ?_
      have l2 : vs2.length = 5 := kb.len
      have x9c : Ex (hid [p, vl] H9) (hid [p, vl] (upd Hb vl (.lst (us ++ vs1 ++ vs2)))) := (hid_mono eb).trans (hid_updE vZ)
      refine ⟨_, _, us ++ vs1 ++ vs2, es ++ more1 t3 t' ++ more2 t3 t4 t', rfl, (x7.trans x79).trans x9c, ?_, rz, ?_, upd_same, ?_, ?_, ?_⟩
      · obtain ⟨a, b, q, z⟩ := hp9.mono eb
        exact ⟨a, b, q, by rw [upd_ne (Ne.symm vlp)]; exact z⟩
      · rw [upd_ne (fun z => rz (by rw [z]; simp))]; exact eb _ _ hr9
      · exact (((k7.mono x79).app (k8.mono x89)).mono x9c).app (kb.mono (hid_updE vZ))
      · intro d hd
        rcases List.mem_append.mp hd with z | z
        · rcases List.mem_append.mp z with z | z
          · exact jes d z
          · exact j1 d z
        · exact j2 d z
      · rw [List.length_append, List.length_append, l1, l2]; omega
    · obtain ⟨o6, o7, us, es, rfl, xH, pH, rz, hr', hvl', kus, jes, lus⟩ := hpv'
      have back : ∀ b o, wo H p b = some o → H' b = some o := fun b o hb => by
        have h1 := ra.x b o hb
        have bp : b ≠ p := fun z => by rw [z, wo_at] at hb; cases hb
        exact hid_ex _ _ (xH _ _ (xav _ _ (by rw [wo_ne bp]; exact h1)))
      have rH : Rg p H H' := ⟨back, pH⟩
      have hnl' : H' nl = some (.lst (N.map V.str)) := by
        have h1 := r2a.x nl _ (by rw [wo_ne nlp]; exact r12.x _ _ (by rw [wo_ne nlp]; exact h1))
        exact hid_ex _ _ (xH _ _ (xav _ _ (by rw [wo_ne nlp]; exact h1)))
      obtain ⟨n0, N', rfl⟩ : ∃ n0 N', N = n0 :: N' := by cases N with | nil => cases nN | cons a l => exact ⟨a, l, rfl⟩
      have tn0 : n0 ∈ txS := names_tx n0 (sN n0 (by simp))
      refine q_forL (K := K) (xs := us) (ev_var rfl) (sq_of hvl') (fun i σ' H2' => ∃ o8, σ' = [some (.ref p), some (.ref nl), some (.ref rl), some v3, some v4, some (.ref vl), o6, o7, o8] ∧ Ex H' H2') (fun H5 e5 => ⟨none, rfl, e5⟩) (fun i σ' H2' hi hpv' => ?_) (fun i x σ' H2' hx hpv' => ?_) (fun σ' H2' hpv' => ?_)
      · obtain ⟨o8, _, e5⟩ := hpv'
        exact sq_of (e5 _ _ hvl')
      · obtain ⟨o8, rfl, e5⟩ := hpv'
        obtain ⟨d, hdi, hq⟩ := kus.get hx
        exact s_when (b := false) (et_not (a := true) (et_B (ev_call (ea_cons (ev_var rfl) ea_nil) (spv_judged (hq.mono (hid_ex.trans e5)) (jes d (List.mem_of_getElem? hdi)))))) (fun z => nomatch z) fun _ H9 e9 => ⟨_, rfl, e5.trans e9⟩
      · obtain ⟨o8, rfl, e5⟩ := hpv'
        have rA := rH.mono e5
        refine ret_k (andV_k (call_k (ac_v (ev_var rfl) fun H6 e6 => ac_k (tup_k (ac_v ev_c fun H7 e7 => ac_v (ev_op (ev_var rfl) ev_c (rv_ixL (sq_of (((e5.trans e6).trans e7) _ _ hnl')) (atI_nat (j := 0) rfl))) fun H8 e8 => ac_nil ⟨sz_of (by show 2 ≤ 100000; decide), fun q hq => ac_nil ?_⟩)))))
        have rB := ((rA.mono e6).mono e7).mono e8
        refine ⟨p, .ref q, .tuple [.str "day", .str n0], rfl, rB.hp.mono (Ex.new hq), dq_new rB.hp hq (.cons (.str _) (.cons (.str _) .nil)), fine_mk (by simp [fine_tx tn0, fine_tx (show ("day" : Str) ∈ txS by decide)]), by simp [dep, deps], by simp [nod, nods], fun H9 r9 => ⟨true, rfl, ?_⟩⟩
        have rC := (rB.mono (Ex.new hq)).tr r9
        rw [if_pos rfl]
        refine call_k (ac_v (ev_var rfl) fun Hb eb => ac_k (tup_k (ac_v ev_c fun Hc ec => ac_k (numC ((rC.hp.mono eb).mono ec) rfl fun m Hd' m0 m1 ed hpd => ac_nil ⟨sz_of (by show 2 ≤ 100000; decide), fun q2 hq2 => ac_nil ?_⟩))))
        have rD := ((rC.mono eb).mono ec).step ed hpd
        exact ⟨p, .ref q2, .tuple [.str "num", .int m], rfl, rD.hp.mono (Ex.new hq2), dq_new rD.hp hq2 (.cons (.str _) (.cons (.int _) .nil)), fine_mk (by simp [fine_int (show -100 ≤ m ∧ m ≤ 100 by omega), fine_tx (show ("num" : Str) ∈ txS by decide)]), by simp [dep, deps], by simp [nod, nods], fun He re => k He ((rD.mono (Ex.new hq2)).tr re)⟩
end
end K20
end
section
set_option maxHeartbeats 8000000
namespace K20
open PySem L2 Evl G OQ
theorem us_nil {α : Type} {us : List α} (h : us.length = 0) : us = [] := List.eq_nil_of_length_eq_zero h
theorem us_cons {α : Type} {us : List α} {n : Nat} (h : us.length = n + 1) : ∃ a t, us = a :: t ∧ t.length = n := by
  cases us with
  | nil => exact absurd h (Nat.succ_ne_zero n).symm
  | cons a t => exact ⟨a, t, rfl, Nat.succ.inj h⟩
theorem us_1 {fn : FuncData} {p0 : Str} (h : ∀ a0, bindArgs fn ⟨[a0], []⟩ = pure ([p0].zip [a0])) (us : List Value) (hl : us.length = [p0].length) : bindArgs fn ⟨us, []⟩ = pure ([p0].zip us) := by
  obtain ⟨a0, t0, rfl, h0⟩ := us_cons (n := 0) hl
  cases us_nil h0
  exact h a0
theorem us_2 {fn : FuncData} {p0 p1 : Str} (h : ∀ a0 a1, bindArgs fn ⟨[a0, a1], []⟩ = pure ([p0, p1].zip [a0, a1])) (us : List Value) (hl : us.length = [p0, p1].length) : bindArgs fn ⟨us, []⟩ = pure ([p0, p1].zip us) := by
  obtain ⟨a0, t0, rfl, h0⟩ := us_cons (n := 1) hl
  obtain ⟨a1, t1, rfl, h1⟩ := us_cons (n := 0) h0
  cases us_nil h1
  exact h a0 a1
theorem us_3 {fn : FuncData} {p0 p1 p2 : Str} (h : ∀ a0 a1 a2, bindArgs fn ⟨[a0, a1, a2], []⟩ = pure ([p0, p1, p2].zip [a0, a1, a2])) (us : List Value) (hl : us.length = [p0, p1, p2].length) : bindArgs fn ⟨us, []⟩ = pure ([p0, p1, p2].zip us) := by
  obtain ⟨a0, t0, rfl, h0⟩ := us_cons (n := 2) hl
  obtain ⟨a1, t1, rfl, h1⟩ := us_cons (n := 1) h0
  obtain ⟨a2, t2, rfl, h2⟩ := us_cons (n := 0) h1
  cases us_nil h2
  exact h a0 a1 a2
theorem us_4 {fn : FuncData} {p0 p1 p2 p3 : Str} (h : ∀ a0 a1 a2 a3, bindArgs fn ⟨[a0, a1, a2, a3], []⟩ = pure ([p0, p1, p2, p3].zip [a0, a1, a2, a3])) (us : List Value) (hl : us.length = [p0, p1, p2, p3].length) : bindArgs fn ⟨us, []⟩ = pure ([p0, p1, p2, p3].zip us) := by
  obtain ⟨a0, t0, rfl, h0⟩ := us_cons (n := 3) hl
  obtain ⟨a1, t1, rfl, h1⟩ := us_cons (n := 2) h0
  obtain ⟨a2, t2, rfl, h2⟩ := us_cons (n := 1) h1
  obtain ⟨a3, t3, rfl, h3⟩ := us_cons (n := 0) h2
  cases us_nil h3
  exact h a0 a1 a2 a3
theorem fm_nil {α : Type} {p : α → Prop} : ∀ x ∈ ([] : List α), p x := fun x h => by cases h
theorem fm_cons {α : Type} {p : α → Prop} {a : α} {l : List α} (h : p a) (t : ∀ x ∈ l, p x) : ∀ x ∈ a :: l, p x := fun x hx => by
  rcases List.mem_cons.mp hx with e | hx
  · subst e; exact h
  · exact t x hx
theorem kd_mk {K : PySem.W.Frag} {w : World} {a : Addr} {es : Array DictEntry} {n : Nat} {rows : List (Str × Int)} {off : List Str} (l : K.lookup a = some ⟨.type "dict", none, .dict es n, #[]⟩) (kl : PySem.W.KeysLit w.params es.toList) (lo : (a == sysModules) = false)
    (hr : ∀ p ∈ rows, ∃ tk, PySem.W.nsIn K a p.1 = some (some (.int p.2 tk))) (ho : ∀ x ∈ off, PySem.W.nsIn K a x = some none) : KD K w a rows off :=
  ⟨⟨_, _, l, kl, lo⟩, fun p hp => let ⟨tk, e⟩ := hr p hp; ⟨⟨_, _, _, l, kl, e, ⟨tk, rfl⟩⟩, _, e⟩, ho⟩
theorem ex_wo {H H2 : Hp} {p : Addr} (e : Ex H H2) (hp : H p = none) : Ex H (wo H2 p) := fun b o hb => by rw [wo_ne (show b ≠ p from fun z => by rw [z, hp] at hb; cases hb)]; exact e b o hb
noncomputable def sp_law (K : PySem.W.Frag) : Sp := fun vs H Q _ => ∃ (a : Addr) (ns : List Int), vs = [.ref a] ∧ SqL K H a (ns.map V.int) ∧ ns.length ≤ 63 ∧ RetV (.bl true) H Q
section
variable {P : Program} {w : World} {K : PySem.W.Frag} {mg : Str → Option Value} {base : Heap} {SZ SY : Addr}
theorem ok_law {f f1 f2 : Addr} {fd fd1 fd2 : FuncData} (F : Fun K "law" "law" s_law f fd) (T : Txt P w K mg SZ SY) (c__law_pot : Cal P w K mg base "_law_pot" f1 fd1 ["_law_script", "_law_k"] 1 (sp_pot K)) (c__law_right : CalG P w K mg base "_law_right" f2 fd2 ["_law_pot_here"] 108 sp_right) :
    FnG P w K mg base CX0 109 f fd ["_law_script"] (sp_law K) := by
  refine okG F sc_law (fun vs H Q E h => ?_) (fun cdv A outer s H vs Q E hg hr h => ?_)
  · obtain ⟨a, ns, rfl, _⟩ := h
    rfl
  · obtain ⟨a, ns, rfl, hs, hl, k⟩ := h
    have hu := hr.units
    have e0 : (ns.map V.int).length = ns.length := List.length_map ..
    refine ⟨_, (pss_one (ps_ret (pe_callB (allL (K := K) rfl rfl) (by rfl) T.b_all (by decide +kernel) (pa_cons (pe_lc (own := [("_law_k", 1)]) (g := (gName 1)) (by rfl) sc_law.nd (pi_range1 (by rfl) T.b_range (pa_cons (pe_callB (call_max2 rfl) (by rfl) T.b_max (by decide +kernel) (pa_cons pe_int (pa_cons (pe_callB (call_min2 rfl) (by rfl) T.b_min (by decide +kernel) (pa_cons pe_int (pa_cons (pe_callB (lenS (K := K) rfl) (by rfl) T.b_len (by decide +kernel) (pa_cons (pv 0) pa_nil)) pa_nil))) pa_nil))) pa_nil)) (blkOk_by (own := [("_law_k", 1)]) (N := ["_law_script", "_law_k"]) (sc := defScope s_law) (by decide +kernel)) (fun _ _ _ _ _ => (pg_name (i := 1) sc_law.nd rfl (Or.inl rfl))) (fun _ _ _ _ _ => pts_nil) (fun _ _ _ _ _ => (pe_callG c__law_right.ok hg (hr.mono (by decide)) (by rfl) c__law_right.mgx c__law_right.kp c__law_right.bd .nil pass0 (pa_cons (pe_call c__law_pot.ok (hr.mono (by decide)) (by rfl) c__law_pot.mgx c__law_pot.kp c__law_pot.bd .nil pass0 (pa_cons (pv 0) (pa_cons (pv 1) pa_nil))) pa_nil)))) pa_nil)))), ?_⟩
    refine s_ret (ev_allT (el_lcR1 (fun _ => true) (fun _ => V.bl true) (ea_cons (ev_cb (ea_cons ev_c (ea_cons (ev_cb (ea_cons ev_c (ea_cons (ev_cb (ea_cons (ev_var rfl) ea_nil) (rc_len (.inl hs) e0)) ea_nil)) rc_min2) ea_nil)) rc_max2) ea_nil) ?_ (fun _ => rfl) (fun _ _ _ _ => lc_yes) (fun i H1 e1 hi _ => ?_))) k
    · split <;> split <;> omega
    · refine fun Ha ea Qa qa => ⟨.ref a, rfl, .int (i : Int), rfl, a, ns, (i : Int), rfl, ex_l (e1.trans ea) hs, by omega, ?_, fun p H2 hp e2 pot => ⟨p, rfl, pot, fun H3 r3 => qa H3 ((ex_wo e2 hp).trans r3.x)⟩⟩
      split at hi <;> split at hi <;> omega
theorem all_mk {h : Heap} {fa : Addr} (X : K.In h) (G : h.Ns mainGlobals mg) (hmg : mg "law" = some (.ref fa))
    {SZ : Addr} {es_SZ : Array DictEntry} {n_SZ : Nat} {tk_SZ_day tk_SZ_num tk_SZ_on tk_SZ_by tk_SZ_til tk_SZ_add tk_SZ_late tk_SZ_soon : Tok}
    {SY : Addr} {es_SY : Array DictEntry} {n_SY : Nat} {tk_SY_le tk_SY_and tk_SY_or tk_SY_not : Tok}
    {f_is_day : Addr} {od_is_day an_is_day : Option Addr} {sl_is_day : Array (Option Value)} {oc_is_day kV_is_day dc_is_day pm_is_day cd_is_day ct_is_day : Value}
    {f_is_rule : Addr} {od_is_rule an_is_rule : Option Addr} {sl_is_rule : Array (Option Value)} {oc_is_rule kV_is_rule dc_is_rule pm_is_rule cd_is_rule ct_is_rule : Value}
    {f_is_name : Addr} {od_is_name an_is_name : Option Addr} {sl_is_name : Array (Option Value)} {oc_is_name kV_is_name dc_is_name pm_is_name cd_is_name ct_is_name : Value}
    {f_parts_of : Addr} {od_parts_of an_parts_of : Option Addr} {sl_parts_of : Array (Option Value)} {oc_parts_of kV_parts_of dc_parts_of pm_parts_of cd_parts_of ct_parts_of : Value}
    {f_all_pieces : Addr} {od_all_pieces an_all_pieces : Option Addr} {sl_all_pieces : Array (Option Value)} {oc_all_pieces kV_all_pieces dc_all_pieces pm_all_pieces cd_all_pieces ct_all_pieces : Value}
    {f_is_formula : Addr} {od_is_formula an_is_formula : Option Addr} {sl_is_formula : Array (Option Value)} {oc_is_formula kV_is_formula dc_is_formula pm_is_formula cd_is_formula ct_is_formula : Value}
    {f_is_chain : Addr} {od_is_chain an_is_chain : Option Addr} {sl_is_chain : Array (Option Value)} {oc_is_chain kV_is_chain dc_is_chain pm_is_chain cd_is_chain ct_is_chain : Value}
    {f__is_piece : Addr} {od__is_piece an__is_piece : Option Addr} {sl__is_piece : Array (Option Value)} {oc__is_piece kV__is_piece dc__is_piece pm__is_piece cd__is_piece ct__is_piece : Value}
    {f_is_saying : Addr} {od_is_saying an_is_saying : Option Addr} {sl_is_saying : Array (Option Value)} {oc_is_saying kV_is_saying dc_is_saying pm_is_saying cd_is_saying ct_is_saying : Value}
    {f__is_tuple_of_saying : Addr} {od__is_tuple_of_saying an__is_tuple_of_saying : Option Addr} {sl__is_tuple_of_saying : Array (Option Value)} {oc__is_tuple_of_saying kV__is_tuple_of_saying dc__is_tuple_of_saying pm__is_tuple_of_saying cd__is_tuple_of_saying ct__is_tuple_of_saying : Value}
    {f__law_pot : Addr} {od__law_pot an__law_pot : Option Addr} {sl__law_pot : Array (Option Value)} {oc__law_pot kV__law_pot dc__law_pot pm__law_pot cd__law_pot ct__law_pot : Value}
    {f__law_draw : Addr} {od__law_draw an__law_draw : Option Addr} {sl__law_draw : Array (Option Value)} {oc__law_draw kV__law_draw dc__law_draw pm__law_draw cd__law_draw ct__law_draw : Value}
    {f__law_pick : Addr} {od__law_pick an__law_pick : Option Addr} {sl__law_pick : Array (Option Value)} {oc__law_pick kV__law_pick dc__law_pick pm__law_pick cd__law_pick ct__law_pick : Value}
    {f__law_some : Addr} {od__law_some an__law_some : Option Addr} {sl__law_some : Array (Option Value)} {oc__law_some kV__law_some dc__law_some pm__law_some cd__law_some ct__law_some : Value}
    {f__law_number : Addr} {od__law_number an__law_number : Option Addr} {sl__law_number : Array (Option Value)} {oc__law_number kV__law_number dc__law_number pm__law_number cd__law_number ct__law_number : Value}
    {f__law_formula : Addr} {od__law_formula an__law_formula : Option Addr} {sl__law_formula : Array (Option Value)} {oc__law_formula kV__law_formula dc__law_formula pm__law_formula cd__law_formula ct__law_formula : Value}
    {f__law_saying : Addr} {od__law_saying an__law_saying : Option Addr} {sl__law_saying : Array (Option Value)} {oc__law_saying kV__law_saying dc__law_saying pm__law_saying cd__law_saying ct__law_saying : Value}
    {f__law_odd : Addr} {od__law_odd an__law_odd : Option Addr} {sl__law_odd : Array (Option Value)} {oc__law_odd kV__law_odd dc__law_odd pm__law_odd cd__law_odd ct__law_odd : Value}
    {f__law_spoilt : Addr} {od__law_spoilt an__law_spoilt : Option Addr} {sl__law_spoilt : Array (Option Value)} {oc__law_spoilt kV__law_spoilt dc__law_spoilt pm__law_spoilt cd__law_spoilt ct__law_spoilt : Value}
    {f__law_is_letter : Addr} {od__law_is_letter an__law_is_letter : Option Addr} {sl__law_is_letter : Array (Option Value)} {oc__law_is_letter kV__law_is_letter dc__law_is_letter pm__law_is_letter cd__law_is_letter ct__law_is_letter : Value}
    {f__law_is_integer : Addr} {od__law_is_integer an__law_is_integer : Option Addr} {sl__law_is_integer : Array (Option Value)} {oc__law_is_integer kV__law_is_integer dc__law_is_integer pm__law_is_integer cd__law_is_integer ct__law_is_integer : Value}
    {f__law_is_formula : Addr} {od__law_is_formula an__law_is_formula : Option Addr} {sl__law_is_formula : Array (Option Value)} {oc__law_is_formula kV__law_is_formula dc__law_is_formula pm__law_is_formula cd__law_is_formula ct__law_is_formula : Value}
    {f__law_is_saying : Addr} {od__law_is_saying an__law_is_saying : Option Addr} {sl__law_is_saying : Array (Option Value)} {oc__law_is_saying kV__law_is_saying dc__law_is_saying pm__law_is_saying cd__law_is_saying ct__law_is_saying : Value}
    {f__law_is_single : Addr} {od__law_is_single an__law_is_single : Option Addr} {sl__law_is_single : Array (Option Value)} {oc__law_is_single kV__law_is_single dc__law_is_single pm__law_is_single cd__law_is_single ct__law_is_single : Value}
    {f__law_is_chain : Addr} {od__law_is_chain an__law_is_chain : Option Addr} {sl__law_is_chain : Array (Option Value)} {oc__law_is_chain kV__law_is_chain dc__law_is_chain pm__law_is_chain cd__law_is_chain ct__law_is_chain : Value}
    {f__law_judged : Addr} {od__law_judged an__law_judged : Option Addr} {sl__law_judged : Array (Option Value)} {oc__law_judged kV__law_judged dc__law_judged pm__law_judged cd__law_judged ct__law_judged : Value}
    {f__law_wide : Addr} {od__law_wide an__law_wide : Option Addr} {sl__law_wide : Array (Option Value)} {oc__law_wide kV__law_wide dc__law_wide pm__law_wide cd__law_wide ct__law_wide : Value}
    {f__law_deep : Addr} {od__law_deep an__law_deep : Option Addr} {sl__law_deep : Array (Option Value)} {oc__law_deep kV__law_deep dc__law_deep pm__law_deep cd__law_deep ct__law_deep : Value}
    {f__law_great_right : Addr} {od__law_great_right an__law_great_right : Option Addr} {sl__law_great_right : Array (Option Value)} {oc__law_great_right kV__law_great_right dc__law_great_right pm__law_great_right cd__law_great_right ct__law_great_right : Value}
    {f__law_right : Addr} {od__law_right an__law_right : Option Addr} {sl__law_right : Array (Option Value)} {oc__law_right kV__law_right dc__law_right pm__law_right cd__law_right ct__law_right : Value}
    {f_law : Addr} {od_law an_law : Option Addr} {sl_law : Array (Option Value)} {oc_law kV_law dc_law pm_law cd_law ct_law : Value}
    (a_SZ : PySem.W.nsIn K mainGlobals "SIZES" = some (some (.ref SZ)))
    (l_SZ : K.lookup SZ = some ⟨.type "dict", none, .dict es_SZ n_SZ, #[]⟩)
    (kl_SZ : PySem.W.KeysLit w.params es_SZ.toList)
    (lo_SZ : (SZ == sysModules) = false)
    (v_SZ_day : PySem.W.nsIn K SZ "day" = some (some (.int 2 tk_SZ_day)))
    (v_SZ_num : PySem.W.nsIn K SZ "num" = some (some (.int 2 tk_SZ_num)))
    (v_SZ_on : PySem.W.nsIn K SZ "on" = some (some (.int 3 tk_SZ_on)))
    (v_SZ_by : PySem.W.nsIn K SZ "by" = some (some (.int 3 tk_SZ_by)))
    (v_SZ_til : PySem.W.nsIn K SZ "til" = some (some (.int 3 tk_SZ_til)))
    (v_SZ_add : PySem.W.nsIn K SZ "add" = some (some (.int 3 tk_SZ_add)))
    (v_SZ_late : PySem.W.nsIn K SZ "late" = some (some (.int 3 tk_SZ_late)))
    (v_SZ_soon : PySem.W.nsIn K SZ "soon" = some (some (.int 3 tk_SZ_soon)))
    (o_SZ_le : PySem.W.nsIn K SZ "le" = some none)
    (o_SZ_and : PySem.W.nsIn K SZ "and" = some none)
    (o_SZ_or : PySem.W.nsIn K SZ "or" = some none)
    (o_SZ_not : PySem.W.nsIn K SZ "not" = some none)
    (o_SZ_up : PySem.W.nsIn K SZ "up" = some none)
    (o_SZ_Day : PySem.W.nsIn K SZ "Day" = some none)
    (o_SZ_ : PySem.W.nsIn K SZ "" = some none)
    (o_SZ_i : PySem.W.nsIn K SZ "i" = some none)
    (o_SZ_o : PySem.W.nsIn K SZ "o" = some none)
    (o_SZ_pq : PySem.W.nsIn K SZ "pq" = some none)
    (o_SZ_ab : PySem.W.nsIn K SZ "ab" = some none)
    (o_SZ_A : PySem.W.nsIn K SZ "A" = some none)
    (o_SZ_X : PySem.W.nsIn K SZ "X" = some none)
    (o_SZ_a : PySem.W.nsIn K SZ "a" = some none)
    (o_SZ_b : PySem.W.nsIn K SZ "b" = some none)
    (o_SZ_c : PySem.W.nsIn K SZ "c" = some none)
    (o_SZ_d : PySem.W.nsIn K SZ "d" = some none)
    (o_SZ_e : PySem.W.nsIn K SZ "e" = some none)
    (o_SZ_f : PySem.W.nsIn K SZ "f" = some none)
    (o_SZ_g : PySem.W.nsIn K SZ "g" = some none)
    (o_SZ_h : PySem.W.nsIn K SZ "h" = some none)
    (o_SZ_p : PySem.W.nsIn K SZ "p" = some none)
    (o_SZ_q : PySem.W.nsIn K SZ "q" = some none)
    (o_SZ_r : PySem.W.nsIn K SZ "r" = some none)
    (o_SZ_s : PySem.W.nsIn K SZ "s" = some none)
    (o_SZ_t : PySem.W.nsIn K SZ "t" = some none)
    (o_SZ_u : PySem.W.nsIn K SZ "u" = some none)
    (o_SZ_v : PySem.W.nsIn K SZ "v" = some none)
    (o_SZ_w : PySem.W.nsIn K SZ "w" = some none)
    (o_SZ_x : PySem.W.nsIn K SZ "x" = some none)
    (o_SZ_y : PySem.W.nsIn K SZ "y" = some none)
    (o_SZ_z : PySem.W.nsIn K SZ "z" = some none)
    (a_SY : PySem.W.nsIn K mainGlobals "SIZES_OF_SAYINGS" = some (some (.ref SY)))
    (l_SY : K.lookup SY = some ⟨.type "dict", none, .dict es_SY n_SY, #[]⟩)
    (kl_SY : PySem.W.KeysLit w.params es_SY.toList)
    (lo_SY : (SY == sysModules) = false)
    (v_SY_le : PySem.W.nsIn K SY "le" = some (some (.int 3 tk_SY_le)))
    (v_SY_and : PySem.W.nsIn K SY "and" = some (some (.int 3 tk_SY_and)))
    (v_SY_or : PySem.W.nsIn K SY "or" = some (some (.int 3 tk_SY_or)))
    (v_SY_not : PySem.W.nsIn K SY "not" = some (some (.int 2 tk_SY_not)))
    (o_SY_day : PySem.W.nsIn K SY "day" = some none)
    (o_SY_num : PySem.W.nsIn K SY "num" = some none)
    (o_SY_on : PySem.W.nsIn K SY "on" = some none)
    (o_SY_by : PySem.W.nsIn K SY "by" = some none)
    (o_SY_til : PySem.W.nsIn K SY "til" = some none)
    (o_SY_add : PySem.W.nsIn K SY "add" = some none)
    (o_SY_late : PySem.W.nsIn K SY "late" = some none)
    (o_SY_soon : PySem.W.nsIn K SY "soon" = some none)
    (o_SY_up : PySem.W.nsIn K SY "up" = some none)
    (o_SY_Day : PySem.W.nsIn K SY "Day" = some none)
    (o_SY_ : PySem.W.nsIn K SY "" = some none)
    (o_SY_i : PySem.W.nsIn K SY "i" = some none)
    (o_SY_o : PySem.W.nsIn K SY "o" = some none)
    (o_SY_pq : PySem.W.nsIn K SY "pq" = some none)
    (o_SY_ab : PySem.W.nsIn K SY "ab" = some none)
    (o_SY_A : PySem.W.nsIn K SY "A" = some none)
    (o_SY_X : PySem.W.nsIn K SY "X" = some none)
    (o_SY_a : PySem.W.nsIn K SY "a" = some none)
    (o_SY_b : PySem.W.nsIn K SY "b" = some none)
    (o_SY_c : PySem.W.nsIn K SY "c" = some none)
    (o_SY_d : PySem.W.nsIn K SY "d" = some none)
    (o_SY_e : PySem.W.nsIn K SY "e" = some none)
    (o_SY_f : PySem.W.nsIn K SY "f" = some none)
    (o_SY_g : PySem.W.nsIn K SY "g" = some none)
    (o_SY_h : PySem.W.nsIn K SY "h" = some none)
    (o_SY_p : PySem.W.nsIn K SY "p" = some none)
    (o_SY_q : PySem.W.nsIn K SY "q" = some none)
    (o_SY_r : PySem.W.nsIn K SY "r" = some none)
    (o_SY_s : PySem.W.nsIn K SY "s" = some none)
    (o_SY_t : PySem.W.nsIn K SY "t" = some none)
    (o_SY_u : PySem.W.nsIn K SY "u" = some none)
    (o_SY_v : PySem.W.nsIn K SY "v" = some none)
    (o_SY_w : PySem.W.nsIn K SY "w" = some none)
    (o_SY_x : PySem.W.nsIn K SY "x" = some none)
    (o_SY_y : PySem.W.nsIn K SY "y" = some none)
    (o_SY_z : PySem.W.nsIn K SY "z" = some none)
    (a_is_day : PySem.W.nsIn K mainGlobals "is_day" = some (some (.ref f_is_day)))
    (l_is_day : K.lookup f_is_day = some ⟨oc_is_day, od_is_day, .func (PySem.W.fnOf "is_day" "is_day" (defArgs s_is_day) (defBody s_is_day) (defScope s_is_day) .none kV_is_day dc_is_day pm_is_day an_is_day cd_is_day ct_is_day), sl_is_day⟩)
    (c_is_day : PySem.W.codeIn K cd_is_day "is_day" = true)
    (k_is_day : PySem.W.keepIn K (.ref f_is_day) = true)
    (a_is_rule : PySem.W.nsIn K mainGlobals "is_rule" = some (some (.ref f_is_rule)))
    (l_is_rule : K.lookup f_is_rule = some ⟨oc_is_rule, od_is_rule, .func (PySem.W.fnOf "is_rule" "is_rule" (defArgs s_is_rule) (defBody s_is_rule) (defScope s_is_rule) .none kV_is_rule dc_is_rule pm_is_rule an_is_rule cd_is_rule ct_is_rule), sl_is_rule⟩)
    (c_is_rule : PySem.W.codeIn K cd_is_rule "is_rule" = true)
    (k_is_rule : PySem.W.keepIn K (.ref f_is_rule) = true)
    (a_is_name : PySem.W.nsIn K mainGlobals "is_name" = some (some (.ref f_is_name)))
    (l_is_name : K.lookup f_is_name = some ⟨oc_is_name, od_is_name, .func (PySem.W.fnOf "is_name" "is_name" (defArgs s_is_name) (defBody s_is_name) (defScope s_is_name) .none kV_is_name dc_is_name pm_is_name an_is_name cd_is_name ct_is_name), sl_is_name⟩)
    (c_is_name : PySem.W.codeIn K cd_is_name "is_name" = true)
    (k_is_name : PySem.W.keepIn K (.ref f_is_name) = true)
    (a_parts_of : PySem.W.nsIn K mainGlobals "parts_of" = some (some (.ref f_parts_of)))
    (l_parts_of : K.lookup f_parts_of = some ⟨oc_parts_of, od_parts_of, .func (PySem.W.fnOf "parts_of" "parts_of" (defArgs s_parts_of) (defBody s_parts_of) (defScope s_parts_of) .none kV_parts_of dc_parts_of pm_parts_of an_parts_of cd_parts_of ct_parts_of), sl_parts_of⟩)
    (c_parts_of : PySem.W.codeIn K cd_parts_of "parts_of" = true)
    (k_parts_of : PySem.W.keepIn K (.ref f_parts_of) = true)
    (a_all_pieces : PySem.W.nsIn K mainGlobals "all_pieces" = some (some (.ref f_all_pieces)))
    (l_all_pieces : K.lookup f_all_pieces = some ⟨oc_all_pieces, od_all_pieces, .func (PySem.W.fnOf "all_pieces" "all_pieces" (defArgs s_all_pieces) (defBody s_all_pieces) (defScope s_all_pieces) .none kV_all_pieces dc_all_pieces pm_all_pieces an_all_pieces cd_all_pieces ct_all_pieces), sl_all_pieces⟩)
    (c_all_pieces : PySem.W.codeIn K cd_all_pieces "all_pieces" = true)
    (k_all_pieces : PySem.W.keepIn K (.ref f_all_pieces) = true)
    (a_is_formula : PySem.W.nsIn K mainGlobals "is_formula" = some (some (.ref f_is_formula)))
    (l_is_formula : K.lookup f_is_formula = some ⟨oc_is_formula, od_is_formula, .func (PySem.W.fnOf "is_formula" "is_formula" (defArgs s_is_formula) (defBody s_is_formula) (defScope s_is_formula) .none kV_is_formula dc_is_formula pm_is_formula an_is_formula cd_is_formula ct_is_formula), sl_is_formula⟩)
    (c_is_formula : PySem.W.codeIn K cd_is_formula "is_formula" = true)
    (k_is_formula : PySem.W.keepIn K (.ref f_is_formula) = true)
    (a_is_chain : PySem.W.nsIn K mainGlobals "is_chain" = some (some (.ref f_is_chain)))
    (l_is_chain : K.lookup f_is_chain = some ⟨oc_is_chain, od_is_chain, .func (PySem.W.fnOf "is_chain" "is_chain" (defArgs s_is_chain) (defBody s_is_chain) (defScope s_is_chain) .none kV_is_chain dc_is_chain pm_is_chain an_is_chain cd_is_chain ct_is_chain), sl_is_chain⟩)
    (c_is_chain : PySem.W.codeIn K cd_is_chain "is_chain" = true)
    (k_is_chain : PySem.W.keepIn K (.ref f_is_chain) = true)
    (a__is_piece : PySem.W.nsIn K mainGlobals "_is_piece" = some (some (.ref f__is_piece)))
    (l__is_piece : K.lookup f__is_piece = some ⟨oc__is_piece, od__is_piece, .func (PySem.W.fnOf "_is_piece" "_is_piece" (defArgs s__is_piece) (defBody s__is_piece) (defScope s__is_piece) .none kV__is_piece dc__is_piece pm__is_piece an__is_piece cd__is_piece ct__is_piece), sl__is_piece⟩)
    (c__is_piece : PySem.W.codeIn K cd__is_piece "_is_piece" = true)
    (k__is_piece : PySem.W.keepIn K (.ref f__is_piece) = true)
    (a_is_saying : PySem.W.nsIn K mainGlobals "is_saying" = some (some (.ref f_is_saying)))
    (l_is_saying : K.lookup f_is_saying = some ⟨oc_is_saying, od_is_saying, .func (PySem.W.fnOf "is_saying" "is_saying" (defArgs s_is_saying) (defBody s_is_saying) (defScope s_is_saying) .none kV_is_saying dc_is_saying pm_is_saying an_is_saying cd_is_saying ct_is_saying), sl_is_saying⟩)
    (c_is_saying : PySem.W.codeIn K cd_is_saying "is_saying" = true)
    (k_is_saying : PySem.W.keepIn K (.ref f_is_saying) = true)
    (a__is_tuple_of_saying : PySem.W.nsIn K mainGlobals "_is_tuple_of_saying" = some (some (.ref f__is_tuple_of_saying)))
    (l__is_tuple_of_saying : K.lookup f__is_tuple_of_saying = some ⟨oc__is_tuple_of_saying, od__is_tuple_of_saying, .func (PySem.W.fnOf "_is_tuple_of_saying" "_is_tuple_of_saying" (defArgs s__is_tuple_of_saying) (defBody s__is_tuple_of_saying) (defScope s__is_tuple_of_saying) .none kV__is_tuple_of_saying dc__is_tuple_of_saying pm__is_tuple_of_saying an__is_tuple_of_saying cd__is_tuple_of_saying ct__is_tuple_of_saying), sl__is_tuple_of_saying⟩)
    (c__is_tuple_of_saying : PySem.W.codeIn K cd__is_tuple_of_saying "_is_tuple_of_saying" = true)
    (k__is_tuple_of_saying : PySem.W.keepIn K (.ref f__is_tuple_of_saying) = true)
    (a__law_pot : PySem.W.nsIn K mainGlobals "_law_pot" = some (some (.ref f__law_pot)))
    (l__law_pot : K.lookup f__law_pot = some ⟨oc__law_pot, od__law_pot, .func (PySem.W.fnOf "_law_pot" "_law_pot" (defArgs s__law_pot) (defBody s__law_pot) (defScope s__law_pot) .none kV__law_pot dc__law_pot pm__law_pot an__law_pot cd__law_pot ct__law_pot), sl__law_pot⟩)
    (c__law_pot : PySem.W.codeIn K cd__law_pot "_law_pot" = true)
    (k__law_pot : PySem.W.keepIn K (.ref f__law_pot) = true)
    (a__law_draw : PySem.W.nsIn K mainGlobals "_law_draw" = some (some (.ref f__law_draw)))
    (l__law_draw : K.lookup f__law_draw = some ⟨oc__law_draw, od__law_draw, .func (PySem.W.fnOf "_law_draw" "_law_draw" (defArgs s__law_draw) (defBody s__law_draw) (defScope s__law_draw) .none kV__law_draw dc__law_draw pm__law_draw an__law_draw cd__law_draw ct__law_draw), sl__law_draw⟩)
    (c__law_draw : PySem.W.codeIn K cd__law_draw "_law_draw" = true)
    (k__law_draw : PySem.W.keepIn K (.ref f__law_draw) = true)
    (a__law_pick : PySem.W.nsIn K mainGlobals "_law_pick" = some (some (.ref f__law_pick)))
    (l__law_pick : K.lookup f__law_pick = some ⟨oc__law_pick, od__law_pick, .func (PySem.W.fnOf "_law_pick" "_law_pick" (defArgs s__law_pick) (defBody s__law_pick) (defScope s__law_pick) .none kV__law_pick dc__law_pick pm__law_pick an__law_pick cd__law_pick ct__law_pick), sl__law_pick⟩)
    (c__law_pick : PySem.W.codeIn K cd__law_pick "_law_pick" = true)
    (k__law_pick : PySem.W.keepIn K (.ref f__law_pick) = true)
    (a__law_some : PySem.W.nsIn K mainGlobals "_law_some" = some (some (.ref f__law_some)))
    (l__law_some : K.lookup f__law_some = some ⟨oc__law_some, od__law_some, .func (PySem.W.fnOf "_law_some" "_law_some" (defArgs s__law_some) (defBody s__law_some) (defScope s__law_some) .none kV__law_some dc__law_some pm__law_some an__law_some cd__law_some ct__law_some), sl__law_some⟩)
    (c__law_some : PySem.W.codeIn K cd__law_some "_law_some" = true)
    (k__law_some : PySem.W.keepIn K (.ref f__law_some) = true)
    (a__law_number : PySem.W.nsIn K mainGlobals "_law_number" = some (some (.ref f__law_number)))
    (l__law_number : K.lookup f__law_number = some ⟨oc__law_number, od__law_number, .func (PySem.W.fnOf "_law_number" "_law_number" (defArgs s__law_number) (defBody s__law_number) (defScope s__law_number) .none kV__law_number dc__law_number pm__law_number an__law_number cd__law_number ct__law_number), sl__law_number⟩)
    (c__law_number : PySem.W.codeIn K cd__law_number "_law_number" = true)
    (k__law_number : PySem.W.keepIn K (.ref f__law_number) = true)
    (a__law_formula : PySem.W.nsIn K mainGlobals "_law_formula" = some (some (.ref f__law_formula)))
    (l__law_formula : K.lookup f__law_formula = some ⟨oc__law_formula, od__law_formula, .func (PySem.W.fnOf "_law_formula" "_law_formula" (defArgs s__law_formula) (defBody s__law_formula) (defScope s__law_formula) .none kV__law_formula dc__law_formula pm__law_formula an__law_formula cd__law_formula ct__law_formula), sl__law_formula⟩)
    (c__law_formula : PySem.W.codeIn K cd__law_formula "_law_formula" = true)
    (k__law_formula : PySem.W.keepIn K (.ref f__law_formula) = true)
    (a__law_saying : PySem.W.nsIn K mainGlobals "_law_saying" = some (some (.ref f__law_saying)))
    (l__law_saying : K.lookup f__law_saying = some ⟨oc__law_saying, od__law_saying, .func (PySem.W.fnOf "_law_saying" "_law_saying" (defArgs s__law_saying) (defBody s__law_saying) (defScope s__law_saying) .none kV__law_saying dc__law_saying pm__law_saying an__law_saying cd__law_saying ct__law_saying), sl__law_saying⟩)
    (c__law_saying : PySem.W.codeIn K cd__law_saying "_law_saying" = true)
    (k__law_saying : PySem.W.keepIn K (.ref f__law_saying) = true)
    (a__law_odd : PySem.W.nsIn K mainGlobals "_law_odd" = some (some (.ref f__law_odd)))
    (l__law_odd : K.lookup f__law_odd = some ⟨oc__law_odd, od__law_odd, .func (PySem.W.fnOf "_law_odd" "_law_odd" (defArgs s__law_odd) (defBody s__law_odd) (defScope s__law_odd) .none kV__law_odd dc__law_odd pm__law_odd an__law_odd cd__law_odd ct__law_odd), sl__law_odd⟩)
    (c__law_odd : PySem.W.codeIn K cd__law_odd "_law_odd" = true)
    (k__law_odd : PySem.W.keepIn K (.ref f__law_odd) = true)
    (a__law_spoilt : PySem.W.nsIn K mainGlobals "_law_spoilt" = some (some (.ref f__law_spoilt)))
    (l__law_spoilt : K.lookup f__law_spoilt = some ⟨oc__law_spoilt, od__law_spoilt, .func (PySem.W.fnOf "_law_spoilt" "_law_spoilt" (defArgs s__law_spoilt) (defBody s__law_spoilt) (defScope s__law_spoilt) .none kV__law_spoilt dc__law_spoilt pm__law_spoilt an__law_spoilt cd__law_spoilt ct__law_spoilt), sl__law_spoilt⟩)
    (c__law_spoilt : PySem.W.codeIn K cd__law_spoilt "_law_spoilt" = true)
    (k__law_spoilt : PySem.W.keepIn K (.ref f__law_spoilt) = true)
    (a__law_is_letter : PySem.W.nsIn K mainGlobals "_law_is_letter" = some (some (.ref f__law_is_letter)))
    (l__law_is_letter : K.lookup f__law_is_letter = some ⟨oc__law_is_letter, od__law_is_letter, .func (PySem.W.fnOf "_law_is_letter" "_law_is_letter" (defArgs s__law_is_letter) (defBody s__law_is_letter) (defScope s__law_is_letter) .none kV__law_is_letter dc__law_is_letter pm__law_is_letter an__law_is_letter cd__law_is_letter ct__law_is_letter), sl__law_is_letter⟩)
    (c__law_is_letter : PySem.W.codeIn K cd__law_is_letter "_law_is_letter" = true)
    (k__law_is_letter : PySem.W.keepIn K (.ref f__law_is_letter) = true)
    (a__law_is_integer : PySem.W.nsIn K mainGlobals "_law_is_integer" = some (some (.ref f__law_is_integer)))
    (l__law_is_integer : K.lookup f__law_is_integer = some ⟨oc__law_is_integer, od__law_is_integer, .func (PySem.W.fnOf "_law_is_integer" "_law_is_integer" (defArgs s__law_is_integer) (defBody s__law_is_integer) (defScope s__law_is_integer) .none kV__law_is_integer dc__law_is_integer pm__law_is_integer an__law_is_integer cd__law_is_integer ct__law_is_integer), sl__law_is_integer⟩)
    (c__law_is_integer : PySem.W.codeIn K cd__law_is_integer "_law_is_integer" = true)
    (k__law_is_integer : PySem.W.keepIn K (.ref f__law_is_integer) = true)
    (a__law_is_formula : PySem.W.nsIn K mainGlobals "_law_is_formula" = some (some (.ref f__law_is_formula)))
    (l__law_is_formula : K.lookup f__law_is_formula = some ⟨oc__law_is_formula, od__law_is_formula, .func (PySem.W.fnOf "_law_is_formula" "_law_is_formula" (defArgs s__law_is_formula) (defBody s__law_is_formula) (defScope s__law_is_formula) .none kV__law_is_formula dc__law_is_formula pm__law_is_formula an__law_is_formula cd__law_is_formula ct__law_is_formula), sl__law_is_formula⟩)
    (c__law_is_formula : PySem.W.codeIn K cd__law_is_formula "_law_is_formula" = true)
    (k__law_is_formula : PySem.W.keepIn K (.ref f__law_is_formula) = true)
    (a__law_is_saying : PySem.W.nsIn K mainGlobals "_law_is_saying" = some (some (.ref f__law_is_saying)))
    (l__law_is_saying : K.lookup f__law_is_saying = some ⟨oc__law_is_saying, od__law_is_saying, .func (PySem.W.fnOf "_law_is_saying" "_law_is_saying" (defArgs s__law_is_saying) (defBody s__law_is_saying) (defScope s__law_is_saying) .none kV__law_is_saying dc__law_is_saying pm__law_is_saying an__law_is_saying cd__law_is_saying ct__law_is_saying), sl__law_is_saying⟩)
    (c__law_is_saying : PySem.W.codeIn K cd__law_is_saying "_law_is_saying" = true)
    (k__law_is_saying : PySem.W.keepIn K (.ref f__law_is_saying) = true)
    (a__law_is_single : PySem.W.nsIn K mainGlobals "_law_is_single" = some (some (.ref f__law_is_single)))
    (l__law_is_single : K.lookup f__law_is_single = some ⟨oc__law_is_single, od__law_is_single, .func (PySem.W.fnOf "_law_is_single" "_law_is_single" (defArgs s__law_is_single) (defBody s__law_is_single) (defScope s__law_is_single) .none kV__law_is_single dc__law_is_single pm__law_is_single an__law_is_single cd__law_is_single ct__law_is_single), sl__law_is_single⟩)
    (c__law_is_single : PySem.W.codeIn K cd__law_is_single "_law_is_single" = true)
    (k__law_is_single : PySem.W.keepIn K (.ref f__law_is_single) = true)
    (a__law_is_chain : PySem.W.nsIn K mainGlobals "_law_is_chain" = some (some (.ref f__law_is_chain)))
    (l__law_is_chain : K.lookup f__law_is_chain = some ⟨oc__law_is_chain, od__law_is_chain, .func (PySem.W.fnOf "_law_is_chain" "_law_is_chain" (defArgs s__law_is_chain) (defBody s__law_is_chain) (defScope s__law_is_chain) .none kV__law_is_chain dc__law_is_chain pm__law_is_chain an__law_is_chain cd__law_is_chain ct__law_is_chain), sl__law_is_chain⟩)
    (c__law_is_chain : PySem.W.codeIn K cd__law_is_chain "_law_is_chain" = true)
    (k__law_is_chain : PySem.W.keepIn K (.ref f__law_is_chain) = true)
    (a__law_judged : PySem.W.nsIn K mainGlobals "_law_judged" = some (some (.ref f__law_judged)))
    (l__law_judged : K.lookup f__law_judged = some ⟨oc__law_judged, od__law_judged, .func (PySem.W.fnOf "_law_judged" "_law_judged" (defArgs s__law_judged) (defBody s__law_judged) (defScope s__law_judged) .none kV__law_judged dc__law_judged pm__law_judged an__law_judged cd__law_judged ct__law_judged), sl__law_judged⟩)
    (c__law_judged : PySem.W.codeIn K cd__law_judged "_law_judged" = true)
    (k__law_judged : PySem.W.keepIn K (.ref f__law_judged) = true)
    (a__law_wide : PySem.W.nsIn K mainGlobals "_law_wide" = some (some (.ref f__law_wide)))
    (l__law_wide : K.lookup f__law_wide = some ⟨oc__law_wide, od__law_wide, .func (PySem.W.fnOf "_law_wide" "_law_wide" (defArgs s__law_wide) (defBody s__law_wide) (defScope s__law_wide) .none kV__law_wide dc__law_wide pm__law_wide an__law_wide cd__law_wide ct__law_wide), sl__law_wide⟩)
    (c__law_wide : PySem.W.codeIn K cd__law_wide "_law_wide" = true)
    (k__law_wide : PySem.W.keepIn K (.ref f__law_wide) = true)
    (a__law_deep : PySem.W.nsIn K mainGlobals "_law_deep" = some (some (.ref f__law_deep)))
    (l__law_deep : K.lookup f__law_deep = some ⟨oc__law_deep, od__law_deep, .func (PySem.W.fnOf "_law_deep" "_law_deep" (defArgs s__law_deep) (defBody s__law_deep) (defScope s__law_deep) .none kV__law_deep dc__law_deep pm__law_deep an__law_deep cd__law_deep ct__law_deep), sl__law_deep⟩)
    (c__law_deep : PySem.W.codeIn K cd__law_deep "_law_deep" = true)
    (k__law_deep : PySem.W.keepIn K (.ref f__law_deep) = true)
    (a__law_great_right : PySem.W.nsIn K mainGlobals "_law_great_right" = some (some (.ref f__law_great_right)))
    (l__law_great_right : K.lookup f__law_great_right = some ⟨oc__law_great_right, od__law_great_right, .func (PySem.W.fnOf "_law_great_right" "_law_great_right" (defArgs s__law_great_right) (defBody s__law_great_right) (defScope s__law_great_right) .none kV__law_great_right dc__law_great_right pm__law_great_right an__law_great_right cd__law_great_right ct__law_great_right), sl__law_great_right⟩)
    (c__law_great_right : PySem.W.codeIn K cd__law_great_right "_law_great_right" = true)
    (k__law_great_right : PySem.W.keepIn K (.ref f__law_great_right) = true)
    (a__law_right : PySem.W.nsIn K mainGlobals "_law_right" = some (some (.ref f__law_right)))
    (l__law_right : K.lookup f__law_right = some ⟨oc__law_right, od__law_right, .func (PySem.W.fnOf "_law_right" "_law_right" (defArgs s__law_right) (defBody s__law_right) (defScope s__law_right) .none kV__law_right dc__law_right pm__law_right an__law_right cd__law_right ct__law_right), sl__law_right⟩)
    (c__law_right : PySem.W.codeIn K cd__law_right "_law_right" = true)
    (k__law_right : PySem.W.keepIn K (.ref f__law_right) = true)
    (a_law : PySem.W.nsIn K mainGlobals "law" = some (some (.ref f_law)))
    (l_law : K.lookup f_law = some ⟨oc_law, od_law, .func (PySem.W.fnOf "law" "law" (defArgs s_law) (defBody s_law) (defScope s_law) .none kV_law dc_law pm_law an_law cd_law ct_law), sl_law⟩)
    (c_law : PySem.W.codeIn K cd_law "law" = true)
    (k_law : PySem.W.keepIn K (.ref f_law) = true)
    (b_isinstance : PySem.W.nsIn K mainGlobals "isinstance" = some none)
    (b_int : PySem.W.nsIn K mainGlobals "int" = some none)
    (b_bool : PySem.W.nsIn K mainGlobals "bool" = some none)
    (b_list : PySem.W.nsIn K mainGlobals "list" = some none)
    (b_tuple : PySem.W.nsIn K mainGlobals "tuple" = some none)
    (b_str : PySem.W.nsIn K mainGlobals "str" = some none)
    (b_len : PySem.W.nsIn K mainGlobals "len" = some none)
    (b_range : PySem.W.nsIn K mainGlobals "range" = some none)
    (b_divmod : PySem.W.nsIn K mainGlobals "divmod" = some none)
    (b_min : PySem.W.nsIn K mainGlobals "min" = some none)
    (b_max : PySem.W.nsIn K mainGlobals "max" = some none)
    (b_all : PySem.W.nsIn K mainGlobals "all" = some none)
    (b_abs : PySem.W.nsIn K mainGlobals "abs" = some none)
    (b_repr : PySem.W.nsIn K mainGlobals "repr" = some none)
    (b_sum : PySem.W.nsIn K mainGlobals "sum" = some none)
    : ∃ fd : FuncData, (∀ (s : Shared) (u : Value), BindsTo s fd ⟨[u], []⟩ [("_law_script", u)]) ∧ ∀ base : Heap, K.In base → base.Ns mainGlobals mg → FnG P w K mg base CX0 109 fa fd ["_law_script"] (sp_law K) := by
  have ef : fa = f_law := by
    have z := PySem.W.mg_of X G a_law
    rw [hmg] at z
    cases z
    rfl
  subst ef
  have T : Txt P w K mg SZ SY := { z := kd_mk l_SZ kl_SZ lo_SZ (fm_cons ⟨_, v_SZ_day⟩ (fm_cons ⟨_, v_SZ_num⟩ (fm_cons ⟨_, v_SZ_on⟩ (fm_cons ⟨_, v_SZ_by⟩ (fm_cons ⟨_, v_SZ_til⟩ (fm_cons ⟨_, v_SZ_add⟩ (fm_cons ⟨_, v_SZ_late⟩ (fm_cons ⟨_, v_SZ_soon⟩ (fm_nil))))))))) (fm_cons o_SZ_le (fm_cons o_SZ_and (fm_cons o_SZ_or (fm_cons o_SZ_not (fm_cons o_SZ_up (fm_cons o_SZ_Day (fm_cons o_SZ_ (fm_cons o_SZ_i (fm_cons o_SZ_o (fm_cons o_SZ_pq (fm_cons o_SZ_ab (fm_cons o_SZ_A (fm_cons o_SZ_X (fm_cons o_SZ_a (fm_cons o_SZ_b (fm_cons o_SZ_c (fm_cons o_SZ_d (fm_cons o_SZ_e (fm_cons o_SZ_f (fm_cons o_SZ_g (fm_cons o_SZ_h (fm_cons o_SZ_p (fm_cons o_SZ_q (fm_cons o_SZ_r (fm_cons o_SZ_s (fm_cons o_SZ_t (fm_cons o_SZ_u (fm_cons o_SZ_v (fm_cons o_SZ_w (fm_cons o_SZ_x (fm_cons o_SZ_y (fm_cons o_SZ_z (fm_nil))))))))))))))))))))))))))))))))), mg_SIZES := PySem.W.mg_of X G a_SZ, y := kd_mk l_SY kl_SY lo_SY (fm_cons ⟨_, v_SY_le⟩ (fm_cons ⟨_, v_SY_and⟩ (fm_cons ⟨_, v_SY_or⟩ (fm_cons ⟨_, v_SY_not⟩ (fm_nil))))) (fm_cons o_SY_day (fm_cons o_SY_num (fm_cons o_SY_on (fm_cons o_SY_by (fm_cons o_SY_til (fm_cons o_SY_add (fm_cons o_SY_late (fm_cons o_SY_soon (fm_cons o_SY_up (fm_cons o_SY_Day (fm_cons o_SY_ (fm_cons o_SY_i (fm_cons o_SY_o (fm_cons o_SY_pq (fm_cons o_SY_ab (fm_cons o_SY_A (fm_cons o_SY_X (fm_cons o_SY_a (fm_cons o_SY_b (fm_cons o_SY_c (fm_cons o_SY_d (fm_cons o_SY_e (fm_cons o_SY_f (fm_cons o_SY_g (fm_cons o_SY_h (fm_cons o_SY_p (fm_cons o_SY_q (fm_cons o_SY_r (fm_cons o_SY_s (fm_cons o_SY_t (fm_cons o_SY_u (fm_cons o_SY_v (fm_cons o_SY_w (fm_cons o_SY_x (fm_cons o_SY_y (fm_cons o_SY_z (fm_nil))))))))))))))))))))))))))))))))))))), mg_SIZES_OF_SAYINGS := PySem.W.mg_of X G a_SY, b_isinstance := PySem.W.mg_none_of X G b_isinstance, b_int := PySem.W.mg_none_of X G b_int, b_bool := PySem.W.mg_none_of X G b_bool, b_list := PySem.W.mg_none_of X G b_list, b_tuple := PySem.W.mg_none_of X G b_tuple, b_str := PySem.W.mg_none_of X G b_str, b_len := PySem.W.mg_none_of X G b_len, b_range := PySem.W.mg_none_of X G b_range, b_divmod := PySem.W.mg_none_of X G b_divmod, b_min := PySem.W.mg_none_of X G b_min, b_max := PySem.W.mg_none_of X G b_max, b_all := PySem.W.mg_none_of X G b_all, b_abs := PySem.W.mg_none_of X G b_abs, b_repr := PySem.W.mg_none_of X G b_repr, b_sum := PySem.W.mg_none_of X G b_sum }
  have F_is_day := fun_mk (K := K) (st := s_is_day) l_is_day c_is_day k_is_day
  have bd_is_day : Binds K _ ["value"] [] := F_is_day.binds (fun _ _ _ _ _ _ => us_1 fun _ => rfl)
  have F_is_rule := fun_mk (K := K) (st := s_is_rule) l_is_rule c_is_rule k_is_rule
  have bd_is_rule : Binds K _ ["value"] [] := F_is_rule.binds (fun _ _ _ _ _ _ => us_1 fun _ => rfl)
  have F_is_name := fun_mk (K := K) (st := s_is_name) l_is_name c_is_name k_is_name
  have bd_is_name : Binds K _ ["value"] [] := F_is_name.binds (fun _ _ _ _ _ _ => us_1 fun _ => rfl)
  have F_parts_of := fun_mk (K := K) (st := s_parts_of) l_parts_of c_parts_of k_parts_of
  have bd_parts_of : Binds K _ ["told"] [] := F_parts_of.binds (fun _ _ _ _ _ _ => us_1 fun _ => rfl)
  have F_all_pieces := fun_mk (K := K) (st := s_all_pieces) l_all_pieces c_all_pieces k_all_pieces
  have bd_all_pieces : Binds K _ ["told"] [] := F_all_pieces.binds (fun _ _ _ _ _ _ => us_1 fun _ => rfl)
  have F_is_formula := fun_mk (K := K) (st := s_is_formula) l_is_formula c_is_formula k_is_formula
  have bd_is_formula : Binds K _ ["value"] [] := F_is_formula.binds (fun _ _ _ _ _ _ => us_1 fun _ => rfl)
  have F_is_chain := fun_mk (K := K) (st := s_is_chain) l_is_chain c_is_chain k_is_chain
  have bd_is_chain : Binds K _ ["value"] [] := F_is_chain.binds (fun _ _ _ _ _ _ => us_1 fun _ => rfl)
  have F__is_piece := fun_mk (K := K) (st := s__is_piece) l__is_piece c__is_piece k__is_piece
  have bd__is_piece : Binds K _ ["value"] [] := F__is_piece.binds (fun _ _ _ _ _ _ => us_1 fun _ => rfl)
  have F_is_saying := fun_mk (K := K) (st := s_is_saying) l_is_saying c_is_saying k_is_saying
  have bd_is_saying : Binds K _ ["value"] [] := F_is_saying.binds (fun _ _ _ _ _ _ => us_1 fun _ => rfl)
  have F__is_tuple_of_saying := fun_mk (K := K) (st := s__is_tuple_of_saying) l__is_tuple_of_saying c__is_tuple_of_saying k__is_tuple_of_saying
  have bd__is_tuple_of_saying : Binds K _ ["value"] [] := F__is_tuple_of_saying.binds (fun _ _ _ _ _ _ => us_1 fun _ => rfl)
  have F__law_pot := fun_mk (K := K) (st := s__law_pot) l__law_pot c__law_pot k__law_pot
  have bd__law_pot : Binds K _ ["_law_script", "_law_k"] [] := F__law_pot.binds (fun _ _ _ _ _ _ => us_2 fun _ _ => rfl)
  have F__law_draw := fun_mk (K := K) (st := s__law_draw) l__law_draw c__law_draw k__law_draw
  have bd__law_draw : Binds K _ ["_law_pot_here", "_law_many"] [] := F__law_draw.binds (fun _ _ _ _ _ _ => us_2 fun _ _ => rfl)
  have F__law_pick := fun_mk (K := K) (st := s__law_pick) l__law_pick c__law_pick k__law_pick
  have bd__law_pick : Binds K _ ["_law_pot_here", "_law_some_here"] [] := F__law_pick.binds (fun _ _ _ _ _ _ => us_2 fun _ _ => rfl)
  have F__law_some := fun_mk (K := K) (st := s__law_some) l__law_some c__law_some k__law_some
  have bd__law_some : Binds K _ ["_law_pot_here", "_law_letters", "_law_many"] [] := F__law_some.binds (fun _ _ _ _ _ _ => us_3 fun _ _ _ => rfl)
  have F__law_number := fun_mk (K := K) (st := s__law_number) l__law_number c__law_number k__law_number
  have bd__law_number : Binds K _ ["_law_pot_here"] [] := F__law_number.binds (fun _ _ _ _ _ _ => us_1 fun _ => rfl)
  have F__law_formula := fun_mk (K := K) (st := s__law_formula) l__law_formula c__law_formula k__law_formula
  have bd__law_formula : Binds K _ ["_law_pot_here", "_law_deep_here", "_law_names", "_law_rules"] [] := F__law_formula.binds (fun _ _ _ _ _ _ => us_4 fun _ _ _ _ => rfl)
  have F__law_saying := fun_mk (K := K) (st := s__law_saying) l__law_saying c__law_saying k__law_saying
  have bd__law_saying : Binds K _ ["_law_pot_here", "_law_deep_here", "_law_names", "_law_rules"] [] := F__law_saying.binds (fun _ _ _ _ _ _ => us_4 fun _ _ _ _ => rfl)
  have F__law_odd := fun_mk (K := K) (st := s__law_odd) l__law_odd c__law_odd k__law_odd
  have bd__law_odd : Binds K _ ["_law_pot_here"] [] := F__law_odd.binds (fun _ _ _ _ _ _ => us_1 fun _ => rfl)
  have F__law_spoilt := fun_mk (K := K) (st := s__law_spoilt) l__law_spoilt c__law_spoilt k__law_spoilt
  have bd__law_spoilt : Binds K _ ["_law_pot_here", "_law_told"] [] := F__law_spoilt.binds (fun _ _ _ _ _ _ => us_2 fun _ _ => rfl)
  have F__law_is_letter := fun_mk (K := K) (st := s__law_is_letter) l__law_is_letter c__law_is_letter k__law_is_letter
  have bd__law_is_letter : Binds K _ ["_law_value", "_law_letters"] [] := F__law_is_letter.binds (fun _ _ _ _ _ _ => us_2 fun _ _ => rfl)
  have F__law_is_integer := fun_mk (K := K) (st := s__law_is_integer) l__law_is_integer c__law_is_integer k__law_is_integer
  have bd__law_is_integer : Binds K _ ["_law_value"] [] := F__law_is_integer.binds (fun _ _ _ _ _ _ => us_1 fun _ => rfl)
  have F__law_is_formula := fun_mk (K := K) (st := s__law_is_formula) l__law_is_formula c__law_is_formula k__law_is_formula
  have bd__law_is_formula : Binds K _ ["_law_value"] [] := F__law_is_formula.binds (fun _ _ _ _ _ _ => us_1 fun _ => rfl)
  have F__law_is_saying := fun_mk (K := K) (st := s__law_is_saying) l__law_is_saying c__law_is_saying k__law_is_saying
  have bd__law_is_saying : Binds K _ ["_law_value"] [] := F__law_is_saying.binds (fun _ _ _ _ _ _ => us_1 fun _ => rfl)
  have F__law_is_single := fun_mk (K := K) (st := s__law_is_single) l__law_is_single c__law_is_single k__law_is_single
  have bd__law_is_single : Binds K _ ["_law_formula_here"] [] := F__law_is_single.binds (fun _ _ _ _ _ _ => us_1 fun _ => rfl)
  have F__law_is_chain := fun_mk (K := K) (st := s__law_is_chain) l__law_is_chain c__law_is_chain k__law_is_chain
  have bd__law_is_chain : Binds K _ ["_law_value"] [] := F__law_is_chain.binds (fun _ _ _ _ _ _ => us_1 fun _ => rfl)
  have F__law_judged := fun_mk (K := K) (st := s__law_judged) l__law_judged c__law_judged k__law_judged
  have bd__law_judged : Binds K _ ["_law_value"] [] := F__law_judged.binds (fun _ _ _ _ _ _ => us_1 fun _ => rfl)
  have F__law_wide := fun_mk (K := K) (st := s__law_wide) l__law_wide c__law_wide k__law_wide
  have bd__law_wide : Binds K _ ["_law_many", "_law_leaf"] [] := F__law_wide.binds (fun _ _ _ _ _ _ => us_2 fun _ _ => rfl)
  have F__law_deep := fun_mk (K := K) (st := s__law_deep) l__law_deep c__law_deep k__law_deep
  have bd__law_deep : Binds K _ ["_law_many", "_law_leaf"] [] := F__law_deep.binds (fun _ _ _ _ _ _ => us_2 fun _ _ => rfl)
  have F__law_great_right := fun_mk (K := K) (st := s__law_great_right) l__law_great_right c__law_great_right k__law_great_right
  have bd__law_great_right : Binds K _ ["_law_pot_here", "_law_leaf"] [] := F__law_great_right.binds (fun _ _ _ _ _ _ => us_2 fun _ _ => rfl)
  have F__law_right := fun_mk (K := K) (st := s__law_right) l__law_right c__law_right k__law_right
  have bd__law_right : Binds K _ ["_law_pot_here"] [] := F__law_right.binds (fun _ _ _ _ _ _ => us_1 fun _ => rfl)
  have F_law := fun_mk (K := K) (st := s_law) l_law c_law k_law
  have bd_law : Binds K _ ["_law_script"] [] := F_law.binds (fun _ _ _ _ _ _ => us_1 fun _ => rfl)
  have kb_is_formula_value := kb_of (ps := ["value"]) (ks := ["value"]) (n := 0) (g := fun us ws => us ++ ws) (gV := fun vs zs => vs ++ zs) F_is_formula (by intro _ _ _ _ _ _ us ws h1 h2; cases us_nil h1; obtain ⟨w0, tw0, rfl, kw0⟩ := us_cons (n := 0) h2; cases us_nil kw0; rfl) (fun a b => a.append b)
  have kb_is_saying_value := kb_of (ps := ["value"]) (ks := ["value"]) (n := 0) (g := fun us ws => us ++ ws) (gV := fun vs zs => vs ++ zs) F_is_saying (by intro _ _ _ _ _ _ us ws h1 h2; cases us_nil h1; obtain ⟨w0, tw0, rfl, kw0⟩ := us_cons (n := 0) h2; cases us_nil kw0; rfl) (fun a b => a.append b)
  have kb_is_chain_value := kb_of (ps := ["value"]) (ks := ["value"]) (n := 0) (g := fun us ws => us ++ ws) (gV := fun vs zs => vs ++ zs) F_is_chain (by intro _ _ _ _ _ _ us ws h1 h2; cases us_nil h1; obtain ⟨w0, tw0, rfl, kw0⟩ := us_cons (n := 0) h2; cases us_nil kw0; rfl) (fun a b => a.append b)
  refine ⟨PySem.W.fnOf "law" "law" (defArgs s_law) (defBody s_law) (defScope s_law) .none kV_law dc_law pm_law an_law cd_law ct_law, ?bb, fun base kb nb => ?_⟩
  rotate_left
  have c_is_rule : Cal P w K mg base "is_rule" f_is_rule _ _ _ _ := ⟨ok_is_rule (P := P) (w := w) (base := base) F_is_rule T, PySem.W.mg_of X G a_is_rule, k_is_rule, bd_is_rule⟩
  have c_is_name : Cal P w K mg base "is_name" f_is_name _ _ _ _ := ⟨ok_is_name (P := P) (w := w) (base := base) F_is_name T, PySem.W.mg_of X G a_is_name, k_is_name, bd_is_name⟩
  have c_is_day : Cal P w K mg base "is_day" f_is_day _ _ _ _ := ⟨ok_is_day (P := P) (w := w) (base := base) F_is_day T, PySem.W.mg_of X G a_is_day, k_is_day, bd_is_day⟩
  have c__law_is_integer : Cal P w K mg base "_law_is_integer" f__law_is_integer _ _ _ _ := ⟨ok__law_is_integer (P := P) (w := w) (base := base) F__law_is_integer T, PySem.W.mg_of X G a__law_is_integer, k__law_is_integer, bd__law_is_integer⟩
  have c__law_is_letter : Cal P w K mg base "_law_is_letter" f__law_is_letter _ _ _ _ := ⟨ok__law_is_letter (P := P) (w := w) (base := base) F__law_is_letter T, PySem.W.mg_of X G a__law_is_letter, k__law_is_letter, bd__law_is_letter⟩
  have c_parts_of : Cal P w K mg base "parts_of" f_parts_of _ _ _ _ := ⟨ok_parts_of (P := P) (w := w) (base := base) F_parts_of T, PySem.W.mg_of X G a_parts_of, k_parts_of, bd_parts_of⟩
  have c__is_piece : Cal P w K mg base "_is_piece" f__is_piece _ _ _ _ := ⟨ok__is_piece (P := P) (w := w) (base := base) F__is_piece T c_is_name c_is_day c_is_rule, PySem.W.mg_of X G a__is_piece, k__is_piece, bd__is_piece⟩
  have c__is_tuple_of_saying : Cal P w K mg base "_is_tuple_of_saying" f__is_tuple_of_saying _ _ _ _ := ⟨ok__is_tuple_of_saying (P := P) (w := w) (base := base) F__is_tuple_of_saying T, PySem.W.mg_of X G a__is_tuple_of_saying, k__is_tuple_of_saying, bd__is_tuple_of_saying⟩
  have c_is_formula : Cal P w K mg base "is_formula" f_is_formula _ _ _ _ := ⟨ok_is_formula (P := P) (w := w) (base := base) F_is_formula T c__is_piece c_parts_of, PySem.W.mg_of X G a_is_formula, k_is_formula, bd_is_formula⟩
  have c_is_saying : Cal P w K mg base "is_saying" f_is_saying _ _ _ _ := ⟨ok_is_saying (P := P) (w := w) (base := base) F_is_saying T c__is_tuple_of_saying c_parts_of c_is_formula, PySem.W.mg_of X G a_is_saying, k_is_saying, bd_is_saying⟩
  have c_all_pieces : Cal P w K mg base "all_pieces" f_all_pieces _ _ _ _ := ⟨ok_all_pieces (P := P) (w := w) (base := base) F_all_pieces T c_parts_of, PySem.W.mg_of X G a_all_pieces, k_all_pieces, bd_all_pieces⟩
  have c_is_chain : Cal P w K mg base "is_chain" f_is_chain _ _ _ _ := ⟨ok_is_chain (P := P) (w := w) (base := base) F_is_chain T c_is_formula c_all_pieces, PySem.W.mg_of X G a_is_chain, k_is_chain, bd_is_chain⟩
  have c__law_is_formula : Cal P w K mg base "_law_is_formula" f__law_is_formula _ _ _ _ := ⟨ok__law_is_formula (P := P) (w := w) (base := base) F__law_is_formula T ⟨PySem.W.mg_of X G a__law_is_formula, k__law_is_formula, bd__law_is_formula⟩ c__law_is_letter c__law_is_integer 50, PySem.W.mg_of X G a__law_is_formula, k__law_is_formula, bd__law_is_formula⟩
  have c__law_is_saying : Cal P w K mg base "_law_is_saying" f__law_is_saying _ _ _ _ := ⟨ok__law_is_saying (P := P) (w := w) (base := base) F__law_is_saying T ⟨PySem.W.mg_of X G a__law_is_saying, k__law_is_saying, bd__law_is_saying⟩ c__law_is_formula 50 (by decide), PySem.W.mg_of X G a__law_is_saying, k__law_is_saying, bd__law_is_saying⟩
  have c__law_is_single : Cal P w K mg base "_law_is_single" f__law_is_single _ _ _ _ := ⟨ok__law_is_single (P := P) (w := w) (base := base) F__law_is_single T ⟨PySem.W.mg_of X G a__law_is_single, k__law_is_single, bd__law_is_single⟩ 50, PySem.W.mg_of X G a__law_is_single, k__law_is_single, bd__law_is_single⟩
  have c__law_is_chain : Cal P w K mg base "_law_is_chain" f__law_is_chain _ _ _ _ := ⟨ok__law_is_chain (P := P) (w := w) (base := base) F__law_is_chain T c__law_is_formula c__law_is_single, PySem.W.mg_of X G a__law_is_chain, k__law_is_chain, bd__law_is_chain⟩
  have c__law_pot : Cal P w K mg base "_law_pot" f__law_pot _ _ _ _ := ⟨ok_pot (P := P) (w := w) (base := base) F__law_pot T, PySem.W.mg_of X G a__law_pot, k__law_pot, bd__law_pot⟩
  have c__law_draw : Cal P w K mg base "_law_draw" f__law_draw _ _ _ _ := ⟨ok_draw (P := P) (w := w) (base := base) F__law_draw T, PySem.W.mg_of X G a__law_draw, k__law_draw, bd__law_draw⟩
  have c__law_pick : Cal P w K mg base "_law_pick" f__law_pick _ _ _ _ := ⟨ok_pick (P := P) (w := w) (base := base) F__law_pick T c__law_draw, PySem.W.mg_of X G a__law_pick, k__law_pick, bd__law_pick⟩
  have c__law_number : Cal P w K mg base "_law_number" f__law_number _ _ _ _ := ⟨ok_number (P := P) (w := w) (base := base) F__law_number T c__law_draw c__law_pick, PySem.W.mg_of X G a__law_number, k__law_number, bd__law_number⟩
  have c__law_some : Cal P w K mg base "_law_some" f__law_some _ _ _ _ := ⟨ok_some (P := P) (w := w) (base := base) F__law_some T c__law_draw, PySem.W.mg_of X G a__law_some, k__law_some, bd__law_some⟩
  have c__law_formula : Cal P w K mg base "_law_formula" f__law_formula _ _ _ _ := ⟨ok_formula (P := P) (w := w) (base := base) F__law_formula T ⟨PySem.W.mg_of X G a__law_formula, k__law_formula, bd__law_formula⟩ c__law_draw c__law_pick c__law_number 4, PySem.W.mg_of X G a__law_formula, k__law_formula, bd__law_formula⟩
  have c__law_saying : Cal P w K mg base "_law_saying" f__law_saying _ _ _ _ := ⟨ok_saying (P := P) (w := w) (base := base) F__law_saying T ⟨PySem.W.mg_of X G a__law_saying, k__law_saying, bd__law_saying⟩ c__law_draw c__law_formula 3, PySem.W.mg_of X G a__law_saying, k__law_saying, bd__law_saying⟩
  have c__law_odd : Cal P w K mg base "_law_odd" f__law_odd _ _ _ _ := ⟨ok_odd (P := P) (w := w) (base := base) F__law_odd T c__law_pick, PySem.W.mg_of X G a__law_odd, k__law_odd, bd__law_odd⟩
  have c__law_spoilt : Cal P w K mg base "_law_spoilt" f__law_spoilt _ _ _ _ := ⟨ok_spoilt (P := P) (w := w) (base := base) F__law_spoilt T ⟨PySem.W.mg_of X G a__law_spoilt, k__law_spoilt, bd__law_spoilt⟩ c__law_draw c__law_pick c__law_odd 10, PySem.W.mg_of X G a__law_spoilt, k__law_spoilt, bd__law_spoilt⟩
  have c__law_judged : CalG P w K mg base "_law_judged" f__law_judged _ _ _ _ := ⟨ok_judged (P := P) (w := w) (base := base) F__law_judged T c__law_is_formula c__law_is_saying c__law_is_chain c_is_formula c_is_saying c_is_chain kb_is_formula_value kb_is_saying_value kb_is_chain_value, PySem.W.mg_of X G a__law_judged, k__law_judged, bd__law_judged⟩
  have c__law_wide : Cal P w K mg base "_law_wide" f__law_wide _ _ _ _ := ⟨ok_wide (P := P) (w := w) (base := base) F__law_wide T ⟨PySem.W.mg_of X G a__law_wide, k__law_wide, bd__law_wide⟩ 8, PySem.W.mg_of X G a__law_wide, k__law_wide, bd__law_wide⟩
  have c__law_deep : Cal P w K mg base "_law_deep" f__law_deep _ _ _ _ := ⟨ok_deep (P := P) (w := w) (base := base) F__law_deep T, PySem.W.mg_of X G a__law_deep, k__law_deep, bd__law_deep⟩
  have c__law_great_right : CalG P w K mg base "_law_great_right" f__law_great_right _ _ _ _ := ⟨ok_great (P := P) (w := w) (base := base) F__law_great_right T c__law_draw c__law_wide c__law_deep c__law_judged, PySem.W.mg_of X G a__law_great_right, k__law_great_right, bd__law_great_right⟩
  have c__law_right : CalG P w K mg base "_law_right" f__law_right _ _ _ _ := ⟨ok_right (P := P) (w := w) (base := base) F__law_right T c__law_some c__law_formula c__law_saying c__law_odd c__law_spoilt c__law_number c__law_judged c__law_great_right, PySem.W.mg_of X G a__law_right, k__law_right, bd__law_right⟩
  exact ok_law (P := P) (w := w) (base := base) F_law T c__law_pot c__law_right
  exact fun s u => BindsTo.of_looks fun M => PySem.W.Looks.of_pure rfl
end
end K20
end
section
open PySem PySem.W PyProof.Rows L2
set_option maxHeartbeats 0 in
theorem PySem.Challenge.cw_leadrules_k20_any_value_judged_holds : PySem.Challenge.rw_leadrules_k20_any_value_judged.Holds := by
  w_on; o_law; k_head; (case hw => w_witness2)
  k_fill
  refine G.walkG (l := PySem.Challenge.rw_leadrules_k20_any_value_judged) (n := 63) (k := 109) (x := "_law_script") (CX := CX0) (sp := K20.sp_law) rfl (by decide) rfl ⟨rfl, by decide, by decide⟩ (fun w h Y => PySem.W.kIn_of Y) ?Fq ?Sq ?Nq
  case Sq => exact fun K H a ns hl hO hS => ⟨a, ns, rfl, hS, hl, fun H2 e => rfl⟩
  case Nq => exact fun H s e s' h => h
  case Fq =>
    intro w mg fa h KX G0 hmg
    refine' K20.all_mk KX G0 hmg ?a_SZ ?l_SZ ?kl_SZ ?lo_SZ ?v_SZ_day ?v_SZ_num ?v_SZ_on ?v_SZ_by ?v_SZ_til ?v_SZ_add ?v_SZ_late ?v_SZ_soon ?o_SZ_le ?o_SZ_and ?o_SZ_or ?o_SZ_not ?o_SZ_up ?o_SZ_Day ?o_SZ_ ?o_SZ_i ?o_SZ_o ?o_SZ_pq ?o_SZ_ab ?o_SZ_A ?o_SZ_X ?o_SZ_a ?o_SZ_b ?o_SZ_c ?o_SZ_d ?o_SZ_e ?o_SZ_f ?o_SZ_g ?o_SZ_h ?o_SZ_p ?o_SZ_q ?o_SZ_r ?o_SZ_s ?o_SZ_t ?o_SZ_u ?o_SZ_v ?o_SZ_w ?o_SZ_x ?o_SZ_y ?o_SZ_z ?a_SY ?l_SY ?kl_SY ?lo_SY ?v_SY_le ?v_SY_and ?v_SY_or ?v_SY_not ?o_SY_day ?o_SY_num ?o_SY_on ?o_SY_by ?o_SY_til ?o_SY_add ?o_SY_late ?o_SY_soon ?o_SY_up ?o_SY_Day ?o_SY_ ?o_SY_i ?o_SY_o ?o_SY_pq ?o_SY_ab ?o_SY_A ?o_SY_X ?o_SY_a ?o_SY_b ?o_SY_c ?o_SY_d ?o_SY_e ?o_SY_f ?o_SY_g ?o_SY_h ?o_SY_p ?o_SY_q ?o_SY_r ?o_SY_s ?o_SY_t ?o_SY_u ?o_SY_v ?o_SY_w ?o_SY_x ?o_SY_y ?o_SY_z ?a_is_day ?l_is_day ?c_is_day ?k_is_day ?a_is_rule ?l_is_rule ?c_is_rule ?k_is_rule ?a_is_name ?l_is_name ?c_is_name ?k_is_name ?a_parts_of ?l_parts_of ?c_parts_of ?k_parts_of ?a_all_pieces ?l_all_pieces ?c_all_pieces ?k_all_pieces ?a_is_formula ?l_is_formula ?c_is_formula ?k_is_formula ?a_is_chain ?l_is_chain ?c_is_chain ?k_is_chain ?a__is_piece ?l__is_piece ?c__is_piece ?k__is_piece ?a_is_saying ?l_is_saying ?c_is_saying ?k_is_saying ?a__is_tuple_of_saying ?l__is_tuple_of_saying ?c__is_tuple_of_saying ?k__is_tuple_of_saying ?a__law_pot ?l__law_pot ?c__law_pot ?k__law_pot ?a__law_draw ?l__law_draw ?c__law_draw ?k__law_draw ?a__law_pick ?l__law_pick ?c__law_pick ?k__law_pick ?a__law_some ?l__law_some ?c__law_some ?k__law_some ?a__law_number ?l__law_number ?c__law_number ?k__law_number ?a__law_formula ?l__law_formula ?c__law_formula ?k__law_formula ?a__law_saying ?l__law_saying ?c__law_saying ?k__law_saying ?a__law_odd ?l__law_odd ?c__law_odd ?k__law_odd ?a__law_spoilt ?l__law_spoilt ?c__law_spoilt ?k__law_spoilt ?a__law_is_letter ?l__law_is_letter ?c__law_is_letter ?k__law_is_letter ?a__law_is_integer ?l__law_is_integer ?c__law_is_integer ?k__law_is_integer ?a__law_is_formula ?l__law_is_formula ?c__law_is_formula ?k__law_is_formula ?a__law_is_saying ?l__law_is_saying ?c__law_is_saying ?k__law_is_saying ?a__law_is_single ?l__law_is_single ?c__law_is_single ?k__law_is_single ?a__law_is_chain ?l__law_is_chain ?c__law_is_chain ?k__law_is_chain ?a__law_judged ?l__law_judged ?c__law_judged ?k__law_judged ?a__law_wide ?l__law_wide ?c__law_wide ?k__law_wide ?a__law_deep ?l__law_deep ?c__law_deep ?k__law_deep ?a__law_great_right ?l__law_great_right ?c__law_great_right ?k__law_great_right ?a__law_right ?l__law_right ?c__law_right ?k__law_right ?a_law ?l_law ?c_law ?k_law ?b_isinstance ?b_int ?b_bool ?b_list ?b_tuple ?b_str ?b_len ?b_range ?b_divmod ?b_min ?b_max ?b_all ?b_abs ?b_repr ?b_sum
    (case a_SZ => k_is)
    (case l_SZ => k_is)
    (case kl_SZ => repeat' (first | exact trivial | refine ⟨⟨_, _, rfl, rfl⟩, ?_⟩))
    (case lo_SZ => (first | rfl | decide))
    (case v_SZ_day => k_is)
    (case v_SZ_num => k_is)
    (case v_SZ_on => k_is)
    (case v_SZ_by => k_is)
    (case v_SZ_til => k_is)
    (case v_SZ_add => k_is)
    (case v_SZ_late => k_is)
    (case v_SZ_soon => k_is)
    (case o_SZ_le => k_is)
    (case o_SZ_and => k_is)
    (case o_SZ_or => k_is)
    (case o_SZ_not => k_is)
    (case o_SZ_up => k_is)
    (case o_SZ_Day => k_is)
    (case o_SZ_ => k_is)
    (case o_SZ_i => k_is)
    (case o_SZ_o => k_is)
    (case o_SZ_pq => k_is)
    (case o_SZ_ab => k_is)
    (case o_SZ_A => k_is)
    (case o_SZ_X => k_is)
    (case o_SZ_a => k_is)
    (case o_SZ_b => k_is)
    (case o_SZ_c => k_is)
    (case o_SZ_d => k_is)
    (case o_SZ_e => k_is)
    (case o_SZ_f => k_is)
    (case o_SZ_g => k_is)
    (case o_SZ_h => k_is)
    (case o_SZ_p => k_is)
    (case o_SZ_q => k_is)
    (case o_SZ_r => k_is)
    (case o_SZ_s => k_is)
    (case o_SZ_t => k_is)
    (case o_SZ_u => k_is)
    (case o_SZ_v => k_is)
    (case o_SZ_w => k_is)
    (case o_SZ_x => k_is)
    (case o_SZ_y => k_is)
    (case o_SZ_z => k_is)
    (case a_SY => k_is)
    (case l_SY => k_is)
    (case kl_SY => repeat' (first | exact trivial | refine ⟨⟨_, _, rfl, rfl⟩, ?_⟩))
    (case lo_SY => (first | rfl | decide))
    (case v_SY_le => k_is)
    (case v_SY_and => k_is)
    (case v_SY_or => k_is)
    (case v_SY_not => k_is)
    (case o_SY_day => k_is)
    (case o_SY_num => k_is)
    (case o_SY_on => k_is)
    (case o_SY_by => k_is)
    (case o_SY_til => k_is)
    (case o_SY_add => k_is)
    (case o_SY_late => k_is)
    (case o_SY_soon => k_is)
    (case o_SY_up => k_is)
    (case o_SY_Day => k_is)
    (case o_SY_ => k_is)
    (case o_SY_i => k_is)
    (case o_SY_o => k_is)
    (case o_SY_pq => k_is)
    (case o_SY_ab => k_is)
    (case o_SY_A => k_is)
    (case o_SY_X => k_is)
    (case o_SY_a => k_is)
    (case o_SY_b => k_is)
    (case o_SY_c => k_is)
    (case o_SY_d => k_is)
    (case o_SY_e => k_is)
    (case o_SY_f => k_is)
    (case o_SY_g => k_is)
    (case o_SY_h => k_is)
    (case o_SY_p => k_is)
    (case o_SY_q => k_is)
    (case o_SY_r => k_is)
    (case o_SY_s => k_is)
    (case o_SY_t => k_is)
    (case o_SY_u => k_is)
    (case o_SY_v => k_is)
    (case o_SY_w => k_is)
    (case o_SY_x => k_is)
    (case o_SY_y => k_is)
    (case o_SY_z => k_is)
    (case a_is_day => k_is)
    (case l_is_day => k_is)
    (case c_is_day => k_is)
    (case k_is_day => k_is)
    (case a_is_rule => k_is)
    (case l_is_rule => k_is)
    (case c_is_rule => k_is)
    (case k_is_rule => k_is)
    (case a_is_name => k_is)
    (case l_is_name => k_is)
    (case c_is_name => k_is)
    (case k_is_name => k_is)
    (case a_parts_of => k_is)
    (case l_parts_of => k_is)
    (case c_parts_of => k_is)
    (case k_parts_of => k_is)
    (case a_all_pieces => k_is)
    (case l_all_pieces => k_is)
    (case c_all_pieces => k_is)
    (case k_all_pieces => k_is)
    (case a_is_formula => k_is)
    (case l_is_formula => k_is)
    (case c_is_formula => k_is)
    (case k_is_formula => k_is)
    (case a_is_chain => k_is)
    (case l_is_chain => k_is)
    (case c_is_chain => k_is)
    (case k_is_chain => k_is)
    (case a__is_piece => k_is)
    (case l__is_piece => k_is)
    (case c__is_piece => k_is)
    (case k__is_piece => k_is)
    (case a_is_saying => k_is)
    (case l_is_saying => k_is)
    (case c_is_saying => k_is)
    (case k_is_saying => k_is)
    (case a__is_tuple_of_saying => k_is)
    (case l__is_tuple_of_saying => k_is)
    (case c__is_tuple_of_saying => k_is)
    (case k__is_tuple_of_saying => k_is)
    (case a__law_pot => k_is)
    (case l__law_pot => k_is)
    (case c__law_pot => k_is)
    (case k__law_pot => k_is)
    (case a__law_draw => k_is)
    (case l__law_draw => k_is)
    (case c__law_draw => k_is)
    (case k__law_draw => k_is)
    (case a__law_pick => k_is)
    (case l__law_pick => k_is)
    (case c__law_pick => k_is)
    (case k__law_pick => k_is)
    (case a__law_some => k_is)
    (case l__law_some => k_is)
    (case c__law_some => k_is)
    (case k__law_some => k_is)
    (case a__law_number => k_is)
    (case l__law_number => k_is)
    (case c__law_number => k_is)
    (case k__law_number => k_is)
    (case a__law_formula => k_is)
    (case l__law_formula => k_is)
    (case c__law_formula => k_is)
    (case k__law_formula => k_is)
    (case a__law_saying => k_is)
    (case l__law_saying => k_is)
    (case c__law_saying => k_is)
    (case k__law_saying => k_is)
    (case a__law_odd => k_is)
    (case l__law_odd => k_is)
    (case c__law_odd => k_is)
    (case k__law_odd => k_is)
    (case a__law_spoilt => k_is)
    (case l__law_spoilt => k_is)
    (case c__law_spoilt => k_is)
    (case k__law_spoilt => k_is)
    (case a__law_is_letter => k_is)
    (case l__law_is_letter => k_is)
    (case c__law_is_letter => k_is)
    (case k__law_is_letter => k_is)
    (case a__law_is_integer => k_is)
    (case l__law_is_integer => k_is)
    (case c__law_is_integer => k_is)
    (case k__law_is_integer => k_is)
    (case a__law_is_formula => k_is)
    (case l__law_is_formula => k_is)
    (case c__law_is_formula => k_is)
    (case k__law_is_formula => k_is)
    (case a__law_is_saying => k_is)
    (case l__law_is_saying => k_is)
    (case c__law_is_saying => k_is)
    (case k__law_is_saying => k_is)
    (case a__law_is_single => k_is)
    (case l__law_is_single => k_is)
    (case c__law_is_single => k_is)
    (case k__law_is_single => k_is)
    (case a__law_is_chain => k_is)
    (case l__law_is_chain => k_is)
    (case c__law_is_chain => k_is)
    (case k__law_is_chain => k_is)
    (case a__law_judged => k_is)
    (case l__law_judged => k_is)
    (case c__law_judged => k_is)
    (case k__law_judged => k_is)
    (case a__law_wide => k_is)
    (case l__law_wide => k_is)
    (case c__law_wide => k_is)
    (case k__law_wide => k_is)
    (case a__law_deep => k_is)
    (case l__law_deep => k_is)
    (case c__law_deep => k_is)
    (case k__law_deep => k_is)
    (case a__law_great_right => k_is)
    (case l__law_great_right => k_is)
    (case c__law_great_right => k_is)
    (case k__law_great_right => k_is)
    (case a__law_right => k_is)
    (case l__law_right => k_is)
    (case c__law_right => k_is)
    (case k__law_right => k_is)
    (case a_law => k_is)
    (case l_law => k_is)
    (case c_law => k_is)
    (case k_law => k_is)
    (case b_isinstance => k_is)
    (case b_int => k_is)
    (case b_bool => k_is)
    (case b_list => k_is)
    (case b_tuple => k_is)
    (case b_str => k_is)
    (case b_len => k_is)
    (case b_range => k_is)
    (case b_divmod => k_is)
    (case b_min => k_is)
    (case b_max => k_is)
    (case b_all => k_is)
    (case b_abs => k_is)
    (case b_repr => k_is)
    (case b_sum => k_is)
end
