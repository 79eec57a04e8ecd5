import PyProof.Rows.All
import Wide.All
import OpenK.AllK
import Wide.FinOn
import HandS.ForMost
import HandS.Evl
import HandS.Property
import HandS.Star
import HandS.ClsMeth
import HandS.Defaults
import HandS.MakeKwOnly
import HandS.FStr
import HandS.Conv
import HandS.Gcd
import HandS.IsInst
import HandS.Wide
import PyProof.ReprRoads
import PyProof.ListNew
import PyProof.ListRange
import HandS.Style
import HandS.OwnEq
import HandS.More
import KE.KMathGC
import HandS.Exc
import HandS.ExcInit
import HandS.ExcField
import HandS.Sort
import HandS.ExcOwn
import HandS.WordsExc
import HandS.TupAny
import HandS.Lambda
import HandS.Strs
import HandS.TupSets
import PyProof.Rows.SortShellK
import PyProof.Rows.SortKeyStr
import PyProof.Rows.SortStr
import HandS.Iter
import HandS.Walk
import PyProof.ListStr
import HandS.Ends
import KE.DataMinMax
import HandS.Deep
import KE.GoesEnum
import PySem.Challenge.RW_leadrules_k43_least_days_and_rings_of_bo
set_option Elab.async false
set_option linter.all false
set_option maxRecDepth 100000
section
set_option maxHeartbeats 2000000
namespace G
open PySem PySem.Spec PyProof.Rows L2

/-! ### a def's promise where no repr is running around it -/
structure FnG (P : Program) (w : World) (K : PySem.W.Frag) (mg : Str → Option Value) (base : Heap) (CX : CXT) (k : Nat) (f : Addr) (fd : FuncData) (ps : List Str) (sp : Sp) : Prop where
  len : ∀ vs H Q E, sp vs H Q E → vs.length = ps.length
  run : ∀ (A : Around) (outer : List Env) (s : Shared) (H : Hp) (args : Args) (us : List Value) (vs : List V) (Q : VK) (E : XK), A.guards = some [] → Room k A → Env0 P w K mg base A outer s H → BindsTo s fd args (ps.zip us) → Vals vs us → sp vs H Q E →
    codeAny (model P w) A (.call (.ref f) args) (CR CX outer P w H s Q E) s

theorem fnG_of {CX : CXT} {P : Program} {w : World} {K : PySem.W.Frag} {mg : Str → Option Value} {base : Heap} {k : Nat} {f : Addr} {name qual : Str} {params : Arguments} {body : List Stmt} {scope : Scope} {dV kV doc pm cdv ct oc : Value} {an od : Option Addr}
    {osl : Array (Option Value)} {N ps : List Str} {sp : Sp} (lk : K.lookup f = some ⟨oc, od, .func (PySem.W.fnOf name qual params body scope dV kV doc pm an cdv ct), osl⟩) (hcd : PySem.W.codeIn K cdv qual = true) (S : FnScope N ps scope)
    (len : ∀ vs H Q E, sp vs H Q E → vs.length = ps.length)
    (hbody : ∀ (A : Around) (outer : List Env) (s : Shared) (H : Hp) (vs : List V) (Q : VK) (E : XK), A.guards = some [] → Room k (A.deeper (envOfC qual scope s.heap.objs.size f cdv)) → sp vs H Q E →
      ∃ t, PSs (cxOf CX P w K mg base N qual scope f cdv A outer s H E) body t ∧ t { nx := fun _ H' => Q .non H', rt := Q } (start N vs) H) :
    FnG P w K mg base CX (k + 1) f (PySem.W.fnOf name qual params body scope dV kV doc pm an cdv ct) ps sp := by
  refine ⟨len, fun A outer s H args us vs Q E hgd hr e0 hb r hsp => ?_⟩
  have hl := len _ _ _ _ hsp
  have KX : K.In s.heap := e0.mod.kin.keeps fun b o e => (e0.bs b o e).1
  have lim : s.heap.NoLimit := e0.mod.nolimit.keeps fun b o e => (e0.bs b o e).1
  have hkind : ∀ y ∈ ps.zip us, scope.names.lookup y.1 = some .local ∨ (scope.names.lookup y.1 = some .cell ∧ ((cellsFrom (s.heap.objs.size + 1) scope.names []).lookup y.1).isSome = true) := fun ⟨n, v⟩ hy => by
    rcases S.par n (List.of_mem_zip hy).1 with q | q
    · exact .inl q
    · exact .inr ⟨q, PySem.W.cellsFrom_some _ _ _ (.inl q)⟩
  refine codeAny_call_function hr.depth (KX _ _ lk) rfl S.co S.gen rfl (PySem.W.codeRec_of KX hcd) (hb _ _ _ _ ?_)
  refine wpAny_newFunctionEnv_cells S.kind hkind fun env he s1 x => ?_
  subst he
  refine ⟨lim.keeps x.toInCall.keep, codeAny_func ?_⟩
  obtain ⟨t, ht, hq⟩ := hbody A outer s H vs Q E hgd (hr.deeper _) hsp
  have I : Inv (cxOf CX P w K mg base N qual scope f cdv A outer s H E) [] (start N vs) H s1 := inv_start S hr.hd e0 hl r x
  refine wpAny_mono (ht.run [] s1 (start N vs) H _ I hq) (fun fl s' hs => ?_) fun e s' hs => hs
  have fin : ∀ {σ' : L2.St} {H' : Hp} {v : V} {u : Value}, Inv (cxOf CX P w K mg base N qual scope f cdv A outer s H E) [] σ' H' s' → RelV v u → Q v H' → CE outer P w H s Q u s' :=
    fun {σ' H' v u} J rv q => ⟨v, H', J.os, J.bare, J.base, J.hok, rv, q⟩
  cases fl with
  | ret u =>
    obtain ⟨v, σ', H', J, rv, q⟩ := hs
    exact fin J rv q
  | next =>
    obtain ⟨σ', H', J, q⟩ := hs
    exact fin (v := V.non) (u := Value.none) J rfl q
  | brk =>
    obtain ⟨_, _, _, q⟩ := hs
    exact False.elim q
  | cont =>
    obtain ⟨_, _, _, q⟩ := hs
    exact False.elim q

theorem okG {P : Program} {w : World} {K : PySem.W.Frag} {mg : Str → Option Value} {base : Heap} {x qual : Str} {st : Stmt} {f : Addr} {fd : FuncData} {N ps : List Str} {k : Nat} {sp : Sp} (F : Fun K x qual st f fd) (S : FnScope N ps (defScope st)) (len : ∀ vs H Q E, sp vs H Q E → vs.length = ps.length)
    (hbody : ∀ (cdv : Value) (A : Around) (outer : List Env) (s : Shared) (H : Hp) (vs : List V) (Q : VK) (E : XK), A.guards = some [] → Room k (A.deeper (envOfC qual (defScope st) s.heap.objs.size f cdv)) → sp vs H Q E →
      ∃ t, PSs (cxOf CX0 P w K mg base N qual (defScope st) f cdv A outer s H E).nox (defBody st) t ∧ t { nx := fun _ H' => Q .non H', rt := Q } (start N vs) H) : FnG P w K mg base CX0 (k + 1) f fd ps sp := by
  obtain ⟨oc, od, kV, doc, pm, an, cdv, ct, osl, rfl, lk, hcd⟩ := F.ex
  refine fnG_of lk hcd S len fun A outer s H vs Q E hg hr hsp => ?_
  obtain ⟨t, h, q⟩ := hbody cdv A outer s H vs Q E hg hr hsp
  exact ⟨t, h.nox, q⟩

section
variable {X : Cx} {CX : CXT} {k n : Nat} {f C : Addr} {fd : FuncData} {ps ks : List Str} {sp : Sp} {dvs : List V} {ds : List Value} {E : XK} {x m : Str} {p pos apos : Pos} {e o : Expr} {es : List Expr} {kws : List Keyword} {ta : TE} {t tk : TA} {g : List Value → List Value → List Value} {gV : List V → List V → List V}
theorem run_fnG {pins : List (Addr × Obj)} {σ : L2.St} {H : Hp} {s : Shared} {Q : VK} {us : List Value} {vs : List V} (F : FnG X.prog X.w X.K X.mg X.base CX k f fd ps sp) (hgd : X.A.guards = some []) (hr : Room k X.A) (hb : Binds X.K fd ps ds) (hd : Vals dvs ds) (hx : Passes CX X E)
    (I : Inv X pins σ H s) (r : Vals vs us) (h : sp (vs ++ dvs) H Q E) : wpAny (model X.prog X.w) X.A (call (.ref f) us) (EP X pins σ Q) X.xe s := by
  have r2 : Vals (vs ++ dvs) (us ++ ds) := r.append hd
  have hl : (us ++ ds).length = ps.length := by rw [← r2.length]; exact F.len _ _ _ _ h
  refine wpAny_call (codeAny_mono (F.run X.A X.stack s H ⟨us, []⟩ (us ++ ds) (vs ++ dvs) Q E hgd hr I.env0 (hb s us I.kIn hl) r2 h) fun r s' hq => ?_)
  cases r with
  | error e => exact hx pins σ H s e s' I hq
  | ok fl =>
    cases fl with
    | ret u => exact I.after hq
    | next => exact False.elim hq
    | brk => exact False.elim hq
    | cont => exact False.elim hq
/-- f(e, ..) -/
theorem pe_callG (F : FnG X.prog X.w X.K X.mg X.base CX k f fd ps sp) (hgd : X.A.guards = some []) (hr : Room k X.A) (hg : Gl X x) (hm : X.mg x = some (.ref f)) (hk : PySem.W.keepIn X.K (.ref f) = true) (hb : Binds X.K fd ps ds) (hd : Vals dvs ds) (hx : Passes CX X E)
    (ha : PA X (e :: es) t) (hdb : (x == ("__debug__" : Str)) = false := by decide) (he : starEach (e :: es) X.env = (false, eval e X.env) :: starEach es X.env := by rfl) (hpl : (backTo pos (starEach es X.env)).any (·.1) = false := by rfl) :
    PE X (.Call (.Name x p) (e :: es) [] pos) (tCall sp dvs E t) := by
  refine ⟨fun pins s σ H Q I h => ?_⟩
  refine wpAny_Call_Name_kw (ld_glob I hg hm ?_ hdb)
  refine PySem.W.callWith_K (h₀ := X.base) I.ok.mod.kin hk (thn (ha.run pos pins s σ H _ I h) fun us s1 ⟨vs, H1, I1, r, q⟩ => ⟨I1.kIn, ?_⟩) he hpl
  exact run_fnG F hgd hr hb hd hx I1 r q
/-- o.m(k = v, ..) -/
noncomputable def tMethN (C : Addr) (m : Str) (n j : Nat) (sp : Sp) (gV : List V → List V → List V) (E : XK) (ta : TE) (t tk : TA) : TE := fun σ H Q => ta σ H fun x H1 => ∃ a dx fs, x = .ref a ∧ H1 a = some (.ins C dx fs) ∧ fs.lookup m = none ∧
  t σ H1 fun vs H2 => tk σ H2 fun zs H3 => vs.length = n ∧ zs.length = j ∧ sp (gV (x :: vs) zs) H3 Q E
end

/-! ### repr of data; repr of an own instance; {x} of data -/
mutual
theorem dp_nodict {K : PySem.W.Frag} {H : Hp} : ∀ {d : PyData} {v : V}, Dp K H v d → d.hasDict = false
  | .none, _, _ => by simp [PyData.hasDict]
  | .bool _, _, _ => by simp [PyData.hasDict]
  | .int _, _, _ => by simp [PyData.hasDict]
  | .str _, _, _ => by simp [PyData.hasDict]
  | .list ds, _, h => by
    cases h with
    | lst _ ha => simpa [PyData.hasDict] using dp_nodictAll ha
  | .tuple ds, _, h => by
    cases h with
    | tup _ ha => simpa [PyData.hasDict] using dp_nodictAll ha
  | .dict _, _, h => by cases h
theorem dp_nodictAll {K : PySem.W.Frag} {H : Hp} : ∀ {ds : List PyData} {vs : List V}, DpAll K H vs ds → PyData.hasDictAll ds = false
  | [], _, _ => by simp [PyData.hasDictAll]
  | d :: ds, _, h => by
    cases h with
    | cons h1 h2 => simp [PyData.hasDictAll, dp_nodict h1, dp_nodictAll h2]
end
noncomputable def rRepr (K : PySem.W.Frag) : List V → Hp → VK → Prop := fun xs H Q => ∃ (a : Addr) (d : PyData), xs = [.ref a] ∧ Dp K H (.ref a) d ∧ d.showable = true ∧ d.depth ≤ 60 ∧ d.shown.length ≤ sizeLine ∧ Q (.str d.shown) H
end G
end
section
set_option maxHeartbeats 2000000
namespace G
open PySem PySem.Spec PyProof.Rows L2
section
variable {X : Cx} {CX : CXT} {k : Nat} {f C : Addr} {fd : FuncData} {ps : List Str} {sp : Sp} {E : XK}
noncomputable def rReprO (C : Addr) (sp : Sp) (E : XK) : List V → Hp → VK → Prop := fun xs H Q => ∃ (a dx : Addr) (fs : List (Str × V)), xs = [.ref a] ∧ H a = some (.ins C dx fs) ∧ sp [.ref a] H (fun v H' => (∃ y, v = .str y) ∧ Q v H') E

/-- {x} of data, as a text -/
noncomputable def tFmtD (K : PySem.W.Frag) (te : TE) : TE := fun σ H Q => te σ H fun x H1 => ∃ (a : Addr) (d : PyData), x = .ref a ∧ Dp K H1 (.ref a) d ∧ d.showable = true ∧ d.depth ≤ 60 ∧ d.shown.length ≤ sizeLine ∧ Q (.str d.shown) H1
end
end G
end
section
set_option maxHeartbeats 2000000
namespace G
open PySem PySem.Spec PyProof.Rows L2

/-! ### list(enumerate(xs)) -/
noncomputable def enObj (f0 f1 : Value) (it : Addr) (i : Int) (old : Value) : Obj := { cls := .type "enumerate", dict := none, data := .fields #[f0, f1, .ref it, rawInt i, .none, old], slots := #[] }
noncomputable def IsEn (h : Heap) (e it : Addr) (i : Int) : Prop := ∃ f0 f1 old, h.get? e = some (enObj f0 f1 it i old) ∧ (f0 = .none ∨ ∃ a : Addr, f0 = rawInt a)
section
variable {prog : Program} {w : World} {A : Around} {E : Value → Shared → Prop} {s : Shared}


end
end G
end
section
set_option maxHeartbeats 2000000
namespace G
open PySem PySem.Spec PyProof.Rows L2
namespace F
end F
section
variable {prog : Program} {w : World} {A : Around} {E : Value → Shared → Prop} {s : Shared} {R : Result → Shared → Prop}

/-- the tuples made so far -/
noncomputable def Tups (h : Heap) (acc items : Array Value) (n B : Nat) : Prop := acc.size = n ∧ ∀ j, j < n → ∃ (T : Addr) (tk : Tok) (x : Value), acc[j]? = some (.ref T) ∧ items[j]? = some x ∧ B ≤ T ∧ h.get? T = some { cls := .type "tuple", data := .seq #[.int j tk, x] }


end
end G
end
section
set_option maxHeartbeats 2000000
namespace G
open PySem PySem.Spec PyProof.Rows L2
section
variable {prog : Program} {w : World} {A : Around} {E : Value → Shared → Prop} {s : Shared}
end

open Classical in
/-- what is new: the list at S, a pair for each item -/
noncomputable def enH (H : Hp) (S : Addr) (acc : List Addr) (xs : List V) : Hp := fun b =>
  if b = S then some (.lst (acc.map V.ref)) else if h : ∃ (j : Nat) (x : V), acc[j]? = some b ∧ xs[j]? = some x then some (.tup [.int ((Classical.choose h : Nat) : Int), Classical.choose (Classical.choose_spec h)]) else H b

section
variable {X : Cx}
noncomputable def tListEn (K : PySem.W.Frag) (te : TE) : TE := fun σ H Q => te σ H fun x H1 => ∃ (a : Addr) (xs : List V), x = .ref a ∧ SqL K H1 a xs ∧
  ∀ (l : Addr) (ts : List Addr) (H2 : Hp), H1 l = none → Evl.Ex H1 H2 → H2 l = some (.lst (ts.map V.ref)) → ts.length = xs.length → (∀ (j : Nat) (T : Addr) (x : V), ts[j]? = some T → xs[j]? = some x → H2 T = some (.tup [.int (j : Int), x])) → Q (.ref l) H2
end
end G
end
section
set_option maxHeartbeats 2000000
namespace G
open PySem L2 Evl

/-! ### data at any depth -/
mutual
theorem dp_mono {K : PySem.W.Frag} {H H' : Hp} (e : Ex H H') : ∀ {d : PyData} {v : V}, Dp K H v d → Dp K H' v d
  | .none, _, h => by cases h; exact .non
  | .bool _, _, h => by cases h; exact .bl _
  | .int _, _, h => by cases h; exact .int _
  | .str _, _, h => by cases h; exact .str _
  | .list ds, _, h => by
    cases h with
    | lst hs ha => exact .lst (ex_l e hs) (dp_monoAll e ha)
  | .tuple ds, _, h => by
    cases h with
    | tup hs ha => exact .tup (ex_t e hs) (dp_monoAll e ha)
  | .dict _, _, h => by cases h
theorem dp_monoAll {K : PySem.W.Frag} {H H' : Hp} (e : Ex H H') : ∀ {ds : List PyData} {vs : List V}, DpAll K H vs ds → DpAll K H' vs ds
  | [], _, h => by cases h; exact .nil
  | d :: ds, _, h => by
    cases h with
    | cons h1 h2 => exact .cons (dp_mono e h1) (dp_monoAll e h2)
end
noncomputable def dInts (ns : List Int) : PyData := .list (ns.map PyData.int)

/-! ### what evaluates to data -/
variable {K : PySem.W.Frag} {σ : L2.St} {H H' : Hp} {ta tb te tx : TE} {tt : TT} {x y z v : V} {d : PyData} {ds : List PyData} {p C dx : Addr} {fs : List (Str × V)} {f m : Str} {sp : Sp} {dvs vs : List V} {E : XK} {tA tr tk : TA}
noncomputable def EvD (K : PySem.W.Frag) (te : TE) (σ : L2.St) (H : Hp) (d : PyData) : Prop := ∀ H1, Ex H H1 → ∀ Q : VK, (∀ v H2, Ex H1 H2 → Dp K H2 v d → Q v H2) → te σ H1 Q
noncomputable def EvAD (K : PySem.W.Frag) (ta : TA) (σ : L2.St) (H : Hp) (ds : List PyData) : Prop := ∀ H1, Ex H H1 → ∀ Q : List V → Hp → Prop, (∀ vs H2, Ex H1 H2 → DpAll K H2 vs ds → Q vs H2) → ta σ H1 Q
theorem dp_app {Hx : Hp} : ∀ {as bs : List V} {cs es : List PyData}, DpAll K Hx as cs → DpAll K Hx bs es → DpAll K Hx (as ++ bs) (cs ++ es)
  | _, _, _, _, .nil, h2 => h2
  | _, _, _, _, .cons q1 q2, h2 => .cons q1 (dp_app q2 h2)
theorem dp_repl {Hx : Hp} {as : List V} {cs : List PyData} (h : DpAll K Hx as cs) : ∀ k : Nat, DpAll K Hx (List.replicate k as).flatten (List.replicate k cs).flatten
  | 0 => .nil
  | k + 1 => by
    rw [List.replicate_succ, List.replicate_succ, List.flatten_cons, List.flatten_cons]
    exact dp_app h (dp_repl h k)

/-! ### fields, methods, properties -/
noncomputable def SpD (K : PySem.W.Frag) (sp : Sp) (vs : List V) (H : Hp) (d : PyData) : Prop := ∀ H1, Ex H H1 → ∀ Q : VK, (∀ v H2, Ex H1 H2 → Dp K H2 v d → Q v H2) → ∀ E : XK, sp vs H1 Q E

variable {D : Ends} {tu tw tz : TS}
end G
end
section
set_option maxHeartbeats 2000000
namespace G
open PySem L2 Evl
variable {K : PySem.W.Frag} {σ : L2.St} {H H' : Hp} {ta tb te tx : TE} {tt : TT} {x y z v : V} {p C dx : Addr} {tA tr tk : TA}

/-! ### calls of built-ins, by their answers -/
theorem rc_len {n : Nat} {ys : List V} (h : SqL K H p ys ∨ SqT K H p ys) (hn : ys.length = n) : RC (fun xs H Q => ∃ p ys, xs = [.ref p] ∧ (SqL K H p ys ∨ SqT K H p ys) ∧ Q (.int (ys.length : Int)) H) [.ref p] H (.int (n : Int)) := fun H1 e Q q =>
  ⟨p, ys, rfl, h.imp (ex_l e) (ex_t e), by rw [hn]; exact q H1 (Ex.refl _)⟩
theorem rc_abs {i : Int} : RC (fun xs H Q => ∃ i, xs = [.int i] ∧ Q (.int (if i < 0 then -i else i)) H) [.int i] H (.int (if i < 0 then -i else i)) := fun H1 e Q q => ⟨i, rfl, q H1 (Ex.refl _)⟩
theorem rc_max2 {i j : Int} : RC (fun xs H Q => ∃ i j, xs = [.int i, .int j] ∧ Q (.int (if j > i then j else i)) H) [.int i, .int j] H (.int (if j > i then j else i)) := fun H1 e Q q => ⟨i, j, rfl, q H1 (Ex.refl _)⟩
theorem rc_min2 {i j : Int} : RC (fun xs H Q => ∃ i j, xs = [.int i, .int j] ∧ Q (.int (if j < i then j else i)) H) [.int i, .int j] H (.int (if j < i then j else i)) := fun H1 e Q q => ⟨i, j, rfl, q H1 (Ex.refl _)⟩
theorem rc_sum {ns : List Int} (h : SqL K H p (ns.map V.int)) : RC (rSum K) [.ref p] H (.int ns.sum) := fun H1 e Q q => ⟨p, ns, rfl, ex_l e h, q H1 (Ex.refl _)⟩
theorem rc_all {bs : List Bool} (h : SqL K H p (bs.map V.bl)) : RC (rAll K) [.ref p] H (.bl (bs.all id)) := fun H1 e Q q => ⟨p, bs, rfl, ex_l e h, q H1 (Ex.refl _)⟩
theorem rc_isi {c : V} {t u : Value} {b : Bool} (k : ClsV c u) (ty : ∀ H1, Ex H H1 → TyX K H1 x t) (hb : PySem.W.kitOne K t u = some b) : RC (rIsi K) [x, c] H (.bl b) := fun H1 e Q q => ⟨x, c, t, u, b, rfl, k, ty H1 e, hb, q H1 (Ex.refl _)⟩
/-- a built-in asked of a list that is new -/
theorem ev_cbL {r : List V → Hp → VK → Prop} {xs : List V} (h : EvL ta σ H xs) (hr : ∀ p H1, Ex H H1 → H1 p = some (.lst xs) → RC r [.ref p] H1 z) : Ev (tCB r (tCons ta tNil)) σ H z := fun H1 e Q q =>
  h H1 e _ fun p H2 _ e2 h2 => hr p H2 (e.trans e2) h2 H2 (Ex.refl _) Q fun H3 e3 => q H3 (e2.trans e3)

theorem ev_allT {n : Nat} (h : EvL te σ H (given n (fun _ => true) (fun _ => V.bl true))) : Ev (tCB (rAll K) (tCons te tNil)) σ H (.bl true) := ev_cbL h fun p H1 e h1 => by
  have e1 : given n (fun _ => true) (fun _ => V.bl true) = (List.replicate n true).map V.bl := by
    unfold given
    rw [List.filter_eq_self.mpr (fun _ _ => rfl)]
    apply List.ext_getElem <;> simp
  have := rc_all (K := K) (H := H1) (p := p) (bs := List.replicate n true) (sq_of (by rw [← e1]; exact h1))
  have e2 : (List.replicate n true).all id = true := by simp
  rw [e2] at this
  exact this
theorem lc_yes : EvT tYes σ H true := fun H1 _ _ q => q H1 (Ex.refl _)
section
variable {X : Cx} {e : Expr} {f : Str} {pos : Pos}
theorem ixL (hK : X.K = K) : IxR X (rIxL K) := hK ▸ ix_list
theorem ixT (hK : X.K = K) : IxR X (rIxT K) := hK ▸ ix_tup
theorem lenS (hK : X.K = K) : CallR X (.builtin "len") (fun xs H Q => ∃ p ys, xs = [.ref p] ∧ (SqL K H p ys ∨ SqT K H p ys) ∧ Q (.int (ys.length : Int)) H) := hK ▸ call_len_seq
theorem neD (hK : X.K = K) (hu : X.A.units + 64 < cLine) : OpR X (compareOp .NotEq) (rNeD K) := hK ▸ op_neD hu
theorem sumL (hK : X.K = K) (hc : X.calm = true) : CallR X (.builtin "sum") (rSum K) := hK ▸ cr_sum hc
theorem allL (hK : X.K = K) (hc : X.calm = true) : CallR X (.builtin "all") (rAll K) := hK ▸ cr_all hc
end
theorem eu_divmod {i j : Int} (ha : Ev ta σ H (.int i)) (hb : Ev tb σ H (.int j)) (h0 : 0 < j) (h1 : j < 1073741824) :
    EvU (tCB (fun xs H Q => ∃ i j, xs = [.int i, .int j] ∧ CDiv i j ∧ ∀ p, H p = none → Q (.ref p) (upd H p (.tup [.int (i / j), .int (i % j)]))) (tCons ta (tCons tb tNil))) σ H [.int (i / j), .int (i % j)] := fun H1 e Q q =>
  ha H1 e _ fun H2 e2 => hb H2 (e.trans e2) _ fun H3 e3 => ⟨i, j, rfl, ⟨h0, h1⟩, fun p hp => q p _ (fresh_back (e2.trans e3) hp) ((e2.trans e3).trans (Ex.new hp)) upd_same⟩
theorem q_asgG {D : Ends} {tz : TS} {g : TG} {xs : List V} (h : EvU te σ H xs) (k : ∀ p H1, H p = none → Ex H H1 → H1 p = some (.tup xs) → g (.ref p) σ H1 fun σ' H' => tz D σ' H') : tSeq (tAsg te g) tz D σ H := h H (Ex.refl H) _ fun p H1 hp e h1 => k p H1 hp e h1
/-! ### comprehensions whose target is a pair -/
section
variable {D : Ends} {f : Nat → Bool} {g : Nat → V} {i j : Nat} {vs : List Nat}
/-- what evaluates to a new list of new pairs (number, item) -/
noncomputable def EvR (te : TE) (σ : L2.St) (H : Hp) (xs : List V) : Prop := ∀ H1, Ex H H1 → ∀ Q : VK, (∀ (l : Addr) (ts : List Addr) (H2 : Hp), H1 l = none → Ex H1 H2 → H2 l = some (.lst (ts.map V.ref)) → ts.length = xs.length → (∀ (j : Nat) (T : Addr) (x : V), ts[j]? = some T → xs[j]? = some x → H2 T = some (.tup [.int (j : Int), x])) → Q (.ref l) H2) → te σ H1 Q
noncomputable def SpR (sp : Sp) (vs : List V) (H : Hp) (xs : List V) : Prop := ∀ H1, Ex H H1 → ∀ Q : VK, (∀ (l : Addr) (ts : List Addr) (H2 : Hp), H1 l = none → Ex H1 H2 → H2 l = some (.lst (ts.map V.ref)) → ts.length = xs.length → (∀ (j : Nat) (T : Addr) (x : V), ts[j]? = some T → xs[j]? = some x → H2 T = some (.tup [.int (j : Int), x])) → Q (.ref l) H2) → ∀ E : XK, sp vs H1 Q E
end
end G
end
section
set_option maxHeartbeats 2000000
namespace G
open PySem L2 Evl
/-! ### lists and tuples of pairs of numbers -/
noncomputable abbrev Row := Int × Int
noncomputable def rowV (r : Row) : List V := [.int r.1, .int r.2]
noncomputable def RowsAt (H : Hp) (ts : List Addr) (rs : List Row) : Prop := ts.length = rs.length ∧ ∀ (j : Nat) (T : Addr) (r : Row), ts[j]? = some T → rs[j]? = some r → H T = some (.tup (rowV r))
noncomputable def RowsL (H : Hp) (a : Addr) (rs : List Row) : Prop := ∃ ts : List Addr, H a = some (.lst (ts.map V.ref)) ∧ RowsAt H ts rs
noncomputable def RowsU (H : Hp) (a : Addr) (rs : List Row) : Prop := ∃ ts : List Addr, H a = some (.tup (ts.map V.ref)) ∧ RowsAt H ts rs
variable {K : PySem.W.Frag} {σ : L2.St} {H H' : Hp} {ta tb te tl tx : TE} {tt : TT} {x y z v w : V} {p a q C dx : Addr} {tA tr tk : TA} {ts us : List Addr} {rs ss : List Row} {vs : List Nat} {i j : Nat} {Q : VK} {D : Ends} {tz : TS}
theorem given_rows {f : Row → V} : given rs.length (fun _ => true) (fun k => f (rs.getD k (0, 0))) = rs.map f := by
  unfold given
  rw [List.filter_eq_self.mpr (fun _ _ => rfl)]
  apply List.ext_getElem
  · simp
  · intro k h1 h2
    have hk : k < rs.length := by simpa using h2
    simp [List.getD_eq_getElem?_getD, List.getElem?_eq_getElem hk]

/-! ### what evaluates to a new list of pairs -/
noncomputable def EvP (te : TE) (σ : L2.St) (H : Hp) (rs : List Row) : Prop := ∀ H1, Ex H H1 → ∀ Q : VK, (∀ p H2, H1 p = none → Ex H1 H2 → RowsL H2 p rs → Q (.ref p) H2) → te σ H1 Q
noncomputable def SpP (sp : Sp) (vs : List V) (H : Hp) (rs : List Row) : Prop := ∀ H1, Ex H H1 → ∀ Q : VK, (∀ p H2, H1 p = none → Ex H1 H2 → RowsL H2 p rs → Q (.ref p) H2) → ∀ E : XK, sp vs H1 Q E
/-- tuple(rows) -/
noncomputable def EvPU (te : TE) (σ : L2.St) (H : Hp) (rs : List Row) : Prop := ∀ H1, Ex H H1 → ∀ Q : VK, (∀ p H2, H1 p = none → Ex H1 H2 → RowsU H2 p rs → Q (.ref p) H2) → te σ H1 Q
end G
end
section
set_option maxHeartbeats 2000000
namespace G
open PySem PySem.Spec PyProof.Rows L2 Evl
/-! ### == and != of two instances by the text's own == -/
section
variable {prog : Program} {w : World} {A : Around} {Er : Value → Shared → Prop} {s : Shared} {K : PySem.W.Frag} {x C f : Addr} {ox : Obj} {od : Option Obj} {b : Value}
end
section
variable {X : Cx} {CX : CXT} {k : Nat} {f C : Addr} {fd : FuncData} {ps : List Str} {sp : Sp} {E : XK}
/-- x == y, x != y of two instances of the class at C, by its own == -/
noncomputable def rEqO (C : Addr) (sp : Sp) (E : XK) : R2 := fun x y H Q => ∃ a b dx dy fs gs, x = .ref a ∧ y = .ref b ∧ H a = some (.ins C dx fs) ∧ H b = some (.ins C dy gs) ∧ sp [.ref a, .ref b] H (fun v H' => (∃ c, v = .bl c) ∧ Q v H') E
noncomputable def rNeO (C : Addr) (sp : Sp) (E : XK) : R2 := fun x y H Q => ∃ a b dx dy fs gs, x = .ref a ∧ y = .ref b ∧ H a = some (.ins C dx fs) ∧ H b = some (.ins C dy gs) ∧ sp [.ref a, .ref b] H (fun v H' => ∃ c, v = .bl c ∧ Q (.bl (!c)) H') E
end
end G
end
section
set_option maxHeartbeats 2000000
namespace G
open PySem PySem.Spec PyProof.Rows L2 Evl
section
variable {X : Cx} {CX : CXT} {k j : Nat} {f : Addr} {fd : FuncData} {ps ks : List Str} {sp : Sp} {E : XK} {x : Str} {p pos : Pos} {kws : List Keyword} {tk : TA} {g : List Value → List Value → List Value} {gV : List V → List V → List V}
/-- f(k = v, ..) -/
noncomputable def tCallN0 (j : Nat) (sp : Sp) (gV : List V → List V → List V) (E : XK) (tk : TA) : TE := fun σ H Q => tk σ H fun zs H1 => zs.length = j ∧ sp (gV [] zs) H1 Q E
theorem pe_callN0 (F : FnOk X.prog X.w X.K X.mg X.base CX k f fd ps sp) (hr : Room k X.A) (hg : Gl X x) (hm : X.mg x = some (.ref f)) (hk : PySem.W.keepIn X.K (.ref f) = true) (hb : KBn X.K fd ps 0 ks g gV) (hx : Passes CX X E) (hkw : PK X kws tk)
    (hall : (backToKw pos (keywordEach kws X.env)).all (·.1.isSome) = true := by rfl) (hks : (backToKw pos (keywordEach kws X.env)).filterMap (·.1) = ks := by rfl) (hdb : (x == ("__debug__" : Str)) = false := by decide)
    (hpl : ((backTo pos (starEach [] X.env)).any (·.1) || (backToKw pos (keywordEach kws X.env)).any (·.1.isNone)) = false := by rfl) : PE X (.Call (.Name x p) [] kws pos) (tCallN0 ks.length sp gV E tk) := by
  refine ⟨fun pins s σ H Q I h => wpAny_Call_Name_kw (ld_glob I hg hm ?_ hdb)⟩
  refine PySem.W.callWith_KW0 (first := []) (h₀ := X.base) I.ok.mod.kin hk hall ?_ hpl
  refine thn (hkw.run pos pins s σ H _ I h) fun ws s1 ⟨zs, H1, I1, rz, l1, q1⟩ => ⟨I1.kIn, ?_⟩
  rw [hks]
  exact run_fnN (us := []) (vs := []) F hr hb hx I1 .nil rz rfl l1 q1
end
section
variable {X : Cx} {K : PySem.W.Frag} {tg e : Expr} {te : TE}
theorem piL (hK : X.K = K) (h : PE X e te) : PI X tg e (iList K te) := hK ▸ pi_list h
theorem piT (hK : X.K = K) (h : PE X e te) : PI X tg e (iTup K te) := hK ▸ pi_tup h
end
/-- lcm(a, b) -/
noncomputable def rLcm : List V → Hp → VK → Prop := fun vs H Q => ∃ a b : Int, vs = [.int a, .int b] ∧ a.natAbs < 18446744073709551616 ∧ b.natAbs < 18446744073709551616 ∧ Q (.int ((Nat.lcm a.natAbs b.natAbs : Nat) : Int)) H
variable {K : PySem.W.Frag} {σ : L2.St} {H H' : Hp} {ta tb te tl tx tc : TE} {tt : TT} {x y z v w : V} {p a q C dx : Addr} {tA tr tk : TA} {rs ss : List Row} {vs : List Nat} {i j : Nat} {Q : VK} {E : XK} {D : Ends} {tz : TS} {d : PyData} {ds : List PyData} {sp : Sp} {ws zs : List V} {gV : List V → List V → List V} {xs : List V}
theorem ev_callN0 {n : Nat} (h : EvA tk σ H zs) (hn : zs.length = n) (hs : SpV sp (gV [] zs) H z) : Ev (tCallN0 n sp gV E tk) σ H z := fun H1 e Q q => h H1 e _ fun H2 e2 => ⟨hn, hs H2 (e.trans e2) Q (fun H3 e3 => q H3 (e2.trans e3)) E⟩
theorem rv_isN : RV (fun x y H Q => y = .non ∧ Q (.bl (decide (x = .non))) H) x .non H (.bl (decide (x = .non))) := fun H1 _ Q q => ⟨rfl, q H1 (Ex.refl _)⟩
theorem rv_notN : RV (fun x y H Q => y = .non ∧ Q (.bl (!decide (x = .non))) H) x .non H (.bl (!decide (x = .non))) := fun H1 _ Q q => ⟨rfl, q H1 (Ex.refl _)⟩
/-! ### a new instance, as a value -/
/-- what evaluates to an instance of the class at C of which M tells -/
noncomputable def EvM (te : TE) (σ : L2.St) (H : Hp) (M : Hp → Addr → Prop) : Prop := ∀ H1, Ex H H1 → ∀ Q : VK, (∀ p H2, H1 p = none → Ex H1 H2 → M H2 p → Q (.ref p) H2) → te σ H1 Q
noncomputable def SpM (sp : Sp) (vs : List V) (H : Hp) (M : Hp → Addr → Prop) : Prop := ∀ H1, Ex H H1 → ∀ Q : VK, (∀ p H2, H1 p = none → Ex H1 H2 → M H2 p → Q (.ref p) H2) → ∀ E : XK, sp vs H1 Q E
/-! ### data, once more -/
noncomputable def dRow (r : Row) : PyData := .tuple [.int r.1, .int r.2]
noncomputable def dRows (rs : List Row) : PyData := .list (rs.map dRow)
theorem evd_neD {d e : PyData} (ha : EvD K ta σ H d) (hb : EvD K tb σ H e) (h1 : SeqAt.shaped d = true) (h2 : SeqAt.shaped e = true) : Ev (tOp (rNeD K) ta tb) σ H (.bl (!PyData.eqv d e)) := fun H1 e1 Q q =>
  ha H1 e1 _ fun v H2 e2 hv => hb H2 (e1.trans e2) _ fun u H3 e3 hu => ⟨_, _, dp_mono e3 hv, hu, h1, h2, q H3 (e2.trans e3)⟩
end G
end
section
set_option maxHeartbeats 4000000
/-! own errors over any built-in one -/
namespace G
open PySem PySem.W PySem.Calls PyProof.Rows PySem.HandSPX PySem.OEX
section
open Builtin Builtin.ObjectAttr
structure Tail (tl : List Value) : Prop where
  pass : ∀ self, refuseLoop self "__setattr__" tl = pure ()
  ne : tl.isEmpty = false
  ob : tl.contains (.type "object") = true
noncomputable def Over (tl bm : List Value) : Prop := ∃ cs : List Addr, bm = cs.map Value.ref ++ tl
variable {prog : Program} {w : World} {A : Around} {R : Result → Shared → Prop} {hp : Heap} {g : Array GenState} {d : Drawn} {t : Nat} {os : OsState} {K : Frag} {name : Str} {tk : Tok} {v : Value} {x C dx : Addr} {fv : Array Value} {cd : ClassData} {m0 : Str → Option Value} {nl : List Str} {tl : List Value} {od : Option Addr} {oo : Option Obj}
end
end G
namespace G
open PySem PySem.Spec PyProof.Rows L2 Evl
/-- an own error's class, over the built-in error B -/
structure Own (K : PySem.W.Frag) (B newId initId : String) (tl : List Value) (C : Addr) : Prop where
  base : ExcBaseFacts B newId initId tl
  tail : Tail tl
  cls : ∃ nm q N bs bm sn sub ab col dd k0 k1 k2 k3 k5, K.lookup C = some (excClassObj nm q C N bs bm true sn sub ab col dd k0 k1 k2 k3 k5 newId) ∧ Over tl bm
  sa : PySem.W.findIn K (.ref C) "__setattr__" = some (some (.builtin "object.__setattr__"))
  exC : PySem.W.subIn K (.ref C) (.type "BaseException") = some true
  tyC : PySem.W.typeIn K (.ref C) = some (.type "type")
  kC : PySem.W.keepIn K (.ref C) = true
section
variable {X : Cx} {pins : List (Addr × Obj)} {σ : L2.St} {H : Hp} {s : Shared} {a C dx : Addr} {f : Str} {y : V} {u : Value} {fs : List (Str × V)} {Q : Unit → Shared → Prop} {Er : Value → Shared → Prop} {A : Around} {B newId initId : String} {tl : List Value}
end
/-- self.f = e in an own error's __init__ -/
noncomputable def tOwn (K : PySem.W.Frag) (f : Str) (to te : TE) : TS := fun D σ H => te σ H fun y H1 => to σ H1 fun x H2 => ∃ (a C : Addr) (B newId initId : String) (tl : List Value), x = .ref a ∧ Own K B newId initId tl C ∧ PySem.W.findIn K (.ref C) f = some none ∧
  ((H2 a = some (exo a C none) ∧ ∀ dx, H2 dx = none → dx ≠ a → D.nx σ (upd (upd H2 dx (exd dx [(f, y)])) a (exo a C (some dx)))) ∨
    ∃ (dx : Addr) (fs : List (Str × V)), H2 a = some (exo a C (some dx)) ∧ H2 dx = some (exd dx fs) ∧ fs.length ≤ 900 ∧ D.nx σ (upd H2 dx (exd dx ((f, y) :: fs))))
section
variable {X : Cx} {o e : Expr} {es : List Expr} {to te : TE} {ta : TA} {f : Str} {p p' pos : Pos} {B newId initId : String} {tl : List Value}
end
end G
end
section
set_option maxHeartbeats 2000000
namespace G
open PySem PySem.Spec PyProof.Rows L2 Evl
/-! ### ranges that have a name -/
noncomputable def iRgV (te : TE) : TI := fun σ H R => te σ H fun x H1 => ∃ (p : Addr) (j : Int), x = .ref p ∧ H1 p = some (.rng 0 j) ∧ -(2 ^ 62) ≤ j ∧ j < 2 ^ 62 ∧ R (Itr 0 j.toNat) H1
variable {K : PySem.W.Frag} {σ : L2.St} {H : Hp} {tl te ta : TE} {p : Addr} {n : Nat} {j i : Nat} {vs : List Nat} {D : Ends} {tz : TS} {tA : TA} {z0 : Int}
/-! ### calls of a def that a name holds -/
section
variable {X : Cx} {CX : CXT} {k : Nat} {sp : Sp} {E : L2.St → XK} {pos : Pos} {fe e : Expr} {es : List Expr} {tf : TE} {t : TA}
noncomputable def tCallV (S : Addr → Prop) (sp : Sp) (E : L2.St → XK) (tf : TE) (t : TA) : TE := fun σ H Q => tf σ H fun x H1 => ∃ f, x = .ref f ∧ S f ∧ t σ H1 fun vs H2 => sp vs H2 Q (E σ)
end
end G
end
section
set_option maxHeartbeats 2000000
namespace G
open PySem L2 Evl
/-! ### data that stand apart from what else changes: B the heap whose data may be shared, H1 the heap ahead -/
noncomputable def Sep (B H1 H2 : Hp) : Hp := fun b => if H1 b = none ∨ (B b).isSome = true then H2 b else none
section
variable {B B' H H' H1 H2 H3 : Hp} {b : Addr} {o : HO}
end
variable {K : PySem.W.Frag} {σ : L2.St} {B H H' : Hp} {ta tb te tx tl : TE} {tt : TT} {x y z v : V} {d d' : PyData} {ds es : List PyData} {p C dx a : Addr} {fs : List (Str × V)} {f m : Str} {sp : Sp} {dvs vs xs : List V} {E : XK} {tA tr tk : TA} {js : List Nat} {j i : Nat} {D : Ends} {tz : TS}
/-- what evaluates to data, B the heap whose data may be shared (a part of H) -/
noncomputable def EvN (K : PySem.W.Frag) (B : Hp) (te : TE) (σ : L2.St) (H : Hp) (d : PyData) : Prop := ∀ H1, Ex H H1 → ∀ Q : VK, (∀ v H2, Ex H1 H2 → Dp K (Sep B H1 H2) v d → Q v H2) → te σ H1 Q
noncomputable def EvAN (K : PySem.W.Frag) (B : Hp) (ta : TA) (σ : L2.St) (H : Hp) (ds : List PyData) : Prop := ∀ H1, Ex H H1 → ∀ Q : List V → Hp → Prop, (∀ vs H2, Ex H1 H2 → DpAll K (Sep B H1 H2) vs ds → Q vs H2) → ta σ H1 Q
/-- the promise's end: data -/
noncomputable def RetN (K : PySem.W.Frag) (B : Hp) (d : PyData) (H : Hp) (Q : VK) : Prop := ∀ v H2, Ex H H2 → Dp K (Sep B H H2) v d → Q v H2
noncomputable def SpN (K : PySem.W.Frag) (B : Hp) (sp : Sp) (vs : List V) (H : Hp) (d : PyData) : Prop := ∀ H1, Ex H H1 → ∀ Q : VK, RetN K B d H1 Q → ∀ E : XK, sp vs H1 Q E
/-- a def that is given data: its promise holds for whatever heap the data stand in -/
noncomputable def SpF (K : PySem.W.Frag) (sp : Sp) (ds : List PyData) (d : PyData) : Prop := ∀ (B H : Hp) (vs : List V), Ex B H → DpAll K B vs ds → ∀ Q : VK, RetN K B d H Q → ∀ E : XK, sp vs H Q E
end G
end
section
set_option maxHeartbeats 2000000
/-! list.extend of a tuple, t[::-1] of a tuple -/
namespace SX
open PySem PySem.Spec PyProof.Rows L2
open AutoSeq1 (wpAny_loadPart' idx_int)
open MeetsSeq MeetsSeq2 MeetsSeq3 SeqRoads2
noncomputable def rExtT (K : PySem.W.Frag) : V → List V → Hp → VK → Prop := fun x vs H Q => ∃ l b xs zs, x = .ref l ∧ vs = [.ref b] ∧ H l = some (.lst xs) ∧ SqT K H b zs ∧ xs.length + zs.length ≤ sizeLine ∧ Q .non (upd H l (.lst (xs ++ zs)))
section
variable {prog : Program} {w : World} {A : Around} {E : Value → Shared → Prop} {s : Shared}
end
noncomputable def tRevT (K : PySem.W.Frag) (te : TE) : TE := fun σ H Q => te σ H fun x H1 => ∃ a xs, x = .ref a ∧ SqT K H1 a xs ∧ ∀ p, H1 p = none → Q (.ref p) (upd H1 p (.tup xs.reverse))
end SX
end
section
namespace TM
/-! the mathematics of lists of days -/
noncomputable def onL (ns : List Int) (x : Int) : Int := ns.getD (x % (ns.length : Int)).toNat 0 + x / (ns.length : Int) * (ns.length : Int)
structure Good (ns : List Int) : Prop where
  pos : 1 ≤ ns.length
  most : ns.length ≤ 600
  up : ∀ i j : Nat, i ≤ j → j < ns.length → ns.getD i 0 ≤ ns.getD j 0
  span : ns.getD (ns.length - 1) 0 - ns.getD 0 0 ≤ (ns.length : Int)
section
variable {ns : List Int} (g : Good ns)
include g
end
/-- m is the first day with which y is served -/
noncomputable def IsBy (ns : List Int) (y m : Int) : Prop := y ≤ onL ns m ∧ onL ns (m - 1) < y
/-- so many of ns, from the left, are below d -/
noncomputable def IsCnt (ns : List Int) (d : Int) (c : Nat) : Prop := c ≤ ns.length ∧ (∀ i, i < c → ns.getD i 0 < d) ∧ ∀ i, c ≤ i → i < ns.length → d ≤ ns.getD i 0
open Classical in
noncomputable def byL (ns : List Int) (y : Int) : Int := if h : ∃ m, IsBy ns y m then Classical.choose h else 0
end TM
end
section
namespace TM
/-! the mathematics of rules through rows -/
noncomputable def IsMinL (l : List Int) (m : Int) : Prop := m ∈ l ∧ ∀ y, y ∈ l → m ≤ y
noncomputable def IsMaxL (l : List Int) (m : Int) : Prop := m ∈ l ∧ ∀ y, y ∈ l → y ≤ m
open Classical in
noncomputable def mxI (l : List Int) : Int := if h : ∃ m, IsMaxL l m then Classical.choose h else 0
open Classical in
noncomputable def mnI (l : List Int) : Int := if h : ∃ m, IsMinL l m then Classical.choose h else 0
noncomputable def early (L : Int) (r : Int × Int) (d : Int) : Int := r.2 + (d - r.1) / L * L
noncomputable def late (L : Int) (r : Int × Int) (d : Int) : Int := r.2 - (r.1 - d) / L * L
section
variable {L : Int} (hL : 0 < L)
include hL
omit hL in
omit hL in
omit hL in
end
noncomputable def earT (L : Int) (rs : List (Int × Int)) (d : Int) : Int := mxI (rs.map fun r => early L r d)
noncomputable def latT (L : Int) (rs : List (Int × Int)) (d : Int) : Int := mnI (rs.map fun r => late L r d)
section
variable {L : Int} {rs ss : List (Int × Int)} (h0 : rs ≠ [])
include h0
end
noncomputable def keptB (L : Int) (rs : List (Int × Int)) : Bool := rs.all fun r => rs.all fun o => decide (early L r o.1 ≤ o.2)
/-- the list of a rule's first days -/
noncomputable def listF (n : Nat) (f : Int → Int) : List Int := (List.range n).map fun (i : Nat) => f (i : Int)
section
variable {n : Nat} {f : Int → Int} (h1 : 1 ≤ n) (h2 : n ≤ 600) (hm : ∀ d e : Int, d ≤ e → f d ≤ f e) (hp : ∀ d : Int, f (d + (n : Int)) = f d + (n : Int))
include h1 h2 hm hp
omit h1 h2 hm in
end
/-- rows of a rule -/
noncomputable def Reads (ns : List Int) (rs : List (Int × Int)) : Prop := ∀ r, r ∈ rs → onL ns r.1 = r.2
noncomputable def endRows (ns : List Int) (first : Int) : List (Int × Int) := (List.range ns.length).map fun (i : Nat) => (first + (i : Int), onL ns (first + (i : Int)))
end TM
end
section
namespace TM
/-! the mathematics of two rules -/
noncomputable def Per (f : Int → Int) (n : Int) : Prop := ∀ x, f (x + n) = f x + n
noncomputable def Mono (f : Int → Int) : Prop := ∀ d e : Int, d ≤ e → f d ≤ f e
noncomputable def tilL (ns : List Int) (y : Int) : Int := byL ns (y + 1) - 1
/-- a rule told by a map with a period -/
structure Rule (n : Nat) (f : Int → Int) : Prop where
  pos : 1 ≤ n
  most : n ≤ 600
  mono : Mono f
  per : Per f (n : Int)
/-- the least length of a rule -/
structure Least (ns : List Int) (d : Nat) : Prop where
  pos : 1 ≤ d
  dvd : d ∣ ns.length
  per : Per (onL ns) (d : Int)
  min : ∀ e : Nat, 1 ≤ e → e ∣ ns.length → Per (onL ns) (e : Int) → d ≤ e
/-! behind, later, sooner and what is asked back -/
section
variable {ns ms : List Int} (g : Good ns) (k : Good ms) {L : Nat} (h1 : 1 ≤ L) (h2 : L ≤ 600) (hn : ns.length ∣ L) (hm : ms.length ∣ L)
include g k h1 h2 hn hm
end
end TM
end
section
set_option maxHeartbeats 2000000
namespace G
open PySem
mutual
noncomputable def bnd : PyData → Nat
  | .none => 4
  | .bool _ => 5
  | .int _ => 22
  | .str _ => 100000000
  | .list xs => bndAll xs + 2
  | .tuple xs => bndAll xs + 4
  | .dict _ => 100000000
noncomputable def bndAll : List PyData → Nat
  | [] => 0
  | x :: xs => bnd x + 2 + bndAll xs
end
mutual
noncomputable def smallD : PyData → Bool
  | .none => true
  | .bool _ => true
  | .int i => decide (i.natAbs < 10 ^ 20)
  | .str _ => false
  | .list xs => smallAll xs
  | .tuple xs => smallAll xs
  | .dict _ => false
noncomputable def smallAll : List PyData → Bool
  | [] => true
  | x :: xs => smallD x && smallAll xs
end
end G
end
section
set_option maxHeartbeats 2000000
namespace K43
open PySem L2
noncomputable def top (i : Nat) : Stmt := PySem.Challenge.pw_leadrules_k43_least_days_and_rings_of_bo.main.body.getD i (.Pass ⟨0, 0, 0, 0⟩)
noncomputable abbrev s_is_day : Stmt := (top 1)
theorem sc_is_day : FnScope ["value"] ["value"] (defScope s_is_day) := ⟨rfl, rfl, rfl, by decide +kernel, rfl, by decide +kernel, by decide +kernel⟩
noncomputable abbrev s_is_count : Stmt := (top 2)
theorem sc_is_count : FnScope ["value"] ["value"] (defScope s_is_count) := ⟨rfl, rfl, rfl, by decide +kernel, rfl, by decide +kernel, by decide +kernel⟩
noncomputable abbrev s_need_length : Stmt := (top 8)
theorem sc_need_length : FnScope ["value"] ["value"] (defScope s_need_length) := ⟨rfl, rfl, rfl, by decide +kernel, rfl, by decide +kernel, by decide +kernel⟩
noncomputable abbrev s_is_list : Stmt := (top 9)
theorem sc_is_list : FnScope ["value"] ["value"] (defScope s_is_list) := ⟨rfl, rfl, rfl, by decide +kernel, rfl, by decide +kernel, by decide +kernel⟩
noncomputable abbrev s_least_days : Stmt := (top 11)
theorem sc_least_days : FnScope ["many", "bounds", "days", "_", "late", "day"] ["many", "bounds"] (defScope s_least_days) := ⟨rfl, rfl, rfl, by decide +kernel, rfl, by decide +kernel, by decide +kernel⟩
noncomputable abbrev s_are_kept : Stmt := (top 12)
theorem sc_are_kept : FnScope ["bounds", "value", "day", "bound"] ["bounds", "value"] (defScope s_are_kept) := ⟨rfl, rfl, rfl, by decide +kernel, rfl, by decide +kernel, by decide +kernel⟩
noncomputable abbrev s_all_kept : Stmt := (top 13)
theorem sc_all_kept : FnScope ["bounds", "days", "first", "second", "most"] ["bounds", "days"] (defScope s_all_kept) := ⟨rfl, rfl, rfl, by decide +kernel, rfl, by decide +kernel, by decide +kernel⟩
noncomputable abbrev s_ring_of : Stmt := (top 14)
theorem sc_ring_of : FnScope ["many", "bounds", "_", "causes", "day", "ring"] ["many", "bounds"] (defScope s_ring_of) := ⟨rfl, rfl, rfl, by decide +kernel, rfl, by decide +kernel, by decide +kernel⟩
noncomputable abbrev s_is_ring : Stmt := (top 15)
theorem sc_is_ring : FnScope ["bounds", "value", "bound"] ["bounds", "value"] (defScope s_is_ring) := ⟨rfl, rfl, rfl, by decide +kernel, rfl, by decide +kernel, by decide +kernel⟩
noncomputable abbrev s_has_ring_form : Stmt := (top 16)
theorem sc_has_ring_form : FnScope ["value", "joined", "place", "bound"] ["value"] (defScope s_has_ring_form) := ⟨rfl, rfl, rfl, by decide +kernel, rfl, by decide +kernel, by decide +kernel⟩
noncomputable abbrev s_are_bounds : Stmt := (top 17)
theorem sc_are_bounds : FnScope ["value", "bound"] ["value"] (defScope s_are_bounds) := ⟨rfl, rfl, rfl, by decide +kernel, rfl, by decide +kernel, by decide +kernel⟩
noncomputable abbrev s__is_bound : Stmt := (top 18)
theorem sc__is_bound : FnScope ["value"] ["value"] (defScope s__is_bound) := ⟨rfl, rfl, rfl, by decide +kernel, rfl, by decide +kernel, by decide +kernel⟩
noncomputable abbrev s__need_bounds : Stmt := (top 19)
theorem sc__need_bounds : FnScope ["value"] ["value"] (defScope s__need_bounds) := ⟨rfl, rfl, rfl, by decide +kernel, rfl, by decide +kernel, by decide +kernel⟩
noncomputable abbrev s__need_bounds_below : Stmt := (top 20)
theorem sc__need_bounds_below : FnScope ["many", "value", "bound"] ["many", "value"] (defScope s__need_bounds_below) := ⟨rfl, rfl, rfl, by decide +kernel, rfl, by decide +kernel, by decide +kernel⟩
noncomputable abbrev s__raised_days : Stmt := (top 21)
theorem sc__raised_days : FnScope ["many", "bounds", "days", "causes", "_", "raised", "bound", "first", "second", "most"] ["many", "bounds"] (defScope s__raised_days) := ⟨rfl, rfl, rfl, by decide +kernel, rfl, by decide +kernel, by decide +kernel⟩
noncomputable abbrev s__law_pot : Stmt := (top 23)
theorem sc__law_pot : FnScope ["_law_script", "_law_k", "_law_cell"] ["_law_script", "_law_k"] (defScope s__law_pot) := ⟨rfl, rfl, rfl, by decide +kernel, rfl, by decide +kernel, by decide +kernel⟩
noncomputable abbrev s__law_draw : Stmt := (top 24)
theorem sc__law_draw : FnScope ["_law_pot_here", "_law_many", "_law_digit"] ["_law_pot_here", "_law_many"] (defScope s__law_draw) := ⟨rfl, rfl, rfl, by decide +kernel, rfl, by decide +kernel, by decide +kernel⟩
noncomputable abbrev s__law_pick : Stmt := (top 25)
theorem sc__law_pick : FnScope ["_law_pot_here", "_law_some"] ["_law_pot_here", "_law_some"] (defScope s__law_pick) := ⟨rfl, rfl, rfl, by decide +kernel, rfl, by decide +kernel, by decide +kernel⟩
noncomputable abbrev s__law_is_int : Stmt := (top 26)
theorem sc__law_is_int : FnScope ["_law_value"] ["_law_value"] (defScope s__law_is_int) := ⟨rfl, rfl, rfl, by decide +kernel, rfl, by decide +kernel, by decide +kernel⟩
noncomputable abbrev s__law_bounds : Stmt := (top 27)
theorem sc__law_bounds : FnScope ["_law_pot_here", "_law_many", "_law_days", "_law_scale", "_law_found", "_law_turn", "_law_one", "_law_other", "_law_most", "_law_k"] ["_law_pot_here", "_law_many"] (defScope s__law_bounds) := ⟨rfl, rfl, rfl, by decide +kernel, rfl, by decide +kernel, by decide +kernel⟩
noncomputable abbrev s__law_least : Stmt := (top 28)
theorem sc__law_least : FnScope ["_law_many", "_law_bounds_here", "_law_days", "_law_turn", "_law_is_moved", "_law_one", "_law_other", "_law_most", "_law_day"] ["_law_many", "_law_bounds_here"] (defScope s__law_least) := ⟨rfl, rfl, rfl, by decide +kernel, rfl, by decide +kernel, by decide +kernel⟩
noncomputable abbrev s__law_are_days : Stmt := (top 29)
theorem sc__law_are_days : FnScope ["_law_bounds_here", "_law_value", "_law_one", "_law_other", "_law_most"] ["_law_bounds_here", "_law_value"] (defScope s__law_are_days) := ⟨rfl, rfl, rfl, by decide +kernel, rfl, by decide +kernel, by decide +kernel⟩
noncomputable abbrev s__law_is_ring : Stmt := (top 30)
theorem sc__law_is_ring : FnScope ["_law_bounds_here", "_law_value", "_law_one", "_law_turned", "_law_part", "_law_next_one"] ["_law_bounds_here", "_law_value"] (defScope s__law_is_ring) := ⟨rfl, rfl, rfl, by decide +kernel, rfl, by decide +kernel, by decide +kernel⟩
noncomputable abbrev s__law_bent : Stmt := (top 31)
theorem sc__law_bent : FnScope ["_law_pot_here", "_law_value", "_law_bounds_here", "_law_rows", "_law_spot", "_law_odd", "_law_some", "_law_one"] ["_law_pot_here", "_law_value", "_law_bounds_here"] (defScope s__law_bent) := ⟨rfl, rfl, rfl, by decide +kernel, rfl, by decide +kernel, by decide +kernel⟩
noncomputable abbrev s__law_bounds_right : Stmt := (top 32)
theorem sc__law_bounds_right : FnScope ["_law_pot_here", "_law_many", "_law_bounds_here", "_law_least_here", "_law_shown", "_law_given", "_law_told", "_law_things", "_law_thing", "_law_kept", "_law_some", "_law_turn"] ["_law_pot_here", "_law_many", "_law_bounds_here"] (defScope s__law_bounds_right) := ⟨rfl, rfl, rfl, by decide +kernel, rfl, by decide +kernel, by decide +kernel⟩
noncomputable abbrev s__law_told_right : Stmt := (top 33)
theorem sc__law_told_right : FnScope ["_law_chain", "_law_ring", "_law_day"] [] (defScope s__law_told_right) := ⟨rfl, rfl, rfl, by decide +kernel, rfl, by decide +kernel, by decide +kernel⟩
noncomputable abbrev s__law_right : Stmt := (top 34)
theorem sc__law_right : FnScope ["_law_pot_here", "_law_turn", "_law_many"] ["_law_pot_here"] (defScope s__law_right) := ⟨rfl, rfl, rfl, by decide +kernel, rfl, by decide +kernel, by decide +kernel⟩
noncomputable abbrev s_law : Stmt := (top 35)
theorem sc_law : FnScope ["_law_script", "_law_k"] ["_law_script"] (defScope s_law) := ⟨rfl, rfl, rfl, by decide +kernel, rfl, by decide +kernel, by decide +kernel⟩
end K43
end
section
set_option maxHeartbeats 4000000
namespace OW
open PySem PySem.Spec PyProof.Rows L2 Evl G
/-! ### data with dicts of texts and numbers in it -/
noncomputable def kvV (kvs : List (Str × Int)) : List (Key × V) := kvs.map fun p => (Sum.inr p.1, V.int p.2)
noncomputable def kvD (kvs : List (Str × Int)) : List (PyData × PyData) := kvs.map fun p => (PyData.str p.1, PyData.int p.2)
mutual
/-- v is the data d -/
inductive Dq (H : Hp) : V → PyData → Prop
  | non : Dq H .non .none
  | bl (b : Bool) : Dq H (.bl b) (.bool b)
  | int (i : Int) : Dq H (.int i) (.int i)
  | str (x : Str) : Dq H (.str x) (.str x)
  | lst {a : Addr} {xs : List V} {ds : List PyData} : H a = some (.lst xs) → DqAll H xs ds → Dq H (.ref a) (.list ds)
  | tup {a : Addr} {xs : List V} {ds : List PyData} : H a = some (.tup xs) → DqAll H xs ds → Dq H (.ref a) (.tuple ds)
  | dct {a : Addr} (kvs : List (Str × Int)) : H a = some (.dK (kvV kvs)) → Dq H (.ref a) (.dict (kvD kvs))
inductive DqAll (H : Hp) : List V → List PyData → Prop
  | nil : DqAll H [] []
  | cons {v : V} {vs : List V} {d : PyData} {ds : List PyData} : Dq H v d → DqAll H vs ds → DqAll H (v :: vs) (d :: ds)
end
mutual
theorem dq_mono {H H' : Hp} (e : Ex H H') : ∀ (d : PyData) {v : V}, Dq H v d → Dq H' v d
  | .none, _, h => by cases h; exact .non
  | .bool _, _, h => by cases h; exact .bl _
  | .int _, _, h => by cases h; exact .int _
  | .str _, _, h => by cases h; exact .str _
  | .list ds, _, h => by cases h with | lst a k => exact .lst (e _ _ a) (dqAll_mono e ds k)
  | .tuple ds, _, h => by cases h with | tup a k => exact .tup (e _ _ a) (dqAll_mono e ds k)
  | .dict kvs, _, h => by
    generalize hd : PyData.dict kvs = d at h
    cases h with
    | dct kv a => exact .dct kv (e _ _ a)
    | _ => cases hd
theorem dqAll_mono {H H' : Hp} (e : Ex H H') : ∀ (ds : List PyData) {vs : List V}, DqAll H vs ds → DqAll H' vs ds
  | [], _, h => by cases h; exact .nil
  | d :: ds, _, h => by cases h with | cons a k => exact .cons (dq_mono e d a) (dqAll_mono e ds k)
end
theorem Dq.mono {H H' : Hp} {v : V} {d : PyData} (h : Dq H v d) (e : Ex H H') : Dq H' v d := dq_mono e d h
theorem DqAll.mono {H H' : Hp} {vs : List V} {ds : List PyData} (h : DqAll H vs ds) (e : Ex H H') : DqAll H' vs ds := dqAll_mono e ds h
theorem DqAll.len {H : Hp} {vs : List V} {ds : List PyData} (h : DqAll H vs ds) : vs.length = ds.length := by
  induction vs generalizing ds with
  | nil => cases h; rfl
  | cons v vs ih => cases h with | cons a k => simp [ih k]
theorem DqAll.app {H : Hp} {vs us : List V} {ds es : List PyData} (h : DqAll H vs ds) (k : DqAll H us es) : DqAll H (vs ++ us) (ds ++ es) := by
  induction vs generalizing ds with
  | nil => cases h; exact k
  | cons v vs ih => cases h with | cons a t => exact .cons a (ih t)
theorem DqAll.get {H : Hp} {vs : List V} {ds : List PyData} (h : DqAll H vs ds) {i : Nat} {v : V} (hv : vs[i]? = some v) : ∃ d, ds[i]? = some d ∧ Dq H v d := by
  induction vs generalizing ds i with
  | nil => cases hv
  | cons u vs ih =>
    cases h with
    | cons a t =>
      cases i with
      | zero => cases hv; exact ⟨_, rfl, a⟩
      | succ i => exact ih t hv
theorem DqAll.take {H : Hp} {vs : List V} {ds : List PyData} (h : DqAll H vs ds) (n : Nat) : DqAll H (vs.take n) (ds.take n) := by
  induction vs generalizing ds n with
  | nil => cases h; simp; exact .nil
  | cons v vs ih =>
    cases h with
    | cons a t =>
      cases n with
      | zero => exact .nil
      | succ n => exact .cons a (ih t n)
theorem DqAll.drop {H : Hp} {vs : List V} {ds : List PyData} (h : DqAll H vs ds) (n : Nat) : DqAll H (vs.drop n) (ds.drop n) := by
  induction vs generalizing ds n with
  | nil => cases h; simp; exact .nil
  | cons v vs ih =>
    cases h with
    | cons a t =>
      cases n with
      | zero => exact .cons a t
      | succ n => exact ih t n
section
variable {X : Cx} {pins : List (Addr × Obj)} {σ : L2.St} {H : Hp} {s : Shared}
theorem dict_reads {h : Heap} {w : World} {P : Program} : ∀ {es : List DictEntry} {kvs : List (Str × Int)} {ws : List (Key × Value)}, KV (kvV kvs) ws → Pairs (mixKind P w) es ws → ReadsAll h (es.map (·.key)) ((kvD kvs).map (·.1)) [] ∧ ReadsAll h (es.map (·.val)) ((kvD kvs).map (·.2)) []
  | [], [], _, _, _ => ⟨.nil, .nil⟩
  | [], _ :: _, _, r, p => by
    cases r with
    | cons a t => cases p
  | e :: es, [], _, r, p => by
    cases r
    cases p
  | e :: es, kv :: kvs, _, r, p => by
    cases r with
    | cons a t =>
      cases p with
      | cons hk hv tp =>
        obtain ⟨q1, q2⟩ := dict_reads (h := h) t tp
        obtain ⟨e1, t2, e2⟩ := a
        have hk' : keyIs (Sum.inr kv.1) e.key = true := by
          have e1' : (Sum.inr kv.1 : Key) = _ := e1
          rw [e1']
          exact hk
        obtain ⟨x, tk, ek, ev⟩ : ∃ x tk, (Sum.inr kv.1 : Key) = Sum.inr x ∧ e.key = Value.str x tk := by
          rcases keyIs_shape hk' with ⟨i, tk, z, _⟩ | ⟨x, tk, z, z2⟩
          · cases z
          · exact ⟨x, tk, z, z2⟩
        have hx : x = kv.1 := (Sum.inr.inj ek).symm
        subst hx
        refine ⟨?_, ?_⟩
        · show ReadsAll h (e.key :: es.map (·.key)) (PyData.str kv.1 :: (kvD kvs).map (·.1)) []
          rw [ev]
          exact .cons (as := []) (.str _ _) q1
        · show ReadsAll h (e.val :: es.map (·.val)) (PyData.int kv.2 :: (kvD kvs).map (·.2)) []
          rw [hv, e2]
          exact .cons (as := []) (.int _ _) q2
mutual
theorem Dq.reads (I : Inv X pins σ H s) : ∀ (d : PyData) (v : V) (u : Value), Dq H v d → RelV v u → ∃ as, Reads s.heap u d as
  | .none, _, _, h, r => by cases h; cases r; exact ⟨_, Reads.none⟩
  | .bool b, _, _, h, r => by cases h; cases r; exact ⟨_, Reads.bool b⟩
  | .int i, _, _, h, r => by cases h; obtain ⟨t, rfl⟩ := r; exact ⟨_, Reads.int i t⟩
  | .str x, _, _, h, r => by cases h; obtain ⟨t, rfl⟩ := r; exact ⟨_, Reads.str x t⟩
  | .list ds, _, _, h, r => by
    cases h with
    | lst ha hk =>
      cases r
      obtain ⟨_, its, n, rv, ho⟩ := I.hok _ _ ha
      obtain ⟨as, hr⟩ := DqAll.reads I ds _ its hk rv
      exact ⟨_, Reads.list ho rfl rfl (by simpa using hr)⟩
  | .tuple ds, _, _, h, r => by
    cases h with
    | tup ha hk =>
      cases r
      obtain ⟨its, rv, ⟨o, ho, hc, n, hd⟩, _⟩ := I.tuple (st_of ha : SqT X.K H _ _)
      obtain ⟨as, hr⟩ := DqAll.reads I ds _ its hk rv
      exact ⟨_, Reads.tuple ho hc hd hr⟩
  | .dict kvs, v, u, h, r => by
    generalize hd : PyData.dict kvs = d at h
    cases h with
    | dct kv a =>
      cases hd
      cases r
      obtain ⟨_, hn, vs, rel, o, es, ep, ho, ex, hd, _, hp, _⟩ := I.hok _ _ a
      obtain ⟨q1, q2⟩ := dict_reads (h := s.heap) rel hp
      exact ⟨_, Reads.dict ho ex.1 hd q1 q2⟩
    | _ => cases hd
theorem DqAll.reads (I : Inv X pins σ H s) : ∀ (ds : List PyData) (vs : List V) (us : List Value), DqAll H vs ds → Vals vs us → ∃ as, ReadsAll s.heap us ds as
  | [], _, _, h, r => by cases h; cases r; exact ⟨_, ReadsAll.nil⟩
  | d :: ds, _, _, h, r => by
    cases h with
    | cons h1 h2 =>
      cases r with
      | cons r1 r2 =>
        obtain ⟨as, q1⟩ := Dq.reads I d _ _ h1 r1
        obtain ⟨bs, q2⟩ := DqAll.reads I ds _ _ h2 r2
        exact ⟨_, ReadsAll.cons q1 q2⟩
end
/-- a dict stands apart from the dict of modules -/
theorem Dq.readsD (I : Inv X pins σ H s) {v : V} {u : Value} (h : Dq H v (.dict [])) (r : RelV v u) : ∃ as, Reads s.heap u (.dict []) as ∧ sysModules ∉ as := by
  generalize hd : PyData.dict [] = d at h
  cases h with
  | dct kv a =>
    cases r
    obtain ⟨_, hn, vs, rel, o, es, ep, ho, ex, hd2, _, hp, _⟩ := I.hok _ _ a
    obtain ⟨q1, q2⟩ := dict_reads (h := s.heap) rel hp
    exact ⟨_, Reads.dict ho ex.1 hd2 q1 q2, by simpa using fun z : sysModules = _ => by rw [← z] at hn; simp at hn⟩
  | _ => cases hd
end
/-! ### repr -/
noncomputable def rReprQ : List V → Hp → VK → Prop := fun xs H Q => ∃ (v : V) (d : PyData), xs = [v] ∧ Dq H v d ∧ d.showable = true ∧ d.depth ≤ 60 ∧ d.shown.length ≤ sizeLine ∧ (d.hasDict = false ∨ d = .dict []) ∧ Q (.str d.shown) H
theorem call_reprQ {X : Cx} (hgd : X.A.guards = some []) (hu : X.A.units + 64 < cLine) : CallR X (.builtin "repr") rReprQ := by
  intro pins s σ H xs us Q I r h
  obtain ⟨v, d, rfl, hd, hs, hdp, hz, hw, q⟩ := h
  obtain ⟨u, rfl, ru⟩ := vals1 r
  have ref : ∀ a : Addr, v = .ref a → wpAny (model X.prog X.w) X.A (call (.builtin "repr") [u]) (fun w s' => ∃ y H', Inv X pins σ H' s' ∧ RelV y w ∧ Q y H') X.xe s := by
    rintro a rfl
    obtain rfl : u = Value.ref a := ru
    obtain ⟨as, hr, hn⟩ : ∃ as, Reads s.heap (Value.ref a) d as ∧ (d.hasDict = true → sysModules ∉ as) := by
      rcases hw with hw | hw
      · obtain ⟨as, hr⟩ := Dq.reads I d _ _ hd rfl
        exact ⟨as, hr, fun z => by rw [hw] at z; cases z⟩
      · subst hw
        obtain ⟨as, hr, hn⟩ := Dq.readsD I hd rfl
        exact ⟨as, hr, fun _ => hn⟩
    exact repr_of_reads' hr hs hn hgd (by omega) (fun _ _ e => e) (fun h' u tk hk => ⟨.str d.shown, H, I.kept hk, ⟨_, rfl⟩, q⟩) hz
  cases v with
  | ref a => exact ref a rfl
  | non =>
    cases hd
    obtain rfl : u = Value.none := ru
    exact P.repr_of_none ⟨.str "None", H, I.tok _, ⟨_, rfl⟩, q⟩
  | bl b =>
    cases hd
    obtain rfl : u = Value.bool b := ru
    exact P.repr_of_bool ⟨.str (if b then "True" else "False"), H, I.tok _, ⟨_, rfl⟩, q⟩
  | int i =>
    cases hd
    obtain ⟨t, rfl⟩ := ru
    refine P.repr_of_int (of_decide_eq_true hs) ⟨.str (toString i), H, I.tok _, ⟨_, rfl⟩, q⟩
  | str x =>
    cases hd
    obtain ⟨t, rfl⟩ := ru
    exact P.repr_of_str ⟨.str (reprText x), H, I.tok _, ⟨_, rfl⟩, q⟩ hz
  | _ => cases hd
/-! ### what evaluates to data -/
noncomputable def EvQ (te : TE) (σ : L2.St) (H : Hp) (d : PyData) : Prop := ∀ H1, Ex H H1 → ∀ Q : VK, (∀ v H2, Ex H1 H2 → Dq H2 v d → Q v H2) → te σ H1 Q
noncomputable def EvAQ (tA : TA) (σ : L2.St) (H : Hp) (ds : List PyData) : Prop := ∀ H1, Ex H H1 → ∀ Q : List V → Hp → Prop, (∀ vs H2, Ex H1 H2 → DqAll H2 vs ds → Q vs H2) → tA σ H1 Q
noncomputable def EvLq (te : TE) (σ : L2.St) (H : Hp) (ds : List PyData) : Prop := ∀ H1, Ex H H1 → ∀ Q : VK, (∀ p vs H2, H1 p = none → Ex H1 H2 → H2 p = some (.lst vs) → DqAll H2 vs ds → Q (.ref p) H2) → te σ H1 Q
noncomputable def RetQ (d : PyData) (H : Hp) (Q : VK) : Prop := ∀ v H2, Ex H H2 → Dq H2 v d → Q v H2
section
variable {K : PySem.W.Frag} {σ : L2.St} {H : Hp} {te ta tb : TE} {tA : TA} {v : V} {d : PyData} {ds es : List PyData} {D : Ends} {tz : TS} {i : Nat}
end
/-- its type, for isinstance -/
noncomputable def tyD : PyData → String
  | .none => "NoneType"
  | .bool _ => "bool"
  | .int _ => "int"
  | .str _ => "str"
  | .list _ => "list"
  | .tuple _ => "tuple"
  | .dict _ => "dict"
theorem ty_of {K : PySem.W.Frag} {H : Hp} {v : V} {d : PyData} (h : Dq H v d) : TyOf K H v (.type (tyD d)) := by
  cases h with
  | non => exact .non
  | bl b => exact .bl b
  | int i => exact .int i
  | str x => exact .str x
  | lst a _ => exact .lst a
  | tup a _ => exact .tup a
  | dct _ a => exact .dK a
end OW
end
section
set_option maxHeartbeats 4000000
namespace K43
open PySem L2 Evl G OW
/-! ### bounds, and days raised by them -/
structure B where
  a : Nat
  b : Nat
  m : Int
noncomputable def B.d (x : B) : PyData := .tuple [.int (x.a : Int), .int (x.b : Int), .int x.m]
noncomputable def B0 : B := ⟨0, 0, 0⟩
structure S where
  ds : List Int
  cs : List (Option Nat)
  r : Option Nat
noncomputable def relax (s : S) (i : Nat) (x : B) : S := if s.ds.getD x.a 0 - x.m > s.ds.getD x.b 0 then ⟨s.ds.set x.b (s.ds.getD x.a 0 - x.m), s.cs.set x.b (some i), some x.b⟩ else s
noncomputable def passTo (bs : List B) (s : S) : Nat → S
  | 0 => ⟨s.ds, s.cs, none⟩
  | i + 1 => relax (passTo bs s i) i (bs.getD i B0)
noncomputable def runTo (bs : List B) (n : Nat) : Nat → S
  | 0 => ⟨List.replicate n 0, List.replicate n none, none⟩
  | k + 1 => passTo bs (runTo bs n k) bs.length
theorem getD_set {α : Type} (l : List α) (i j : Nat) (v d : α) (hi : i < l.length) : (l.set i v).getD j d = if j = i then v else l.getD j d := by
  rw [List.getD_eq_getElem?_getD, List.getElem?_set, List.getD_eq_getElem?_getD]
  by_cases h : i = j
  · subst h; simp [hi]
  · rw [if_neg h, if_neg fun z => h z.symm]
/-! the walk back along the causes -/
noncomputable def causeI (s : S) (x : Nat) : Option Nat := s.cs.getD x none
noncomputable def causeB (bs : List B) (s : S) (x : Nat) : B := bs.getD ((causeI s x).getD 0) B0
noncomputable def back (bs : List B) (s : S) (x : Nat) : Nat := (causeB bs s x).a
noncomputable def backN (bs : List B) (s : S) (x : Nat) : Nat → Nat
  | 0 => x
  | i + 1 => back bs s (backN bs s x i)
noncomputable def wsum (bs : List B) (s : S) (x : Nat) : Nat → Int
  | 0 => 0
  | p + 1 => wsum bs s x p + (causeB bs s (backN bs s x p)).m
theorem backN_add (bs : List B) (s : S) (x i : Nat) : ∀ j, backN bs s x (i + j) = backN bs s (backN bs s x i) j
  | 0 => rfl
  | j + 1 => by rw [← Nat.add_assoc]; show back bs s (backN bs s x (i + j)) = _; rw [backN_add bs s x i j]; rfl
theorem same_cs (bs : List B) {s s' : S} (e : s.cs = s'.cs) (x : Nat) : ∀ i, backN bs s x i = backN bs s' x i ∧ wsum bs s x i = wsum bs s' x i
  | 0 => ⟨rfl, rfl⟩
  | i + 1 => by
    obtain ⟨h1, h2⟩ := same_cs bs e x i
    have hc : ∀ y, causeB bs s y = causeB bs s' y := fun y => by unfold causeB causeI; rw [e]
    constructor
    · show back bs s (backN bs s x i) = back bs s' (backN bs s' x i)
      unfold back; rw [hc, h1]
    · show wsum bs s x i + _ = wsum bs s' x i + _
      rw [h2, hc, h1]
structure Okb (bs : List B) (n : Nat) : Prop where
  a : ∀ e, e < bs.length → (bs.getD e B0).a < n
  b : ∀ e, e < bs.length → (bs.getD e B0).b < n
/-- what holds in turn k, j bounds looked at; pass tells in which turn a day was raised last -/
structure Iv (bs : List B) (n : Nat) (s : S) (pass : Nat → Nat) (k j : Nat) : Prop where
  l1 : s.ds.length = n
  l2 : s.cs.length = n
  ix : ∀ x i, causeI s x = some i → i < bs.length ∧ (bs.getD i B0).b = x
  i1 : ∀ x i, causeI s x = some i → s.ds.getD x 0 ≤ s.ds.getD (bs.getD i B0).a 0 - (bs.getD i B0).m
  i2 : ∀ x p, 1 ≤ p → (∀ i, i < p → causeI s (backN bs s x i) ≠ none) → backN bs s x p = x → wsum bs s x p < 0
  p0 : ∀ x, causeI s x = none → pass x = 0
  p1 : ∀ x i, causeI s x = some i → pass x ≤ pass (bs.getD i B0).a + 1
  pk : ∀ x, pass x ≤ k
  ed : ∀ e, e < bs.length → s.ds.getD (bs.getD e B0).a 0 - (bs.getD e B0).m ≤ s.ds.getD (bs.getD e B0).b 0 ∨ (if e < j then k else k - 1) ≤ pass (bs.getD e B0).a
  rv : ∀ v, s.r = some v → pass v = k ∧ v < n
theorem tele (D : Nat → Int) (m : Nat → Int) (w : Nat → Int) (w0 : w 0 = 0) (ws : ∀ i, w (i + 1) = w i + m i) : ∀ p, (∀ i, i < p → D i ≤ D (i + 1) - m i) → D 0 ≤ D p - w p
  | 0, _ => by rw [w0]; omega
  | p + 1, h => by
    have h1 := tele D m w w0 ws p fun i hi => h i (by omega)
    have h2 := h p (by omega)
    rw [ws]; omega
theorem teleS (D : Nat → Int) (m : Nat → Int) (w : Nat → Int) (w0 : w 0 = 0) (ws : ∀ i, w (i + 1) = w i + m i) : ∀ p, (∀ i, i < p → D i ≤ D (i + 1) - m i) → (∃ t, t < p ∧ D t < D (t + 1) - m t) → D 0 < D p - w p
  | 0, _, h => by obtain ⟨t, ht, _⟩ := h; omega
  | p + 1, h, ⟨t, ht, hs⟩ => by
    have h2 := h p (by omega)
    rw [ws]
    by_cases e : t = p
    · subst e
      have h1 := tele D m w w0 ws t fun i hi => h i (by omega)
      omega
    · have h1 := teleS D m w w0 ws p (fun i hi => h i (by omega)) ⟨t, by omega, hs⟩
      omega
theorem Iv.relax {bs : List B} {n : Nat} {s : S} {pass : Nat → Nat} {k j : Nat} (o : Okb bs n) (hj : j < bs.length) (hk : 1 ≤ k) (h : Iv bs n s pass k j) : ∃ pass', Iv bs n (relax s j (bs.getD j B0)) pass' k (j + 1) := by
  generalize hx : bs.getD j B0 = x
  have oa := o.a j hj
  have ob := o.b j hj
  rw [hx] at oa ob
  unfold K43.relax
  by_cases hc : s.ds.getD x.a 0 - x.m > s.ds.getD x.b 0
  · rw [if_pos hc]
    generalize hs' : (⟨s.ds.set x.b (s.ds.getD x.a 0 - x.m), s.cs.set x.b (some j), some x.b⟩ : S) = s'
    have hd : ∀ y, s'.ds.getD y 0 = if y = x.b then s.ds.getD x.a 0 - x.m else s.ds.getD y 0 := fun y => by rw [← hs']; exact getD_set _ _ _ _ _ (by rw [h.l1]; exact ob)
    have hcs : ∀ y, causeI s' y = if y = x.b then some j else causeI s y := fun y => by unfold causeI; rw [← hs']; exact getD_set _ _ _ _ _ (by rw [h.l2]; exact ob)
    have hge : ∀ y, s.ds.getD y 0 ≤ s'.ds.getD y 0 := fun y => by
      rw [hd]
      by_cases q : y = x.b
      · rw [if_pos q, q]; omega
      · rw [if_neg q]; exact Int.le_refl _
    have hpa : k - 1 ≤ pass x.a := by
      have := h.ed j hj
      rw [hx, if_neg (Nat.lt_irrefl j)] at this
      rcases this with q | q
      · omega
      · exact q
    have hp : ∀ y, pass y ≤ if y = x.b then k else pass y := fun y => by split; exact h.pk y; exact Nat.le_refl _
    have i1' : ∀ y i, causeI s' y = some i → s'.ds.getD y 0 ≤ s'.ds.getD (bs.getD i B0).a 0 - (bs.getD i B0).m := fun y i hy => by
      rw [hcs] at hy
      by_cases e : y = x.b
      · rw [if_pos e] at hy
        cases hy
        rw [hx, hd, if_pos e, hd]
        by_cases e2 : x.a = x.b
        · rw [if_pos e2]
          have : s.ds.getD x.a 0 = s.ds.getD x.b 0 := by rw [e2]
          omega
        · rw [if_neg e2]; exact Int.le_refl _
      · rw [if_neg e] at hy
        have h1 := h.i1 y i hy
        have h2 := hge (bs.getD i B0).a
        rw [hd, if_neg e]
        omega
    refine ⟨fun y => if y = x.b then k else pass y, ?_, ?_, ?_, i1', ?_, ?_, ?_, ?_, ?_, ?_⟩
    · rw [← hs']; simp [h.l1]
    · rw [← hs']; simp [h.l2]
    · intro y i hy
      rw [hcs] at hy
      by_cases e : y = x.b
      · rw [if_pos e] at hy
        cases hy
        exact ⟨hj, by rw [hx, e]⟩
      · rw [if_neg e] at hy
        exact h.ix y i hy
    · intro y p hp1 hall hcyc
      -- the causes of the walk
      have hcB : ∀ z, z ≠ x.b → causeB bs s' z = causeB bs s z := fun z hz => by unfold causeB; rw [hcs, if_neg hz]
      by_cases hno : ∀ i, i < p → backN bs s' y i ≠ x.b
      · have same : ∀ i, i ≤ p → backN bs s' y i = backN bs s y i := by
          intro i
          induction i with
          | zero => exact fun _ => rfl
          | succ i ih =>
            intro hi
            show back bs s' (backN bs s' y i) = back bs s (backN bs s y i)
            have h1 := ih (by omega)
            have h2 := hno i (by omega)
            unfold back
            rw [hcB _ h2, h1]
        have sameW : ∀ i, i ≤ p → wsum bs s' y i = wsum bs s y i := by
          intro i
          induction i with
          | zero => exact fun _ => rfl
          | succ i ih =>
            intro hi
            show wsum bs s' y i + _ = wsum bs s y i + _
            rw [ih (by omega), hcB _ (hno i (by omega)), same i (by omega)]
        rw [sameW p (Nat.le_refl _)]
        refine h.i2 y p hp1 (fun i hi => ?_) (by rw [← same p (Nat.le_refl _)]; exact hcyc)
        have h3 := hall i hi
        rw [hcs, if_neg (hno i hi)] at h3
        rwa [← same i (by omega)]
      · have hyes : ∃ i, i < p ∧ backN bs s' y i = x.b := by
          apply Classical.byContradiction
          intro q
          exact hno fun i hi e => q ⟨i, hi, e⟩
        obtain ⟨i, hi, ei⟩ := hyes
        obtain ⟨t, ht, et⟩ : ∃ t, t < p ∧ backN bs s' y (t + 1) = x.b := by
          cases i with
          | zero => exact ⟨p - 1, by omega, by rw [show p - 1 + 1 = p by omega, hcyc]; exact ei⟩
          | succ i => exact ⟨i, by omega, ei⟩
        have edge : ∀ i, i < p → s'.ds.getD (backN bs s' y i) 0 ≤ s'.ds.getD (backN bs s' y (i + 1)) 0 - (causeB bs s' (backN bs s' y i)).m := fun i hi => by
          obtain ⟨c, hc2⟩ := Option.ne_none_iff_exists'.mp (hall i hi)
          have := i1' _ c hc2
          show _ ≤ s'.ds.getD (causeB bs s' (backN bs s' y i)).a 0 - _
          unfold causeB
          rw [hc2]
          exact this
        have strict : s'.ds.getD (backN bs s' y t) 0 < s'.ds.getD (backN bs s' y (t + 1)) 0 - (causeB bs s' (backN bs s' y t)).m := by
          have e1 := edge t ht
          obtain ⟨c, hc2⟩ := Option.ne_none_iff_exists'.mp (hall t ht)
          rw [et] at e1 ⊢
          generalize hz : backN bs s' y t = z at *
          have ea : (causeB bs s' z).a = x.b := by rw [← et]; show _ = back bs s' (backN bs s' y t); rw [hz]; rfl
          by_cases hzb : z = x.b
          · have hcz : causeB bs s' z = x := by unfold causeB; rw [hcs, if_pos hzb]; exact hx
            rw [hcz] at ea ⊢
            have h1 : s.ds.getD x.a 0 = s.ds.getD x.b 0 := by rw [ea]
            rw [hzb]
            omega
          · have hc3 : causeI s z = some c := by rw [hcs, if_neg hzb] at hc2; exact hc2
            have hcz : causeB bs s' z = bs.getD c B0 := by unfold causeB; rw [hc2]; rfl
            have h1 := h.i1 z c hc3
            rw [hcz] at ea ⊢
            rw [ea] at h1
            rw [hd z, if_neg hzb, hd x.b, if_pos rfl]
            omega
        have := teleS (fun i => s'.ds.getD (backN bs s' y i) 0) (fun i => (causeB bs s' (backN bs s' y i)).m) (wsum bs s' y) rfl (fun _ => rfl) p edge ⟨t, ht, strict⟩
        simp only [hcyc] at this
        have e0 : backN bs s' y 0 = y := rfl
        rw [e0] at this
        omega
    · intro y hy
      rw [hcs] at hy
      by_cases e : y = x.b
      · rw [if_pos e] at hy; cases hy
      · rw [if_neg e] at hy
        show (if y = x.b then k else pass y) = 0
        rw [if_neg e]; exact h.p0 y hy
    · intro y i hy
      rw [hcs] at hy
      show (if y = x.b then k else pass y) ≤ (if _ = x.b then k else pass _) + 1
      have h3 := hp (bs.getD i B0).a
      by_cases e : y = x.b
      · rw [if_pos e] at hy ⊢
        cases hy
        rw [hx] at h3 ⊢
        omega
      · rw [if_neg e] at hy ⊢
        have := h.p1 y i hy
        omega
    · intro y
      show (if y = x.b then k else pass y) ≤ k
      split
      · exact Nat.le_refl _
      · exact h.pk y
    · intro e he
      show _ ∨ _ ≤ (if (bs.getD e B0).a = x.b then k else pass (bs.getD e B0).a)
      by_cases ej : e = j
      · subst ej
        rw [hx]
        by_cases e2 : x.a = x.b
        · right; rw [if_pos e2]; split <;> omega
        · left; rw [hd, if_neg e2, hd, if_pos rfl]; exact Int.le_refl _
      · by_cases e2 : (bs.getD e B0).a = x.b
        · right; rw [if_pos e2]; split <;> omega
        · rw [if_neg e2]
          rcases h.ed e he with q | q
          · left
            have := hge (bs.getD e B0).b
            rw [hd (bs.getD e B0).a, if_neg e2]
            omega
          · right
            by_cases e3 : e < j
            · rw [if_pos e3] at q; rw [if_pos (by omega)]; exact q
            · rw [if_neg e3] at q; rw [if_neg (by omega)]; exact q
    · intro v hv
      rw [← hs'] at hv
      cases hv
      exact ⟨if_pos rfl, ob⟩
  · rw [if_neg hc]
    refine ⟨pass, h.l1, h.l2, h.ix, h.i1, h.i2, h.p0, h.p1, h.pk, fun e he => ?_, h.rv⟩
    by_cases ej : e = j
    · subst ej; left; rw [hx]; omega
    · rcases h.ed e he with q | q
      · exact .inl q
      · right
        by_cases e3 : e < j
        · rw [if_pos e3] at q; rw [if_pos (by omega)]; exact q
        · rw [if_neg e3] at q; rw [if_neg (by omega)]; exact q
theorem Iv.pass {bs : List B} {n : Nat} (o : Okb bs n) {s : S} {k : Nat} (h : ∃ pass, Iv bs n ⟨s.ds, s.cs, none⟩ pass (k + 1) 0) : ∀ j, j ≤ bs.length → ∃ pass, Iv bs n (passTo bs s j) pass (k + 1) j
  | 0, _ => h
  | j + 1, hj => by
    obtain ⟨ps, q⟩ := Iv.pass o h j (by omega)
    exact q.relax o (by omega) (by omega)
theorem Iv.run {bs : List B} {n : Nat} (o : Okb bs n) : ∀ k, ∃ pass, Iv bs n (runTo bs n (k + 1)) pass (k + 1) bs.length := by
  intro k
  induction k with
  | zero =>
    have hz : ∀ y, (List.replicate n (0 : Int)).getD y 0 = 0 := fun y => by rw [List.getD_eq_getElem?_getD, List.getElem?_replicate]; split <;> rfl
    have hn : ∀ y, causeI (⟨(runTo bs n 0).ds, (runTo bs n 0).cs, none⟩ : S) y = none := fun y => by unfold causeI; show (List.replicate n none).getD y none = none; rw [List.getD_eq_getElem?_getD, List.getElem?_replicate]; split <;> rfl
    refine Iv.pass o (k := 0) ⟨fun _ => 0, by simp [runTo], by simp [runTo], fun x i q => ?_, fun x i q => ?_, fun x p hp hall _ => ?_, fun _ _ => rfl, fun x i q => ?_, fun _ => Nat.zero_le _, fun e he => .inr ?_, fun v q => ?_⟩ _ (Nat.le_refl _)
    · exact absurd q (by rw [hn x]; simp)
    · exact absurd q (by rw [hn x]; simp)
    · exact absurd (hn _) (hall 0 (by omega))
    · exact absurd q (by rw [hn x]; simp)
    · rw [if_neg (Nat.not_lt_zero _)]; exact Nat.le_refl _
    · cases q
  | succ k ih =>
    obtain ⟨ps, h⟩ := ih
    refine Iv.pass o (k := k + 1) ⟨ps, h.l1, h.l2, h.ix, h.i1, fun x p h1 h2 h3 => by rw [(same_cs bs (s := ⟨(runTo bs n (k + 1)).ds, (runTo bs n (k + 1)).cs, none⟩) (s' := runTo bs n (k + 1)) rfl x p).2]; exact h.i2 x p h1 (fun i hi => by have := h2 i hi; rw [(same_cs bs (s := ⟨(runTo bs n (k + 1)).ds, (runTo bs n (k + 1)).cs, none⟩) (s' := runTo bs n (k + 1)) rfl x i).1] at this; exact this) (by rw [← (same_cs bs (s := ⟨(runTo bs n (k + 1)).ds, (runTo bs n (k + 1)).cs, none⟩) (s' := runTo bs n (k + 1)) rfl x p).1]; exact h3), h.p0, h.p1, fun x => Nat.le_succ_of_le (h.pk x), fun e he => ?_, fun v q => nomatch q⟩ _ (Nat.le_refl _)
    rcases h.ed e he with q | q
    · exact .inl q
    · rw [if_pos he] at q
      right; rw [if_neg (Nat.not_lt_zero _)]; exact q
theorem pigeon : ∀ (n : Nat) (g : Nat → Nat), (∀ i, i ≤ n → g i < n) → ∃ i j, i < j ∧ j ≤ n ∧ g i = g j
  | 0, g, h => absurd (h 0 (Nat.le_refl _)) (Nat.not_lt_zero _)
  | n + 1, g, h => by
    by_cases hy : ∃ i, i ≤ n ∧ g i = g (n + 1)
    · obtain ⟨i, hi, e⟩ := hy
      exact ⟨i, n + 1, by omega, Nat.le_refl _, e⟩
    · have hne : ∀ i, i ≤ n → g i ≠ g (n + 1) := fun i hi e => hy ⟨i, hi, e⟩
      obtain ⟨i, j, h1, h2, h3⟩ := pigeon n (fun i => if g (n + 1) < g i then g i - 1 else g i) fun i hi => by
        have a1 := h i (by omega)
        have a2 := h (n + 1) (Nat.le_refl _)
        have a3 := hne i hi
        show (if g (n + 1) < g i then g i - 1 else g i) < n
        split <;> omega
      refine ⟨i, j, h1, by omega, ?_⟩
      have a1 := hne i (by omega)
      have a2 := hne j (by omega)
      have h3' : (if g (n + 1) < g i then g i - 1 else g i) = (if g (n + 1) < g j then g j - 1 else g j) := h3
      split at h3' <;> split at h3' <;> omega
/-- the ring that walking back comes to -/
structure Ring (bs : List B) (s : S) (d p : Nat) : Prop where
  p1 : 1 ≤ p
  cyc : backN bs s d p = d
  min : ∀ i, 0 < i → i < p → backN bs s d i ≠ d
  has : ∀ i, i < p → causeI s (backN bs s d i) ≠ none
  neg : wsum bs s d p < 0
theorem least_pos {P : Nat → Prop} [DecidablePred P] : ∀ n, P n → 1 ≤ n → ∃ p, 1 ≤ p ∧ p ≤ n ∧ P p ∧ ∀ i, 0 < i → i < p → ¬ P i := by
  intro n
  induction n using Nat.strongRecOn with
  | ind n ih =>
    intro h h1
    by_cases q : ∃ i, 0 < i ∧ i < n ∧ P i
    · obtain ⟨i, i0, i1, hi⟩ := q
      obtain ⟨p, a, b, c, d⟩ := ih i i1 hi i0
      exact ⟨p, a, by omega, c, d⟩
    · exact ⟨n, h1, Nat.le_refl _, h, fun i i0 i1 hi => q ⟨i, i0, i1, hi⟩⟩
theorem ring_found {bs : List B} {n : Nat} (o : Okb bs n) {v : Nat} (hr : (runTo bs n (n + 1)).r = some v) :
    v < n ∧ (∀ i, i ≤ n → causeI (runTo bs n (n + 1)) (backN bs (runTo bs n (n + 1)) v i) ≠ none ∧ backN bs (runTo bs n (n + 1)) v i < n) ∧ ∃ p, p ≤ n ∧ Ring bs (runTo bs n (n + 1)) (backN bs (runTo bs n (n + 1)) v n) p := by
  obtain ⟨pass, h⟩ := Iv.run o n
  generalize runTo bs n (n + 1) = s at *
  obtain ⟨pv, vn⟩ := h.rv v hr
  have some_of : ∀ x, 1 ≤ pass x → causeI s x ≠ none := fun x hx e => by have := h.p0 x e; omega
  have nx : ∀ x, 1 ≤ pass x → pass x ≤ pass (back bs s x) + 1 ∧ back bs s x < n := fun x hx => by
    obtain ⟨i, hi⟩ := Option.ne_none_iff_exists'.mp (some_of x hx)
    have := h.p1 x i hi
    have hb : back bs s x = (bs.getD i B0).a := by unfold back causeB; rw [hi]; rfl
    rw [hb]
    exact ⟨this, o.a i (h.ix x i hi).1⟩
  have walk : ∀ i, i ≤ n → n + 1 ≤ pass (backN bs s v i) + i ∧ backN bs s v i < n := by
    intro i
    induction i with
    | zero => exact fun _ => ⟨by show n + 1 ≤ pass v + 0; omega, vn⟩
    | succ i ih =>
      intro hi
      obtain ⟨a1, a2⟩ := ih (by omega)
      obtain ⟨b1, b2⟩ := nx (backN bs s v i) (by omega)
      exact ⟨by show n + 1 ≤ pass (back bs s (backN bs s v i)) + (i + 1); omega, b2⟩
  have hs : ∀ i, i ≤ n → causeI s (backN bs s v i) ≠ none := fun i hi => some_of _ (by have := (walk i hi).1; omega)
  refine ⟨vn, fun i hi => ⟨hs i hi, (walk i hi).2⟩, ?_⟩
  obtain ⟨i, j, hij, hj, e⟩ := pigeon n (fun i => backN bs s v i) fun i hi => (walk i hi).2
  have e' : backN bs s v i = backN bs s v j := e
  -- later steps repeat earlier ones
  have rep : ∀ t, ∃ u, u ≤ n ∧ backN bs s v t = backN bs s v u := by
    intro t
    induction t using Nat.strongRecOn with
    | ind t ih =>
      by_cases ht : t ≤ n
      · exact ⟨t, ht, rfl⟩
      · obtain ⟨u, hu, eu⟩ := ih (t - (j - i)) (by omega)
        refine ⟨u, hu, ?_⟩
        rw [← eu]
        have e1 : t = j + (t - j) := by omega
        have e2 : t - (j - i) = i + (t - j) := by omega
        rw [e2, backN_add, e', ← backN_add, ← e1]
  have hcyc : backN bs s (backN bs s v n) (j - i) = backN bs s v n := by
    rw [← backN_add]
    have e1 : n + (j - i) = j + (n - i) := by omega
    have e2 : n = i + (n - i) := by omega
    rw [e1, backN_add, ← e', ← backN_add, ← e2]
  obtain ⟨p, p1, pn, hp, hmin⟩ := least_pos (P := fun q => backN bs s (backN bs s v n) q = backN bs s v n) (j - i) hcyc (by omega)
  have has : ∀ q, causeI s (backN bs s (backN bs s v n) q) ≠ none := fun q => by
    rw [← backN_add]
    obtain ⟨u, hu, eu⟩ := rep (n + q)
    rw [eu]; exact hs u hu
  exact ⟨p, by omega, p1, hp, hmin, fun i _ => has i, h.i2 _ p p1 (fun i _ => has i) hp⟩
end K43
end
section
set_option maxHeartbeats 4000000
namespace K43
open PySem L2 Evl G OW
/-! ### what is told of data -/
noncomputable def isIntD : PyData → Bool
  | .int _ => true
  | _ => false
noncomputable def isCntD : PyData → Bool
  | .int i => decide (0 ≤ i)
  | _ => false
noncomputable def intOf : PyData → Int
  | .int i => i
  | _ => 0
noncomputable def items : PyData → List PyData
  | .list ds => ds
  | .tuple ds => ds
  | _ => []
noncomputable def isSeqD : PyData → Bool
  | .list _ => true
  | .tuple _ => true
  | _ => false
noncomputable def isBnd : PyData → Bool
  | .tuple [x, y, z] => isCntD x && (isCntD y && isIntD z)
  | _ => false
noncomputable def toB : PyData → B
  | .tuple [x, y, z] => ⟨(intOf x).toNat, (intOf y).toNat, intOf z⟩
  | _ => B0
noncomputable def areB (d : PyData) : Bool := isSeqD d && (items d).all isBnd
noncomputable def joinOk (r : List B) : Bool := (List.range r.length).all fun i => decide ((r.getD (if i = 0 then r.length - 1 else i - 1) B0).b = (r.getD i B0).a)
noncomputable def sumB (r : List B) : Int := (r.map B.m).sum
noncomputable def memB (bs : List B) (t : PyData) : Bool := (bs.map B.d).any fun z => PyData.eqv z t
noncomputable def ringForm (d : PyData) : Bool := (areB d && !(items d).isEmpty) && (joinOk ((items d).map toB) && decide (sumB ((items d).map toB) < 0))
noncomputable def ringD (bs : List B) (d : PyData) : Bool := ringForm d && (items d).all (memB bs)
noncomputable def kOk (bs : List B) (ds : List PyData) : Bool := bs.all fun x => decide (intOf (ds.getD x.a .none) - intOf (ds.getD x.b .none) ≤ x.m)
noncomputable def fitsB (bs : List B) (n : Nat) : Bool := bs.all fun x => decide (max x.a x.b < n)
noncomputable def keptD (bs : List B) (d : PyData) : Bool := (isSeqD d && (items d).all isIntD) && (fitsB bs (items d).length && kOk bs (items d))
theorem toB_d {t : PyData} (h : isBnd t = true) : (toB t).d = t := by
  unfold isBnd at h
  split at h
  · rename_i x y z
    simp only [Bool.and_eq_true] at h
    obtain ⟨h1, h2, h3⟩ := h
    cases x <;> first | cases h1 | skip
    cases y <;> first | cases h2 | skip
    cases z <;> first | cases h3 | skip
    rename_i i j k
    have e1 : 0 ≤ i := of_decide_eq_true h1
    have e2 : 0 ≤ j := of_decide_eq_true h2
    show PyData.tuple [.int ((i.toNat : Nat) : Int), .int ((j.toNat : Nat) : Int), .int k] = _
    rw [Int.toNat_of_nonneg e1, Int.toNat_of_nonneg e2]
  · cases h
theorem isBnd_d (x : B) : isBnd x.d = true := by
  show (decide (0 ≤ (x.a : Int)) && (decide (0 ≤ (x.b : Int)) && true)) = true
  rw [decide_eq_true (Int.natCast_nonneg _), decide_eq_true (Int.natCast_nonneg _)]; rfl
theorem toB_of (x : B) : toB x.d = x := by
  show (⟨((x.a : Int)).toNat, ((x.b : Int)).toNat, x.m⟩ : B) = x
  rw [Int.toNat_natCast, Int.toNat_natCast]
theorem all_bnd (bs : List B) : (bs.map B.d).all isBnd = true := by rw [List.all_map]; exact List.all_eq_true.mpr fun x _ => isBnd_d x
/-! ### sizes -/
mutual
noncomputable def nod : PyData → Nat
  | .list ds => nods ds + 1
  | .tuple ds => nods ds + 1
  | _ => 1
noncomputable def nods : List PyData → Nat
  | [] => 0
  | d :: ds => nod d + nods ds
end
theorem nod_pos : ∀ d : PyData, 1 ≤ nod d
  | .none | .bool _ | .int _ | .str _ | .dict _ => by simp [nod]
  | .list _ => by simp [nod]
  | .tuple _ => by simp [nod]
theorem nods_mem : ∀ {ds : List PyData} {d : PyData}, d ∈ ds → nod d ≤ nods ds
  | e :: ds, d, h => by
    rcases List.mem_cons.mp h with h | h
    · subst h; simp [nods]
    · have := nods_mem h; simp [nods]; omega
theorem nods_len : ∀ ds : List PyData, ds.length ≤ nods ds
  | [] => Nat.le_refl _
  | d :: ds => by have := nods_len ds; have := nod_pos d; simp [nods]; omega
mutual
noncomputable def dep : PyData → Nat
  | .list ds => deps ds + 1
  | .tuple ds => deps ds + 1
  | _ => 0
noncomputable def deps : List PyData → Nat
  | [] => 0
  | d :: ds => max (dep d) (deps ds)
end

/-! ### data that can be shown -/
noncomputable def BIG : Int := 100000000000000000
mutual
noncomputable def fine : PyData → Bool
  | .none => true
  | .bool _ => true
  | .int i => decide (-BIG ≤ i ∧ i ≤ BIG)
  | .str x => decide (x ∈ (["0", ""] : List Str))
  | .list ds => fines ds
  | .tuple ds => fines ds
  | .dict kvs => kvs.isEmpty
noncomputable def fines : List PyData → Bool
  | [] => true
  | d :: ds => fine d && fines ds
end
theorem small_int (i : Int) (h : -BIG ≤ i ∧ i ≤ BIG) : (toString i : Str).length ≤ 20 ∧ i.natAbs.log2 < 1920 := by
  have hb : i.natAbs < 10 ^ 18 := by unfold BIG at h; omega
  constructor
  · have e := int_text_length_le10 (a := i) (k := 18) (by decide) hb
    show (Str.ofString (toString i)).length ≤ 20
    rw [ofString_length]; omega
  · by_cases h0 : i.natAbs = 0
    · rw [h0]; decide
    · have : i.natAbs.log2 < 60 := (Nat.log2_lt h0).mpr (Nat.lt_of_lt_of_le hb (by decide))
      omega
theorem small_txt : ∀ x ∈ (["0", ""] : List Str), (reprText x).length ≤ 10 := by decide +kernel
theorem textFrom_le : ∀ (ts : List Str) (k : Nat) (acc : Str), (textFrom k acc ts).length ≤ acc.length + piled ts
  | [], k, acc => by simp [textFrom, piled]
  | t :: ts, k, acc => by
    have := textFrom_le ts (k + 1) (acc ++ (if k > 0 then ", " else "" : String) ++ t)
    rw [piled_cons]
    show (textFrom (k + 1) (acc ++ (if k > 0 then ", " else "" : String) ++ t) ts).length ≤ _
    rw [strLen_append, strLen_append] at this
    have h2 : (Str.ofString (if k > 0 then ", " else "" : String)).length ≤ 2 := by split <;> decide
    omega
theorem listText_le (ts : List Str) : (listText ts).length ≤ piled ts + 2 := by
  unfold listText
  rw [strLen_append]
  have := textFrom_le ts 0 "["
  have h1 : (Str.ofString "[").length = 1 := by decide
  have h2 : (Str.ofString "]").length = 1 := by decide
  omega
theorem tupleText_le (ts : List Str) : (tupleText ts).length ≤ piled ts + 3 := by
  unfold tupleText
  rw [strLen_append, strLen_append]
  have h1 : (Str.ofString "(").length = 1 := by decide
  have h2 : (Str.ofString (if ts.length == 1 then ",)" else ")" : String)).length ≤ 2 := by split <;> decide
  have h3 : (Str.join ", " ts).length ≤ piled ts := by
    by_cases h : ts = []
    · subst h; decide
    · have := join_length_add ts h; omega
  omega
mutual
theorem shown_le : ∀ d : PyData, fine d = true → d.shown.length + 2 ≤ 30 * nod d ∧ d.showable = true
  | .none, _ => by
    constructor
    · show (Str.ofString "None").length + 2 ≤ 30 * nod .none; simp only [nod]; decide
    · simp [PyData.showable]
  | .bool b, _ => by
    constructor
    · show (if b then ("True" : Str) else "False").length + 2 ≤ 30 * nod (.bool b); simp only [nod]; cases b <;> decide
    · simp [PyData.showable]
  | .int i, h => by
    have h' : -BIG ≤ i ∧ i ≤ BIG := of_decide_eq_true (by rw [← h]; simp [fine])
    obtain ⟨a, b⟩ := small_int i h'
    constructor
    · show (toString i : Str).length + 2 ≤ 30 * nod (.int i); simp only [nod]; omega
    · simp [PyData.showable, b]
  | .str x, h => by
    have h' : x ∈ (["0", ""] : List Str) := of_decide_eq_true (by rw [← h]; simp [fine])
    have := small_txt x h'
    constructor
    · show (reprText x).length + 2 ≤ 30 * nod (.str x); simp only [nod]; omega
    · simp [PyData.showable]
  | .list ds, h => by
    obtain ⟨a, b⟩ := shownAll_le ds (by rw [fine] at h; exact h)
    have := listText_le (PyData.shownAll ds)
    constructor
    · show (listText (PyData.shownAll ds)).length + 2 ≤ 30 * nod (.list ds); simp only [nod]; omega
    · simp [PyData.showable, b]
  | .tuple ds, h => by
    obtain ⟨a, b⟩ := shownAll_le ds (by rw [fine] at h; exact h)
    have := tupleText_le (PyData.shownAll ds)
    constructor
    · show (tupleText (PyData.shownAll ds)).length + 2 ≤ 30 * nod (.tuple ds); simp only [nod]; omega
    · simp [PyData.showable, b]
  | .dict kvs, h => by
    rw [fine] at h
    cases kvs with
    | nil =>
      constructor
      · show (dictText (PyData.shownKv [])).length + 2 ≤ 30 * nod (.dict []); simp only [nod]; decide
      · simp [PyData.showable, PyData.showableKv]
    | cons _ _ => cases h
theorem shownAll_le : ∀ ds : List PyData, fines ds = true → piled (PyData.shownAll ds) ≤ 30 * nods ds ∧ PyData.showableAll ds = true
  | [], _ => by simp [PyData.shownAll, piled, PyData.showableAll]
  | d :: ds, h => by
    rw [fines, Bool.and_eq_true] at h
    obtain ⟨a, b⟩ := shown_le d h.1
    obtain ⟨c, e⟩ := shownAll_le ds h.2
    constructor
    · rw [PyData.shownAll, piled_cons, nods]; omega
    · simp [PyData.showableAll, b, e]
end
end K43
end
section
set_option maxHeartbeats 2000000
/-! sets of texts: set(xs), sorted(set) -/
namespace SX
open PySem PySem.Spec PyProof.Rows L2
/-- a member as it stands in the set's table -/
noncomputable def Is (w : World) (k : Str) (e : Int × Value) : Prop := e.1 = hashStr w k ∧ ∃ t, e.2 = .str k t
noncomputable def nameOf (e : Int × Value) : Str := match e.2 with | .str k _ => k | _ => Str.empty
/-- the set at a: its members in the table's sequence -/
structure Txt (w : World) (h : Heap) (a : Addr) (L : List Str) (es : Array (Int × Value)) (ep : Nat) (t : SetTable) : Prop where
  ob : ∃ o, h.get? a = some o ∧ o.ExactSet ∧ o.data = .set es ep t
  is : ∀ e ∈ es.toList, Is w (nameOf e) e
  names : es.toList.map nameOf = L
  nd : L.Nodup
  few : L.length < 4000
  fits : t.fits es.size = true
  ris : Ris t.place.toList
  led : w.params.followText "set-order" = true ∨ t.led = true
section
variable {P : Program} {w : World} {A : Around} {E : Value → Shared → Prop} {s : Shared} {h h' : Heap} {a : Addr} {L : List Str} {es : Array (Int × Value)} {ep : Nat} {t : SetTable}
end
end SX
end
section
set_option maxHeartbeats 2000000
namespace SX
open PySem PySem.Spec PyProof.Rows L2
section
variable {P : Program} {w : World} {A : Around} {E : Value → Shared → Prop} {s : Shared}
/-- what a walk over the first i of xs has gathered -/
noncomputable def Got (xs : List Str) (i : Nat) (L : List Str) : Prop := (∀ k, k ∈ L ↔ k ∈ xs.take i) ∧ L.length ≤ i


end
end SX
end
section
set_option maxHeartbeats 2000000
namespace SX
open PySem PySem.Spec PyProof.Rows L2
section
variable {P : Program} {w : World} {A : Around} {E : Value → Shared → Prop} {s : Shared} {a : Addr} {L : List Str} {es : Array (Int × Value)} {ep : Nat} {t : SetTable}
end
/-- the set of texts at a, as an object -/
noncomputable def SetO (w : World) (a : Addr) (L : List Str) : HO := .ext fun h => ∃ L' es ep t, L'.Perm L ∧ Txt w h a L' es ep t
section
variable {X : Cx}
noncomputable def rSet (K : PySem.W.Frag) (w : World) : List V → Hp → VK → Prop := fun xs H Q => ∃ (l : Addr) (ks : List Str), xs = [V.ref l] ∧ SqL K H l (ks.map V.str) ∧ ks.length < 4000 ∧
  ∀ a L, H a = none → L.Nodup → (∀ k, k ∈ L ↔ k ∈ ks) → Q (.ref a) (upd H a (SetO w a L))
noncomputable def rSorted (w : World) : List V → Hp → VK → Prop := fun vs H Q => ∃ (a : Addr) (L : List Str), vs = [V.ref a] ∧ H a = some (SetO w a L) ∧ L.length < 64 ∧
  ∀ (ys : List Str) (p : Addr), ys.Perm L → sortedS ys = true → H p = none → Q (.ref p) (upd H p (.lst (ys.map V.str)))
/-- sorted(set(xs)) as one expression -/
noncomputable def tSortedSet (K : PySem.W.Frag) (w : World) (t : TA) : TE := tCB (rSorted w) fun σ H Q => tCB (rSet K w) t σ H fun v H1 => Q [v] H1
end
end SX
end
section
set_option maxHeartbeats 2000000
/-! what is told: formulas and sayings, nested tuples -/
namespace TD
open PySem L2 Evl G TM
/-- a leaf, a part behind a thing of its own, a not, two parts -/
inductive Td where
  | lf (w : Str) (v : V)
  | ov (w : Str) (v : V) (t : Td)
  | nt (t : Td)
  | bi (w : Str) (t u : Td)
noncomputable def word : Td → Str
  | .lf w _ => w
  | .ov w _ _ => w
  | .nt _ => "not"
  | .bi w _ _ => w
noncomputable def kids : Td → List Td
  | .lf _ _ => []
  | .ov _ _ t => [t]
  | .nt t => [t]
  | .bi _ t u => [t, u]
noncomputable def At (H : Hp) : V → Td → Prop
  | x, .lf w v => ∃ a, x = .ref a ∧ H a = some (.tup [.str w, v])
  | x, .ov w v t => ∃ a y, x = .ref a ∧ H a = some (.tup [.str w, v, y]) ∧ At H y t
  | x, .nt t => ∃ a y, x = .ref a ∧ H a = some (.tup [.str "not", y]) ∧ At H y t
  | x, .bi w t u => ∃ a y z, x = .ref a ∧ H a = some (.tup [.str w, y, z]) ∧ At H y t ∧ At H z u
/-- all tuples stay -/
noncomputable def Tu (H H' : Hp) : Prop := ∀ a xs, H a = some (.tup xs) → H' a = some (.tup xs)
noncomputable abbrev Ats (H : Hp) : List V → List Td → Prop := Paired (At H)
/-- a thing's tuple: its word, its own thing (if there is one), its parts -/
noncomputable def own : Td → List V
  | .lf _ v => [v]
  | .ov _ v _ => [v]
  | _ => []
/-! ### which are formulas, which are sayings -/
noncomputable def ruleL : List Str := ["a", "b", "c", "d", "e", "f", "g", "h"]
noncomputable def nameL : List Str := ["p", "q", "r", "s", "t", "u", "v", "w", "x", "y", "z"]
noncomputable def turnL : List Str := ["on", "by", "til"]
noncomputable def IsF : Td → Prop
  | .lf w v => (w = "day" ∧ ∃ n, n ∈ nameL ∧ v = .str n) ∨ (w = "num" ∧ ∃ i, v = .int i)
  | .ov w v t => ((w ∈ turnL ∧ ∃ r, r ∈ ruleL ∧ v = .str r) ∨ (w = "add" ∧ ∃ i, v = .int i)) ∧ IsF t
  | .nt _ => False
  | .bi w t u => (w = "late" ∨ w = "soon") ∧ IsF t ∧ IsF u
noncomputable def IsS : Td → Prop
  | .lf _ _ => False
  | .ov _ _ _ => False
  | .nt t => IsS t
  | .bi w t u => (w = "le" ∧ IsF t ∧ IsF u) ∨ ((w = "and" ∨ w = "or") ∧ IsS t ∧ IsS u)
/-- what parts_of may be asked of -/
noncomputable def Ok : Td → Prop
  | .lf w _ => w = "day" ∨ w = "num"
  | .ov w _ _ => w = "on" ∨ w = "by" ∨ w = "til" ∨ w = "add"
  | .nt _ => True
  | .bi w _ _ => w = "late" ∨ w = "soon" ∨ w = "le" ∨ w = "and" ∨ w = "or"
noncomputable def OkD : Td → Prop
  | .lf w v => Ok (.lf w v)
  | .ov w v t => Ok (.ov w v t) ∧ OkD t
  | .nt t => OkD t
  | .bi w t u => Ok (.bi w t u) ∧ OkD t ∧ OkD u
/-! ### pieces -/
noncomputable def pcs : Td → List Td
  | .lf w v => [.lf w v]
  | .ov w v t => .ov w v t :: pcs t
  | .nt t => .nt t :: pcs t
  | .bi w t u => .bi w t u :: (pcs t ++ pcs u)
/-- so many pieces in a list of things -/
noncomputable def sizes (ts : List Td) : Nat := (ts.flatMap pcs).length
noncomputable def namesOf (t : Td) : List Str := (pcs t).filterMap fun u => match u with | .lf w (.str n) => if w = "day" then some n else none | _ => none
noncomputable def rulesOf (t : Td) : List Str := (pcs t).filterMap fun u => match u with | .ov w (.str r) _ => if w ∈ turnL then some r else none | _ => none
/-! ### days -/
noncomputable def dayOf (dn : Str → Int) (wd : Str → List Int) : Td → Int
  | .lf _ (.str n) => dn n
  | .lf _ (.int i) => i
  | .lf _ _ => 0
  | .ov w (.str r) t => if w = "on" then onL (wd r) (dayOf dn wd t) else if w = "by" then byL (wd r) (dayOf dn wd t) else tilL (wd r) (dayOf dn wd t)
  | .ov _ (.int i) t => dayOf dn wd t + i
  | .ov _ _ _ => 0
  | .nt _ => 0
  | .bi w t u => if w = "late" then (if dayOf dn wd u > dayOf dn wd t then dayOf dn wd u else dayOf dn wd t) else (if dayOf dn wd u < dayOf dn wd t then dayOf dn wd u else dayOf dn wd t)
open Classical in
noncomputable def soOf (dn : Str → Int) (wd : Str → List Int) : Td → Bool
  | .lf _ _ => false
  | .ov _ _ _ => false
  | .nt t => !soOf dn wd t
  | .bi w t u => if w = "le" then decide (dayOf dn wd t ≤ dayOf dn wd u) else if w = "and" then soOf dn wd t && soOf dn wd u else soOf dn wd t || soOf dn wd u
end TD
end
section
set_option maxHeartbeats 2000000
namespace G
open PySem L2 Evl TD SX
section
variable {X : Cx} {K : PySem.W.Frag} {o i : Expr} {td ty : TE} {pos : Pos}
theorem slA (hK : X.K = K) : SlR X (rSlA K) := hK ▸ sl_tupA
theorem isiS (hK : X.K = K) : CallR X (.builtin "isinstance") (rIsi K) := hK ▸ call_isi
theorem inS (hK : X.K = K) : OpR X (compareOp .In) (rIn K false) := hK ▸ op_in_seq
end
variable {K : PySem.W.Frag} {σ : L2.St} {H H' : Hp} {ta tb te tx : TE} {tt : TT} {x y z v : V} {p a l C dx : Addr} {tA tr tk : TA} {xs ys : List V} {t u : Td} {ts us : List Td} {D : Ends} {tz : TS} {i : Nat} {Q : VK} {sp : Sp} {dvs vs : List V} {E : XK}
theorem eu_slA {tl th : TO} {lo hi : Option Int} (h : Ev te σ H (.ref a)) (h1 : EvO tl σ H lo) (h2 : EvO th σ H hi) (hs : SqT K H a xs) (hw : ¬ (HT.sIx xs.length 0 lo = 0 ∧ HT.sIx xs.length xs.length hi = xs.length)) :
    EvU (tSl (rSlA K) te tl th) σ H (cutV xs lo hi) := fun H1 e _ q =>
  h H1 e _ fun H2 e2 => h1 H2 (e.trans e2) _ fun H3 e3 => h2 H3 ((e.trans e2).trans e3) _ fun H4 e4 =>
    ⟨a, xs, rfl, ex_t (((e.trans e2).trans e3).trans e4) hs, fun z => absurd z hw, fun _ p hp => q p _ (fresh_back ((e2.trans e3).trans e4) hp) (((e2.trans e3).trans e4).trans (Ex.new hp)) upd_same⟩
/-! ### what evaluates to a told thing, to a new tuple or list of told things -/
noncomputable def EvTd (te : TE) (σ : L2.St) (H : Hp) (t : Td) : Prop := ∀ H1, Ex H H1 → ∀ Q : VK, (∀ v H2, Ex H1 H2 → At H2 v t → Q v H2) → te σ H1 Q
noncomputable def EvKs (te : TE) (σ : L2.St) (H : Hp) (ts : List Td) : Prop := ∀ H1, Ex H H1 → ∀ Q : VK, (∀ p ys H2, H1 p = none → Ex H1 H2 → H2 p = some (.tup ys) → Ats H2 ys ts → Q (.ref p) H2) → te σ H1 Q
noncomputable def EvLs (te : TE) (σ : L2.St) (H : Hp) (ts : List Td) : Prop := ∀ H1, Ex H H1 → ∀ Q : VK, (∀ p ys H2, H1 p = none → Ex H1 H2 → H2 p = some (.lst ys) → Ats H2 ys ts → Q (.ref p) H2) → te σ H1 Q
noncomputable def RetTd (t : Td) (H : Hp) (Q : VK) : Prop := ∀ v H2, Ex H H2 → At H2 v t → Q v H2
noncomputable def RetKs (ts : List Td) (H : Hp) (Q : VK) : Prop := ∀ p ys H2, H p = none → Ex H H2 → H2 p = some (.tup ys) → Ats H2 ys ts → Q (.ref p) H2
noncomputable def RetLs (ts : List Td) (H : Hp) (Q : VK) : Prop := ∀ p ys H2, H p = none → Ex H H2 → H2 p = some (.lst ys) → Ats H2 ys ts → Q (.ref p) H2
noncomputable def SpTd (sp : Sp) (vs : List V) (H : Hp) (t : Td) : Prop := ∀ H1, Ex H H1 → ∀ Q : VK, RetTd t H1 Q → ∀ E : XK, sp vs H1 Q E
noncomputable def SpKs (sp : Sp) (vs : List V) (H : Hp) (ts : List Td) : Prop := ∀ H1, Ex H H1 → ∀ Q : VK, RetKs ts H1 Q → ∀ E : XK, sp vs H1 Q E
noncomputable def SpLs (sp : Sp) (vs : List V) (H : Hp) (ts : List Td) : Prop := ∀ H1, Ex H H1 → ∀ Q : VK, RetLs ts H1 Q → ∀ E : XK, sp vs H1 Q E
/-! ### statements -/
end G
end
section
set_option maxHeartbeats 2000000
namespace G
open PySem L2 Evl TD SX PyProof.Rows
/-! ### the sorted list of what stands in a list of texts -/
/-- ys is what sorted(set(xs)) tells -/
noncomputable def IsNrm (xs ys : List Str) : Prop := sortedS ys = true ∧ ys.Nodup ∧ ∀ k, k ∈ ys ↔ k ∈ xs
open Classical in
noncomputable def nrm (xs : List Str) : List Str := if h : ∃ ys, IsNrm xs ys then Classical.choose h else []
variable {K : PySem.W.Frag} {w : World} {σ : L2.St} {H H' : Hp} {ta tb te tx tl : TE} {tt : TT} {x y z v : V} {p a l C dx : Addr} {tA tr tk : TA} {xs ys : List V} {t u : Td} {ts us : List Td} {D : Ends} {tz : TS} {i j : Nat} {Q : VK} {sp : Sp} {dvs : List V} {vs : List Nat} {E : XK}
/-! ### comprehensions over told things -/
end G
end
section
set_option maxHeartbeats 2000000
namespace SX
open PySem PySem.Spec PyProof.Rows L2
/-- the signs of a text -/
noncomputable def signs (z : Str) : List Str := z.cps.toList.map fun c => ⟨#[c]⟩
noncomputable def rListStr : List V → Hp → VK → Prop := fun xs H Q => ∃ z, xs = [V.str z] ∧ z.cps.size ≤ sizeLine ∧ ∀ l, H l = none → Q (.ref l) (upd H l (.lst ((signs z).map V.str)))
end SX
end
section
set_option maxHeartbeats 2000000
namespace G
open PySem PySem.Spec PyProof.Rows L2

/-! ### the end of a law whose promise is told where no repr is running -/
section
variable {P : Program} {w : World} {K : PySem.W.Frag} {mg mb : Str → Option Value} {CX : CXT} {k : Nat} {fa a : Addr} {fd : FuncData} {x : Str} {sp : Sp} {s₁ : Shared} {vs : List Value} {ns : List Int}
noncomputable def scrObj (vs : List Value) : Obj := { cls := .type "list", data := .seq vs.toArray }
/-- the script alone, if the module does not know it -/
noncomputable def scrHp (K : PySem.W.Frag) (a : Addr) (vs : List Value) (ns : List Int) : Hp := fun b => if b = a ∧ (K.lookup a).isNone = true then some (.frz (scrObj vs) (.lst (ns.map V.int))) else none
theorem scr_some {b : Addr} {u : HO} (h : scrHp K a vs ns b = some u) : (b = a ∧ (K.lookup a).isNone = true) ∧ u = .frz (scrObj vs) (.lst (ns.map V.int)) := by
  unfold scrHp at h
  by_cases q : b = a ∧ (K.lookup a).isNone = true
  · rw [if_pos q] at h
    exact ⟨q, (Option.some.inj h).symm⟩
  · rw [if_neg q] at h
    cases h
theorem scr_off {b : Addr} (h : ¬ (b = a ∧ (K.lookup a).isNone = true)) : scrHp K a vs ns b = none := if_neg h
theorem scr_only : Only (scrHp K a vs ns) := fun b => by
  cases q : scrHp K a vs ns b with
  | none => exact .inl rfl
  | some u => exact .inr ⟨_, _, by rw [(scr_some q).2]⟩
theorem scr_sq (KX : K.In s₁.heap) (ha : s₁.heap.get? a = some (scrObj vs)) (rv : Vals (ns.map V.int) vs) (hlen : vs.length = ns.length) (hl : ns.length ≤ sizeLine) : SqL K (scrHp K a vs ns) a (ns.map V.int) := by
  cases q : K.lookup a with
  | none => exact .inl (.inr ⟨scrObj vs, if_pos ⟨rfl, by rw [q]; rfl⟩⟩)
  | some o =>
    have e := KX a o q
    rw [ha] at e
    cases e
    exact .inr ⟨_, vs.toArray, _, q, rfl, rfl, rfl, by simpa [hlen] using hl, by simpa using rv⟩
theorem law_true (KX : K.In s₁.heap) (hns : s₁.heap.Ns mainGlobals mg) (hb : s₁.heap.Ns builtinsNs mb) (hbb : ∀ x : Str, x ≠ "__name__" → mb x = bootBuiltins x) (hlim : s₁.heap.NoLimit) (hg : s₁.gens = #[])
    (ha : s₁.heap.get? a = some (scrObj vs)) (hi : IntsAre vs ns) (hl : ns.length ≤ sizeLine) (hr : Room k callerA)
    (F : ∀ base : Heap, K.In base → base.Ns mainGlobals mg → FnG P w K mg base CX k fa fd [x] sp) (hbind : ∀ (s : Shared) (u : Value), BindsTo s fd ⟨[u], []⟩ [(x, u)])
    (hsp : ∀ H : Hp, Only H → SqL K H a (ns.map V.int) → sp [.ref a] H (fun v _ => v = .bl true) fun _ _ _ => False) (hCX : ∀ H e s', CX [] H s₁ (fun _ _ _ => False) e s' → False) :
    codeAny (model P w) callerA (.call (.ref fa) ⟨[.ref a], []⟩) (fun r s' => r = .ok (.ret (.bool true)) ∧ OldK s₁.heap s'.heap ∧ s'.os = s₁.os ∧ AllBare s'.gens) s₁ := by
  have rv := vals_ints hi
  have hok : HOk P w (scrHp K a vs ns) s₁.heap := fun b u z => by
    obtain ⟨⟨rfl, _⟩, rfl⟩ := scr_some z
    exact ⟨ha, by rw [List.length_map]; exact hl, vs, _, rv, ha⟩
  have keepK : ∀ {b : Addr} {o : Obj}, K.lookup b = some o → (hidT s₁.heap (scrHp K a vs ns)).get? b = some o := fun {b o} e => hidT_get (KX b o e) (scr_off fun q => by
    obtain ⟨rfl, q2⟩ := q
    rw [e] at q2
    cases q2)
  have keepN : ∀ {b : Addr} {m : Str → Option Value}, s₁.heap.Ns b m → (hidT s₁.heap (scrHp K a vs ns)).Ns b m := by
    rintro b m ⟨o, es, ep, e, d, r⟩
    refine ⟨o, es, ep, hidT_get e (scr_off fun q => ?_), d, r⟩
    obtain ⟨rfl, _⟩ := q
    rw [ha] at e
    cases e
    cases (show Data.seq vs.toArray _ = Data.dict es ep from d)
  have inK : K.In (hidT s₁.heap (scrHp K a vs ns)) := fun b o e => keepK e
  have M : Mod K mg (hidT s₁.heap (scrHp K a vs ns)) := ⟨inK, keepN hns, ⟨mb, keepN hb, hbb⟩, by obtain ⟨mc, q1, q2⟩ := hlim; exact ⟨mc, keepN q1, q2⟩⟩
  have out : ∀ b : Addr, b ∉ ([] : List Addr) := fun b q => nomatch q
  have env : Env0 P w K mg (hidT s₁.heap (scrHp K a vs ns)) callerA [] s₁ (scrHp K a vs ns) := { frames := rfl, mod := M, bs := fun b o e => of_hidT e, bsz := Nat.le_of_eq (hidT_size _ _), funs := trivial, frf := fun b q => (out b q).elim, hok := hok, bare := .of_eq hg }
  have go := (F _ inK (keepN hns)).run callerA [] s₁ (scrHp K a vs ns) ⟨[.ref a], []⟩ [.ref a] [.ref a] _ _ rfl hr env (hbind s₁ (.ref a)) (.cons rfl .nil) (hsp _ scr_only (scr_sq KX ha rv hi.length hl))
  refine codeAny_mono go fun r s' h => ?_
  match r, h with
  | .error e, h => exact (hCX _ e s' h).elim
  | .ok .next, h => exact h.elim
  | .ok .brk, h => exact h.elim
  | .ok .cont, h => exact h.elim
  | .ok (.ret u), h =>
    obtain ⟨v, H', os, bare, un, hok', r', rfl⟩ := h
    cases r'
    refine ⟨rfl, OldK.of_keep fun b o e => ?_, os, bare⟩
    cases q : scrHp K a vs ns b with
    | none => exact un.keep b o e q (out b) (by simp)
    | some u =>
      have q2 := (scr_some q).2
      subst q2
      have z1 := (hok b _ q).1
      have z2 := (hok' b _ (un.frzs b _ _ q)).1
      rw [e] at z1
      cases z1
      exact z2
end
theorem walkG {l : PySem.W.OpenLaw} {n k : Nat} {q : Program} {loose : List Str} {XP : (Str → Option Value) → Heap → Prop} {YP : World → Heap → Prop} {d : DefRec} {K : Params → PySem.W.Frag} {CX : CXT} {sp : PySem.W.Frag → Sp} {x : Str}
    (hn : l.most = some n) (hn2 : n ≤ sizeLine) (hdf : d.params.defaults = []) (hr : Room k callerA) (hY : ∀ (w : World) (h : Heap), YP w h → (K w.params).In h)
    (F : ∀ (w : World) (mg : Str → Option Value) (fa : Addr) (h : Heap), (K w.params).In h → h.Ns mainGlobals mg → mg d.name = some (.ref fa) → ∃ fd : FuncData, (∀ (s : Shared) (u : Value), BindsTo s fd ⟨[u], []⟩ [(x, u)]) ∧ ∀ base : Heap, (K w.params).In base → base.Ns mainGlobals mg → FnG l.prog w (K w.params) mg base CX k fa fd [x] (sp (K w.params)))
    (hsp : ∀ (K : PySem.W.Frag) (H : Hp) (a : Addr) (ns : List Int), ns.length ≤ n → Only H → SqL K H a (ns.map V.int) → sp K [.ref a] H (fun v _ => v = .bl true) fun _ _ _ => False)
    (hCX : ∀ (H : Hp) (s : Shared) (e : Value) (s' : Shared), CX [] H s (fun _ _ _ => False) e s' → False) : PySem.W.WalkO q loose XP YP l.row.toRowW d [] (fun f vs => PySem.call f vs) :=
  Att.attach_call hn hdf fun w s₀ s₁ mg mb fa o pm cd doc a vs ns G Y ho hd hcd hmg hobj hints hlen hg => by
    have KX := hY w _ Y
    obtain ⟨fd, hb, hF⟩ := F w mg fa _ KX G.T.g hmg
    exact law_true KX G.T.g G.T.b G.T.builtins G.T.nolimit hg hobj hints (Nat.le_trans hlen hn2) hr hF hb (fun H hO hS => hsp _ H a ns hlen hO hS) fun H e s' => hCX H s₁ e s'
/-- a def called with keywords, no defaults -/
theorem kb_of {K : PySem.W.Frag} {x qual : Str} {st : Stmt} {f : Addr} {fd : FuncData} {ps ks : List Str} {n : Nat} {g : List Value → List Value → List Value} {gV : List V → List V → List V} (F : Fun K x qual st f fd)
    (h : ∀ (kV doc pm : Value) (an : Option Addr) (cdv ct : Value) (us ws : List Value), us.length = n → ws.length = ks.length → bindArgs (PySem.W.fnOf x qual (defArgs st) (defBody st) (defScope st) .none kV doc pm an cdv ct) ⟨us, ks.zip ws⟩ = pure (ps.zip (g us ws)))
    (hrel : ∀ {vs : List V} {us : List Value} {zs : List V} {ws : List Value}, Vals vs us → Vals zs ws → Vals (gV vs zs) (g us ws)) : KBn K fd ps n ks g gV := by
  obtain ⟨oc, od, kV, doc, pm, an, cdv, ct, osl, rfl, lk, hcd⟩ := F.ex
  exact ⟨fun s us ws _ h1 h2 => BindsTo.of_looks fun M => by rw [h kV doc pm an cdv ct us ws h1 h2]; exact PySem.W.Looks.now, hrel⟩
theorem vals_rev : ∀ {vs : List V} {us : List Value}, Vals vs us → Vals vs.reverse us.reverse
  | _, _, .nil => .nil
  | _, _, .cons a b => by rw [List.reverse_cons, List.reverse_cons]; exact (vals_rev b).append (.cons a .nil)
end G
end
section
set_option maxHeartbeats 4000000
namespace K43
open PySem L2 Evl G OW
structure Cal (P : Program) (w : World) (K : PySem.W.Frag) (mg : Str → Option Value) (base : Heap) (x : Str) (f : Addr) (fd : FuncData) (ps : List Str) (k : Nat) (sp : Sp) : Prop where
  ok : FnOk P w K mg base CX0 k f fd ps sp
  mgx : mg x = some (.ref f)
  kp : PySem.W.keepIn K (.ref f) = true
  bd : Binds K fd ps []
structure CalG (P : Program) (w : World) (K : PySem.W.Frag) (mg : Str → Option Value) (base : Heap) (x : Str) (f : Addr) (fd : FuncData) (ps : List Str) (k : Nat) (sp : Sp) : Prop where
  ok : FnG P w K mg base CX0 k f fd ps sp
  mgx : mg x = some (.ref f)
  kp : PySem.W.keepIn K (.ref f) = true
  bd : Binds K fd ps []
structure Me (K : PySem.W.Frag) (mg : Str → Option Value) (x : Str) (f : Addr) (fd : FuncData) (ps : List Str) : Prop where
  mgx : mg x = some (.ref f)
  kp : PySem.W.keepIn K (.ref f) = true
  bd : Binds K fd ps []
/-! ### which type -/
noncomputable def isStrD : PyData → Bool
  | .str _ => true
  | _ => false
noncomputable def isTupD : PyData → Bool
  | .tuple _ => true
  | _ => false
noncomputable def isInD : PyData → Bool
  | .int _ | .bool _ => true
  | _ => false
noncomputable def isBlD : PyData → Bool
  | .bool _ => true
  | _ => false
theorem kit_tup : ∀ d : PyData, kitB (tyD d) "tuple" = some (isTupD d)
  | .none => (by decide +kernel : kitB "NoneType" "tuple" = some false)
  | .bool _ => (by decide +kernel : kitB "bool" "tuple" = some false)
  | .int _ => (by decide +kernel : kitB "int" "tuple" = some false)
  | .str _ => (by decide +kernel : kitB "str" "tuple" = some false)
  | .list _ => (by decide +kernel : kitB "list" "tuple" = some false)
  | .tuple _ => (by decide +kernel : kitB "tuple" "tuple" = some true)
  | .dict _ => (by decide +kernel : kitB "dict" "tuple" = some false)
theorem kit_int : ∀ d : PyData, kitB (tyD d) "int" = some (isInD d)
  | .none => (by decide +kernel : kitB "NoneType" "int" = some false)
  | .bool _ => (by decide +kernel : kitB "bool" "int" = some true)
  | .int _ => (by decide +kernel : kitB "int" "int" = some true)
  | .str _ => (by decide +kernel : kitB "str" "int" = some false)
  | .list _ => (by decide +kernel : kitB "list" "int" = some false)
  | .tuple _ => (by decide +kernel : kitB "tuple" "int" = some false)
  | .dict _ => (by decide +kernel : kitB "dict" "int" = some false)
theorem kit_bool : ∀ d : PyData, kitB (tyD d) "bool" = some (isBlD d)
  | .none => (by decide +kernel : kitB "NoneType" "bool" = some false)
  | .bool _ => (by decide +kernel : kitB "bool" "bool" = some true)
  | .int _ => (by decide +kernel : kitB "int" "bool" = some false)
  | .str _ => (by decide +kernel : kitB "str" "bool" = some false)
  | .list _ => (by decide +kernel : kitB "list" "bool" = some false)
  | .tuple _ => (by decide +kernel : kitB "tuple" "bool" = some false)
  | .dict _ => (by decide +kernel : kitB "dict" "bool" = some false)
theorem is_int_eq : ∀ d : PyData, (isInD d && !isBlD d) = isIntD d := by intro d; cases d <;> rfl
theorem tup_of {H : Hp} {v : V} {d : PyData} (h : Dq H v d) (k : isTupD d = true) : ∃ a xs ds, d = .tuple ds ∧ v = .ref a ∧ H a = some (.tup xs) ∧ DqAll H xs ds := by
  cases h with
  | tup a q => exact ⟨_, _, _, rfl, rfl, a, q⟩
  | _ => cases k
section
variable {P : Program} {w : World} {K : PySem.W.Frag} {mg : Str → Option Value} {base : Heap} {σ : L2.St} {H : Hp} {ta tb te tl : TE} {tt : TT} {j : Nat} {vs : List Nat}
theorem ev_isiB {x : V} {t : String} {n : String} {b : Bool} (h : Ev ta σ H x) (ty : ∀ H1, Ex H H1 → TyX K H1 x (.type t)) (hb : kitB t n = some b) :
    Ev (tCB (rIsi K) (tCons ta (tCons (tC (.ty n)) tNil))) σ H (.bl b) := ev_cb (ea_cons h (ea_cons ev_c ea_nil)) (rc_isi (.ty n) ty (kit_ty hb))
theorem ev_isiD {v : V} {d : PyData} {n : String} {b : Bool} (h : Ev ta σ H v) (hd : Dq H v d) (hb : kitB (tyD d) n = some b) : Ev (tCB (rIsi K) (tCons ta (tCons (tC (.ty n)) tNil))) σ H (.bl b) :=
  ev_isiB h (fun H1 e => .base (ty_of (hd.mono e))) hb
theorem ev_intD {v : V} {d : PyData} (h : Ev te σ H v) (hd : Dq H v d) :
    Ev (tAndV (tCB (rIsi K) (tCons te (tCons (tC (.ty "int")) tNil))) (tNotV (tCB (rIsi K) (tCons te (tCons (tC (.ty "bool")) tNil))))) σ H (.bl (isIntD d)) :=
  ev_is (ev_andV (ev_isiD (K := K) h hd (kit_int d)) fun _ => ev_notV (ev_isiD (K := K) h hd (kit_bool d))) (by rw [is_int_eq])
end
noncomputable def RetU (xs : List V) (H : Hp) (Q : VK) : Prop := ∀ p H2, H p = none → Ex H H2 → H2 p = some (.tup xs) → Q (.ref p) H2
noncomputable def SpU (sp : Sp) (vs : List V) (H : Hp) (xs : List V) : Prop := ∀ H1, Ex H H1 → ∀ Q : VK, RetU xs H1 Q → ∀ E : XK, sp vs H1 Q E
section
variable {P : Program} {w : World} {K : PySem.W.Frag} {mg : Str → Option Value} {base : Heap} {σ : L2.St} {H : Hp} {ta tb te tl : TE} {tt : TT} {j : Nat} {vs : List Nat}
theorem ev_at0 {a : Addr} {xs : List V} {y : V} (h : Ev te σ H (.ref a)) (ha : H a = some (.tup (y :: xs))) : Ev (tOp (rIxT K) te (tC (.int 0))) σ H y := ev_op h ev_c (rv_ixT (st_of ha) (atI_nat (j := 0) rfl))
theorem ev_at1 {a : Addr} {xs : List V} {y z : V} (h : Ev te σ H (.ref a)) (ha : H a = some (.tup (y :: z :: xs))) : Ev (tOp (rIxT K) te (tC (.int 1))) σ H z := ev_op h ev_c (rv_ixT (st_of ha) (atI_nat (j := 1) rfl))
theorem ev_at2 {a : Addr} {xs : List V} {y z v : V} (h : Ev te σ H (.ref a)) (ha : H a = some (.tup (y :: z :: v :: xs))) : Ev (tOp (rIxT K) te (tC (.int 2))) σ H v := ev_op h ev_c (rv_ixT (st_of ha) (atI_nat (j := 2) rfl))
theorem ev_lenTup {a : Addr} {xs : List V} (h : Ev te σ H (.ref a)) (ha : H a = some (.tup xs)) : Ev (tCB (fun xs H Q => ∃ p ys, xs = [.ref p] ∧ (SqL K H p ys ∨ SqT K H p ys) ∧ Q (.int (ys.length : Int)) H) (tCons te tNil)) σ H (.int (xs.length : Int)) := ev_cb (ea_cons h ea_nil) (rc_len (.inr (st_of ha)) rfl)
end
noncomputable def SpQs (sp : Sp) (vs : List V) (H : Hp) (ds : List PyData) : Prop := ∀ H1, Ex H H1 → ∀ Q : VK, (∀ p xs H2, H1 p = none → Ex H1 H2 → H2 p = some (.lst xs) → DqAll H2 xs ds → Q (.ref p) H2) → ∀ E : XK, sp vs H1 Q E
section
variable {P : Program} {w : World} {K : PySem.W.Frag} {mg : Str → Option Value} {base : Heap} {σ : L2.St} {H : Hp} {ta tb te tl : TE} {tt : TT} {j : Nat} {vs : List Nat}
theorem given_filterQ (ds : List PyData) (f : PyData → Bool) (g : PyData → V) : given ds.length (fun i => f (ds.getD i .none)) (fun i => g (ds.getD i .none)) = (ds.filter f).map g := by
  have e : ds = (List.range ds.length).map (fun i => ds.getD i .none) := by
    apply List.ext_getElem
    · simp
    · intro k h1 h2
      simp [List.getD_eq_getElem?_getD, List.getElem?_eq_getElem h1]
  unfold given
  conv => rhs; rw [e]
  rw [List.filter_map, List.map_map]
  rfl
theorem getD_q {ds : List PyData} {k : Nat} {r d : PyData} (h : ds[k]? = some r) : ds.getD k d = r := by rw [List.getD_eq_getElem?_getD, h] <;> rfl
theorem filter_yes {α : Type} (l : List α) : l.filter (fun _ => true) = l := List.filter_eq_self.mpr fun _ _ => rfl
theorem el_eq {xs ys : List V} (h : EvL te σ H xs) (e : xs = ys) : EvL te σ H ys := e ▸ h
/-- all([e for l in a list]) -/
theorem ev_allB {α : Type} (f : α → Bool) {ts : List α} (h : EvL te σ H (ts.map fun t => V.bl (f t))) : Ev (tCB (rAll K) (tCons te tNil)) σ H (.bl (ts.all f)) := ev_cbL h fun p H1 e h1 => by
  have := rc_all (K := K) (H := H1) (p := p) (bs := ts.map f) (sq_of (by rw [List.map_map]; exact h1))
  rw [List.all_map] at this
  exact this
end
noncomputable def wo (H : Hp) (p : Addr) : Hp := fun b => if b = p then none else H b
theorem wo_ne {H : Hp} {p b : Addr} (h : b ≠ p) : wo H p b = H b := by unfold wo; rw [if_neg h]
theorem wo_at {H : Hp} {p : Addr} : wo H p p = none := by unfold wo; rw [if_pos rfl]
theorem wo_ex {H : Hp} {p : Addr} : Ex (wo H p) H := fun b o h => by
  by_cases hb : b = p
  · subst hb; rw [wo_at] at h; cases h
  · rwa [wo_ne hb] at h
theorem wo_mono {H H' : Hp} {p : Addr} (e : Ex H H') : Ex (wo H p) (wo H' p) := fun b o h => by
  by_cases hb : b = p
  · subst hb; rw [wo_at] at h; cases h
  · rw [wo_ne hb] at h ⊢; exact e b o h
theorem wo_sub {H H' : Hp} {p : Addr} (e : Ex (wo H p) H') : Ex (wo H p) (wo H' p) := fun b o h => by
  by_cases hb : b = p
  · subst hb; rw [wo_at] at h; cases h
  · have := e b o h
    rwa [wo_ne hb]
theorem wo_upd {H : Hp} {p : Addr} {o : HO} : Ex (wo H p) (upd H p o) := fun b u h => by
  by_cases hb : b = p
  · subst hb; rw [wo_at] at h; cases h
  · rw [upd_ne hb]; rwa [wo_ne hb] at h
noncomputable def PotOk (a b : Int) : Prop := 0 ≤ a ∧ 0 ≤ b ∧ b < 4294967296
noncomputable def PotAt (H : Hp) (p : Addr) : Prop := ∃ a b, PotOk a b ∧ H p = some (.lst [.int a, .int b])
noncomputable def sp_pot (K : PySem.W.Frag) : Sp := fun vs H Q _ => ∃ (s : Addr) (ns : List Int) (k : Int), vs = [.ref s, .int k] ∧ SqL K H s (ns.map V.int) ∧ 0 ≤ k ∧ k ≤ 100 ∧ ∀ p H2, H p = none → Ex H H2 → PotAt H2 p → Q (.ref p) H2
noncomputable def sp_draw : Sp := fun vs H Q _ => ∃ p n, vs = [.ref p, .int n] ∧ PotAt H p ∧ 0 < n ∧ n < 1073741824 ∧ ∀ d H2, 0 ≤ d → d < n → Ex (wo H p) H2 → PotAt H2 p → Q (.int d) H2
noncomputable def sp_pick (K : PySem.W.Frag) : Sp := fun vs H Q _ => ∃ (p s : Addr) (xs : List V), vs = [.ref p, .ref s] ∧ PotAt H p ∧ SqL K (wo H p) s xs ∧ 0 < xs.length ∧ xs.length ≤ 1000 ∧ ∀ (i : Nat) (v : V) (H2 : Hp), xs[i]? = some v → Ex (wo H p) H2 → PotAt H2 p → Q v H2
theorem fmod_pos {a b : Int} (h : 0 < b) : 0 ≤ a.fmod b ∧ a.fmod b < b := by
  rw [Int.fmod_eq_emod_of_nonneg _ (by omega)]
  exact ⟨Int.emod_nonneg _ (by omega), Int.emod_lt_of_pos _ h⟩
section
variable {K : PySem.W.Frag} {H : Hp}
theorem rv_res {r : R2} {x y z z' : V} {H : Hp} (h : RV r x y H z) (e : z = z') : RV r x y H z' := e ▸ h
theorem atI_int {ns : List Int} {i : Int} (h0 : 0 ≤ i) (h : i < (ns.length : Int)) : atI (ns.map V.int) i = some (.int (ns.getD i.toNat 0)) := by
  obtain ⟨k, rfl⟩ : ∃ k : Nat, i = (k : Int) := ⟨i.toNat, by omega⟩
  rw [Int.toNat_natCast]
  have hk : k < ns.length := by omega
  exact atI_nat (by rw [List.getElem?_map, List.getElem?_eq_getElem hk, List.getD_eq_getElem?_getD, List.getElem?_eq_getElem hk] <;> rfl)
theorem cut_one (ns : List Int) : cutV (ns.map V.int) none (some 1) = (ns.take 1).map V.int := by
  cases ns with
  | nil => rfl
  | cons a l =>
    show ((((a :: l).map V.int).drop 0).take (min 1 ((a :: l).map V.int).length - 0)) = _
    rw [List.length_map, List.length_cons, Nat.min_eq_left (by omega)]
    rfl
end
section
variable {K : PySem.W.Frag} {σ : L2.St} {H : Hp} {p : Addr} {i : Nat} {tA : TA} {tn : TE} {Q : VK} {E : XK}
theorem PotAt.mono {H' : Hp} (h : PotAt H p) (e : Ex H H') : PotAt H' p := by obtain ⟨a, b, q, r⟩ := h; exact ⟨a, b, q, e p _ r⟩
theorem PotAt.some (h : PotAt H p) : ∃ o, H p = some o := by obtain ⟨a, b, q, r⟩ := h; exact ⟨_, r⟩
theorem pickC {xs : List V} (hp : PotAt H p) (hv : σ[i]? = some (some (.ref p))) (ha : EvA tA σ (wo H p) xs) (h0 : 0 < xs.length) (h1 : xs.length ≤ 1000) (k : ∀ (j : Nat) (v : V) (H2 : Hp), xs[j]? = some v → Ex (wo H p) H2 → PotAt H2 p → Q v H2) :
    tCall (sp_pick K) [] E (tCons (tVar i) (tCons (tLst tA) tNil)) σ H Q := ⟨.ref p, hv, ha H wo_ex _ fun H1 e1 => ⟨sz_of (by omega), fun s hs => by
      have hp1 := hp.mono e1
      obtain ⟨o, ho⟩ := hp1.some
      have hne : s ≠ p := (ne_of_none ho hs).symm
      exact ⟨p, s, xs, rfl, hp1.mono (Ex.new hs), sq_of (by rw [wo_ne hne]; exact upd_same), h0, h1, fun j v H2 hj e2 h2 => k j v H2 hj ((wo_mono (e1.trans (Ex.new hs))).trans e2) h2⟩⟩⟩
theorem drawC {n : Int} (hp : PotAt H p) (hv : σ[i]? = some (some (.ref p))) (hn : Ev tn σ (wo H p) (.int n)) (h0 : 0 < n) (h1 : n < 1073741824) (k : ∀ d H2, 0 ≤ d → d < n → Ex (wo H p) H2 → PotAt H2 p → Q (.int d) H2) :
    tCall sp_draw [] E (tCons (tVar i) (tCons tn tNil)) σ H Q := ⟨.ref p, hv, hn H wo_ex _ fun H1 e1 => ⟨p, n, rfl, hp.mono e1, h0, h1, fun d H2 d0 d1 e2 h2 => k d H2 d0 d1 ((wo_mono e1).trans e2) h2⟩⟩
end
section
variable {K : PySem.W.Frag} {σ : L2.St} {H : Hp} {p : Addr} {i j i0 : Nat} {tA tr : TA} {tn ta tb tl te : TE} {Q : VK} {E : XK} {D : Ends} {tz : TS} {xs : List V} {vs : List Nat} {QA : List V → Hp → Prop} {ns : List Int} {r : R2} {v : V}
theorem ac_v (h : Ev te σ H v) (k : ∀ H1, Ex H H1 → tr σ H1 fun xs H2 => QA (v :: xs) H2) : tCons te tr σ H QA := h H (Ex.refl H) _ k
theorem ac_nil (k : QA [] H) : tNil σ H QA := k
theorem ac_k (h : te σ H fun v H1 => tr σ H1 fun xs H2 => QA (v :: xs) H2) : tCons te tr σ H QA := h
theorem op_k (h : ta σ H fun x H1 => tb σ H1 fun y H2 => r x y H2 Q) : tOp r ta tb σ H Q := h
theorem lst_k (h : tA σ H fun vs H1 => vs.length ≤ sizeLine ∧ ∀ p, H1 p = none → Q (.ref p) (upd H1 p (.lst vs))) : tLst tA σ H Q := h
theorem tup_k (h : tA σ H fun vs H1 => vs.length ≤ sizeLine ∧ ∀ p, H1 p = none → Q (.ref p) (upd H1 p (.tup vs))) : tTup tA σ H Q := h
theorem ret_k (h : te σ H D.rt) : tRet te D σ H := h
theorem asg_k (h : te σ H fun v H1 => tz D (σ.set i (some v)) H1) : tSeq (tAsg te (gName i)) tz D σ H := h
theorem v_k {v : V} (h : Ev te σ H v) (k : ∀ H1, Ex H H1 → Q v H1) : te σ H Q := h H (Ex.refl H) _ k
theorem call_k {sp : Sp} {dvs : List V} (h : tA σ H fun vs H1 => sp (vs ++ dvs) H1 Q E) : tCall sp dvs E tA σ H Q := h
theorem bm_k {Tn : String} {rm : V → List V → Hp → VK → Prop} {to : TE} {t : TA} (h : to σ H fun x H1 => tyV K Tn x H1 ∧ t σ H1 fun xs H2 => rm x xs H2 Q) : tBM K Tn rm to t σ H Q := h
theorem drop_k (h : te σ H fun _ H1 => D.nx σ H1) : tDrop te D σ H := h
theorem wo_tr {H1 H2 H3 : Hp} (e : Ex (wo H1 p) H2) (e' : Ex (wo H2 p) H3) : Ex (wo H1 p) H3 := (wo_sub e).trans e'
end
section
variable {K : PySem.W.Frag} {σ : L2.St} {H : Hp} {p : Addr} {i j : Nat} {ta tb te : TE} {Q : VK} {E : XK}
end
/-! ### what evaluates to data apart from the pot -/
theorem catA {X : Cx} {K : PySem.W.Frag} (hK : X.K = K) : OpR X (binaryOp .Add) (rCatA K) := hK ▸ op_catA
/-- the heap with the places Z out of sight: the pot, a list that still grows -/
noncomputable def hid (Z : List Addr) (H : Hp) : Hp := fun b => if b ∈ Z then none else H b
theorem hid_off {Z : List Addr} {H : Hp} {b : Addr} (h : b ∉ Z) : hid Z H b = H b := if_neg h
theorem hid_at {Z : List Addr} {H : Hp} {b : Addr} (h : b ∈ Z) : hid Z H b = none := if_pos h
theorem hid_ex {Z : List Addr} {H : Hp} : Ex (hid Z H) H := fun b o h => by
  by_cases hb : b ∈ Z
  · rw [hid_at hb] at h; cases h
  · rwa [hid_off hb] at h
theorem hid_mono {Z : List Addr} {H H' : Hp} (e : Ex H H') : Ex (hid Z H) (hid Z H') := fun b o h => by
  by_cases hb : b ∈ Z
  · rw [hid_at hb] at h; cases h
  · rw [hid_off hb] at h ⊢; exact e b o h
theorem hid_wo {Z : List Addr} {H : Hp} {p : Addr} (hp : p ∈ Z) : Ex (hid Z H) (wo H p) := fun b o h => by
  by_cases hb : b ∈ Z
  · rw [hid_at hb] at h; cases h
  · rw [hid_off hb] at h
    rwa [wo_ne (show b ≠ p from fun z => hb (by rw [z]; exact hp))]
theorem hid_sub {Z : List Addr} {H H' : Hp} {p : Addr} (hp : p ∈ Z) (e : Ex (wo H p) H') : Ex (hid Z H) (hid Z H') := fun b o h => by
  by_cases hb : b ∈ Z
  · rw [hid_at hb] at h; cases h
  · have := e b o (hid_wo hp b o h)
    rwa [hid_off hb]
theorem hid_fit {Z Z' : List Addr} {H : Hp} (h : ∀ b ∈ Z', b ∈ Z) : Ex (hid Z H) (hid Z' H) := fun b o k => by
  by_cases hb : b ∈ Z
  · rw [hid_at hb] at k; cases k
  · rw [hid_off hb] at k; rwa [hid_off fun z => hb (h b z)]
noncomputable def Hd (Z : List Addr) (H : Hp) : Prop := ∀ b ∈ Z, ∃ o, H b = some o
theorem Hd.mono {Z : List Addr} {H H' : Hp} (h : Hd Z H) (e : Ex H H') : Hd Z H' := fun b hb => let ⟨o, ho⟩ := h b hb; ⟨o, e b o ho⟩
theorem Hd.step {Z : List Addr} {H H' : Hp} {p : Addr} (h : Hd Z H) (e : Ex (wo H p) H') (hp : PotAt H' p) : Hd Z H' := fun b hb => by
  by_cases hq : b = p
  · rw [hq]; exact hp.some
  · obtain ⟨o, ho⟩ := h b hb
    exact ⟨o, e b o (by rwa [wo_ne hq])⟩
theorem Hd.new {Z : List Addr} {H : Hp} {a : Addr} (h : Hd Z H) (ha : H a = none) : a ∉ Z := fun z => by
  obtain ⟨o, ho⟩ := h a z
  rw [ha] at ho; cases ho
noncomputable def EvW (Z : List Addr) (te : TE) (σ : L2.St) (H : Hp) (d : PyData) : Prop := ∀ H1, Ex H H1 → ∀ Q : VK, (∀ v H2, Ex H1 H2 → Dq (hid Z H2) v d → Q v H2) → te σ H1 Q
noncomputable def EvAW (Z : List Addr) (tA : TA) (σ : L2.St) (H : Hp) (ds : List PyData) : Prop := ∀ H1, Ex H H1 → ∀ Q : List V → Hp → Prop, (∀ vs H2, Ex H1 H2 → DqAll (hid Z H2) vs ds → Q vs H2) → tA σ H1 Q
noncomputable def EvLw (Z : List Addr) (te : TE) (σ : L2.St) (H : Hp) (ds : List PyData) : Prop := ∀ H1, Ex H H1 → ∀ Q : VK, (∀ a vs H2, H1 a = none → Ex H1 H2 → hid Z H2 a = some (.lst vs) → DqAll (hid Z H2) vs ds → Q (.ref a) H2) → te σ H1 Q
section
variable {K : PySem.W.Frag} {σ : L2.St} {H : Hp} {te ta tb : TE} {tA : TA} {v : V} {d : PyData} {ds es : List PyData} {D : Ends} {tz : TS} {i : Nat} {p : Addr} {Z : List Addr}
theorem ew_of (h : Ev te σ H v) (hd : ∀ H1, Dq H1 v d) : EvW Z te σ H d := fun H1 e Q q => h H1 e Q fun H2 e2 => q v H2 e2 (hd _)
theorem ew_int {i : Int} : EvW Z (tC (.int i)) σ H (.int i) := ew_of ev_c fun _ => .int i
theorem ew_neg {i : Int} : EvW Z (tUn (rU fun i => .int (-i)) (tC (.int i))) σ H (.int (-i)) := ew_of (ev_un ev_c ru_neg) fun _ => .int (-i)
theorem aw_nil : EvAW Z tNil σ H [] := fun H1 _ Q q => q [] H1 (Ex.refl _) .nil
theorem aw_cons (h : EvW Z te σ H d) (t : EvAW Z tA σ H ds) : EvAW Z (tCons te tA) σ H (d :: ds) := fun H1 e Q q =>
  h H1 e _ fun v H2 e2 a => t H2 (e.trans e2) _ fun vs H3 e3 k => q (v :: vs) H3 (e2.trans e3) (.cons (a.mono (hid_mono e3)) k)
theorem ew_tup (hp : Hd Z H) (h : EvAW Z tA σ H ds) (hl : ds.length ≤ 100000) : EvW Z (tTup tA) σ H (.tuple ds) := fun H1 e Q q =>
  h H1 e _ fun vs H2 e2 k => ⟨sz_of (by rw [k.len]; exact hl), fun a ha => q _ _ (e2.trans (Ex.new ha)) (.tup (by rw [hid_off ((hp.mono (e.trans e2)).new ha)]; exact upd_same) (k.mono (hid_mono (Ex.new ha))))⟩
theorem lw_lst (hp : Hd Z H) (h : EvAW Z tA σ H ds) (hl : ds.length ≤ 100000) : EvLw Z (tLst tA) σ H ds := fun H1 e Q q =>
  h H1 e _ fun vs H2 e2 k => ⟨sz_of (by rw [k.len]; exact hl), fun a ha => q a vs _ (fresh_back e2 ha) (e2.trans (Ex.new ha)) (by rw [hid_off ((hp.mono (e.trans e2)).new ha)]; exact upd_same) (k.mono (hid_mono (Ex.new ha)))⟩
theorem ew_lst (hp : Hd Z H) (h : EvAW Z tA σ H ds) (hl : ds.length ≤ 100000) : EvW Z (tLst tA) σ H (.list ds) := fun H1 e Q q =>
  h H1 e _ fun vs H2 e2 k => ⟨sz_of (by rw [k.len]; exact hl), fun a ha => q _ _ (e2.trans (Ex.new ha)) (.lst (by rw [hid_off ((hp.mono (e.trans e2)).new ha)]; exact upd_same) (k.mono (hid_mono (Ex.new ha))))⟩
/-- pick(pot, s), s a list of data -/
theorem pickQ {s : Addr} {xs : List V} {j : Nat} {Q : VK} {E : XK} (hp : PotAt H p) (hz : p ∈ Z) (hv : σ[i]? = some (some (.ref p))) (hs : σ[j]? = some (some (.ref s))) (hl : hid Z H s = some (.lst xs)) (kk : DqAll (hid Z H) xs ds) (h0 : 0 < ds.length) (h1 : ds.length ≤ 1000)
    (k : ∀ (v : V) (d : PyData) (H2 : Hp), d ∈ ds → Ex (wo H p) H2 → PotAt H2 p → Dq (hid Z H2) v d → Q v H2) : tCall (sp_pick K) [] E (tCons (tVar i) (tCons (tVar j) tNil)) σ H Q := ⟨.ref p, hv, .ref s, hs, p, s, xs, rfl, hp, sq_of (hid_wo hz _ _ hl), by rw [kk.len]; exact h0, by rw [kk.len]; exact h1, fun m v H2 hm e h2 => by
      obtain ⟨d, hd, a⟩ := kk.get hm
      exact k v d H2 (List.mem_of_getElem? hd) e h2 (a.mono (hid_sub hz e))⟩
end
mutual
theorem dq_dp {K : PySem.W.Frag} {H : Hp} : ∀ (d : PyData) {v : V}, d.canLay0 = true → Dq H v d → Dp K H v d
  | .none, _, _, h => by cases h; exact .non
  | .bool _, _, _, h => by cases h; exact .bl _
  | .int _, _, _, h => by cases h; exact .int _
  | .str _, _, _, h => by cases h; exact .str _
  | .list ds, _, c, h => by cases h with | lst a k => exact .lst (sq_of a) (dqAll_dp ds (by simpa [PyData.canLay0] using c) k)
  | .tuple ds, _, c, h => by cases h with | tup a k => exact .tup (st_of a) (dqAll_dp ds (by simpa [PyData.canLay0] using c) k)
  | .dict _, _, c, _ => by simp [PyData.canLay0] at c
theorem dqAll_dp {K : PySem.W.Frag} {H : Hp} : ∀ (ds : List PyData) {vs : List V}, PyData.canLayAll0 ds = true → DqAll H vs ds → DpAll K H vs ds
  | [], _, _, h => by cases h; exact .nil
  | d :: ds, _, c, h => by
    have c' : d.canLay0 = true ∧ PyData.canLayAll0 ds = true := by simpa [PyData.canLayAll0] using c
    cases h with | cons a k => exact .cons (dq_dp d c'.1 a) (dqAll_dp ds c'.2 k)
end
theorem eqv_nilL (ds : List PyData) : PyData.eqv (.list ds) (.list []) = ds.isEmpty := by
  cases ds <;> simp [PyData.eqv, PyData.eqvAll]
theorem layAll_ints : ∀ ns : List Int, PyData.canLayAll0 (ns.map PyData.int) = true
  | [] => rfl
  | n :: ns => by rw [List.map_cons]; simp [PyData.canLayAll0, PyData.canLay0, layAll_ints ns]
theorem depthAll_ints : ∀ ns : List Int, PyData.depthAll (ns.map PyData.int) = 0
  | [] => rfl
  | n :: ns => by rw [List.map_cons]; simp [PyData.depthAll, PyData.depth, depthAll_ints ns]
theorem shaped_ints (ns : List Int) : SeqAt.shaped (.list (ns.map PyData.int)) = true := by
  unfold SeqAt.shaped
  simp [PyData.canLay0, layAll_ints, PyData.depth, depthAll_ints]
theorem cut_take {xs : List V} {k : Nat} (h : k ≤ xs.length) : cutV xs none (some (k : Int)) = xs.take k := by
  unfold cutV
  rw [HT.sIx_none, HT.sIx_nat, Nat.min_eq_left h]; simp
theorem cut_drop {xs : List V} {k : Nat} : cutV xs (some (k : Int)) none = xs.drop k := by
  unfold cutV
  rw [HT.sIx_none, HT.sIx_nat]
  by_cases h : k ≤ xs.length
  · rw [Nat.min_eq_left h, List.take_of_length_le (by rw [List.length_drop]; exact Nat.le_refl _)]
  · rw [Nat.min_eq_right (by omega), List.drop_eq_nil_of_le (Nat.le_refl _), List.drop_eq_nil_of_le (by omega)]; simp
theorem atI_end {xs : List V} (h : xs ≠ []) : ∃ v, atI xs (-1) = some v ∧ xs[xs.length - 1]? = some v := by
  obtain ⟨l, v, rfl⟩ : ∃ l v, xs = l ++ [v] := ⟨_, _, (List.dropLast_concat_getLast h).symm⟩
  exact ⟨v, atI_last l v, by simp⟩
/-- a heap in which the pot may have changed, and new things lie -/
structure Rg (p : Addr) (H H2 : Hp) : Prop where
  x : Ex (wo H p) H2
  hp : PotAt H2 p
theorem Rg.rfl {p : Addr} {H : Hp} (h : PotAt H p) : Rg p H H := ⟨wo_ex, h⟩
theorem Rg.mono {p : Addr} {H H2 H3 : Hp} (r : Rg p H H2) (e : Ex H2 H3) : Rg p H H3 := ⟨r.x.trans e, r.hp.mono e⟩
theorem Rg.step {p : Addr} {H H2 H3 : Hp} (r : Rg p H H2) (e : Ex (wo H2 p) H3) (h : PotAt H3 p) : Rg p H H3 := ⟨wo_tr r.x e, h⟩
theorem Rg.tr {p : Addr} {H H2 H3 : Hp} (r : Rg p H H2) (r2 : Rg p H2 H3) : Rg p H H3 := r.step r2.x r2.hp
theorem Rg.hz {p : Addr} {H H2 : Hp} {Z : List Addr} (r : Rg p H H2) (hz : Hd Z H) : Hd Z H2 := hz.step r.x r.hp
theorem Rg.ex {p : Addr} {H H2 : Hp} {Z : List Addr} (r : Rg p H H2) (pz : p ∈ Z) : Ex (hid Z H) (hid Z H2) := hid_sub pz r.x
theorem Rg.at {p a : Addr} {H H2 : Hp} {Z : List Addr} {o : HO} (r : Rg p H H2) (pz : p ∈ Z) (h : hid Z H a = some o) : H2 a = some o := hid_ex _ _ (r.ex pz _ _ h)
section
variable {K : PySem.W.Frag} {σ : L2.St} {H : Hp} {p a b : Addr} {Z : List Addr} {i j i0 : Nat} {tA tr : TA} {tn ta tb tl te : TE} {t1 t2 : TT} {Q : VK} {E : XK} {D : Ends} {tz ts : TS} {xs ys : List V} {vs : List Nat} {v : V} {d : PyData}
theorem par_k (h : tA σ H fun vs H1 => ∃ v w, vs = [v, w] ∧ tz D ((σ.set i (some v)).set j (some w)) H1) : tSeq (tPar i j tA) tz D σ H := h
theorem test_k {QB : Bool → Hp → Prop} (h : te σ H fun x H' => ∃ k, x = .bl k ∧ QB k H') : tTest te σ H QB := h
/-- a piece of a told tuple, told apart from Z -/
theorem eu_take {k : Nat} (h : Ev ta σ H (.ref a)) (hk : Ev tb σ H (.int (k : Int))) (ha : H a = some (.tup xs)) (hl : k < xs.length) : EvU (tSl (rSlA K) ta tNoPart (tPart tb)) σ H (xs.take k) := by
  have := eu_slA (K := K) h eo_none (eo_some hk) (st_of ha) (by rw [HT.sIx_nat]; omega)
  rwa [cut_take (by omega)] at this
theorem eu_drop {k : Nat} (h : Ev ta σ H (.ref a)) (hk : Ev tb σ H (.int ((k : Int) + 1))) (ha : H a = some (.tup xs)) (hl : 0 < xs.length) : EvU (tSl (rSlA K) ta (tPart tb) tNoPart) σ H (xs.drop (k + 1)) := by
  have hk' : Ev tb σ H (.int ((k + 1 : Nat) : Int)) := ev_is hk (by congr 1)
  have := eu_slA (K := K) h (eo_some hk') eo_none (st_of ha) (by rw [HT.sIx_nat]; omega)
  rwa [cut_drop] at this
theorem u_k (h : EvU te σ H xs) (hz : Hd Z H) (k : ∀ q H1, Ex H H1 → hid Z H1 q = some (.tup xs) → Q (.ref q) H1) : te σ H Q := h H (Ex.refl H) _ fun q H1 hq e h1 => k q H1 e (by rw [hid_off (hz.new hq)]; exact h1)
theorem cat_k (hz : Hd Z H) (ha : hid Z H a = some (.tup xs)) (hb : hid Z H b = some (.tup ys)) (hl : xs.length + ys.length ≤ 100000) (k : ∀ q H2, Ex H H2 → hid Z H2 q = some (.tup (xs ++ ys)) → Q (.ref q) H2) : rCatA K (.ref a) (.ref b) H Q :=
  ⟨a, b, xs, ys, rfl, rfl, st_of (hid_ex _ _ ha), st_of (hid_ex _ _ hb), sz_of hl, fun h => by subst h; exact k b H (Ex.refl H) hb, fun _ h2 => by subst h2; exact k a H (Ex.refl H) (by simpa using ha), fun _ _ q hq => k q _ (Ex.new hq) (by rw [hid_off (hz.new hq)]; exact upd_same)⟩
theorem cb_k {r : List V → Hp → VK → Prop} (h : tA σ H fun vs H1 => r vs H1 Q) : tCB r tA σ H Q := h
end
section
variable {K : PySem.W.Frag} {σ : L2.St} {H : Hp} {te tl : TE} {tu : TS} {E : XK} {D : Ends} {tz : TS} {v : V} {d : PyData} {ds : List PyData} {j : Nat}
end
theorem hid_updE {Z : List Addr} {H : Hp} {vl : Addr} {o : HO} (h : vl ∈ Z) : Ex (hid Z H) (hid Z (upd H vl o)) := fun b u k => by
  by_cases hb : b ∈ Z
  · rw [hid_at hb] at k; cases k
  · rw [hid_off hb] at k
    rw [hid_off hb, upd_ne (fun z => hb (by rw [z]; exact h))]; exact k
section
variable {K : PySem.W.Frag} {σ : L2.St} {H : Hp} {p vl : Addr} {Z : List Addr} {tA : TA} {te ta tb tl : TE} {Q : VK} {E : XK} {D : Ends} {tz : TS} {v : V} {d : PyData} {us : List V} {ds : List PyData} {i : Nat}
end
theorem PotAt.hd {H : Hp} {p : Addr} (h : PotAt H p) : Hd [p] H := fun b hb => by rw [List.mem_singleton.mp hb]; exact h.some
section
variable {σ : L2.St} {H : Hp} {i : Nat} {te : TE} {c : TT} {D : Ends} {tz : TS}
end
theorem ex_wo {H H2 : Hp} {p : Addr} (e : Ex H H2) (hp : H p = none) : Ex H (wo H2 p) := fun b o hb => by rw [wo_ne (show b ≠ p from fun z => by rw [z, hp] at hb; cases hb)]; exact e b o hb
end K43
end
section
set_option maxHeartbeats 4000000
namespace K43
open PySem L2 Evl G OW
/-! ### a list or a tuple -/
noncomputable def iOr (W1 W2 : TI) : TI := fun σ H R => W1 σ H R ∨ W2 σ H R
theorem pi_or {X : Cx} {tg e : Expr} {W1 W2 : TI} (h1 : PI X tg e W1) (h2 : PI X tg e W2) : PI X tg e (iOr W1 W2) := ⟨fun pins s σ H R I h => h.elim (h1.run pins s σ H R I) (h2.run pins s σ H R I)⟩
noncomputable def rOr (r1 r2 : R2) : R2 := fun x y H Q => r1 x y H Q ∨ r2 x y H Q
theorem ix_or {X : Cx} {r1 r2 : R2} (h1 : IxR X r1) (h2 : IxR X r2) : IxR X (rOr r1 r2) := fun value slice pins s σ H x y v u Q I rx ry h hs => h.elim (fun h => h1 value slice pins s σ H x y v u Q I rx ry h hs) fun h => h2 value slice pins s σ H x y v u Q I rx ry h hs
noncomputable def slOr (r1 r2 : V → Option Int → Option Int → Hp → VK → Prop) : V → Option Int → Option Int → Hp → VK → Prop := fun x lo hi H Q => r1 x lo hi H Q ∨ r2 x lo hi H Q
theorem sl_or {X : Cx} {r1 r2 : V → Option Int → Option Int → Hp → VK → Prop} (h1 : SlR X r1) (h2 : SlR X r2) : SlR X (slOr r1 r2) := fun pins s σ H x v vl vu lo hi sl Q I rx hs pl pu h => h.elim (h1 pins s σ H x v vl vu lo hi sl Q I rx hs pl pu) (h2 pins s σ H x v vl vu lo hi sl Q I rx hs pl pu)
noncomputable def Sq2 (H : Hp) (a : Addr) (xs : List V) : Prop := H a = some (.lst xs) ∨ H a = some (.tup xs)
theorem Sq2.mono {H H' : Hp} {a : Addr} {xs : List V} (h : Sq2 H a xs) (e : Ex H H') : Sq2 H' a xs := h.elim (fun h => .inl (e _ _ h)) fun h => .inr (e _ _ h)
theorem Sq2.same {H H' : Hp} {a : Addr} {xs : List V} (h : Sq2 H a xs) (e : H' a = H a) : Sq2 H' a xs := by unfold Sq2; rw [e]; exact h
theorem seq_of {H : Hp} {v : V} {d : PyData} (hd : Dq H v d) (h : isSeqD d = true) : ∃ a xs, v = .ref a ∧ Sq2 H a xs ∧ DqAll H xs (items d) := by
  cases hd with
  | lst a k => exact ⟨_, _, rfl, .inl a, k⟩
  | tup a k => exact ⟨_, _, rfl, .inr a, k⟩
  | _ => cases h
theorem int_of {H : Hp} {v : V} {d : PyData} (hd : Dq H v d) (h : isIntD d = true) : ∃ i, d = .int i ∧ v = .int i := by
  cases hd with
  | int i => exact ⟨i, rfl, rfl⟩
  | _ => cases h
/-- max of a tuple of two numbers -/
noncomputable def rMaxT (K : PySem.W.Frag) : List V → Hp → VK → Prop := fun vs H Q => ∃ (a : Addr) (i j : Int), vs = [V.ref a] ∧ SqT K H a [.int i, .int j] ∧ Q (.int (max i j)) H
theorem maxT {X : Cx} {K : PySem.W.Frag} (hK : X.K = K) (hc : X.calm = true) (hu : X.A.units + 64 < cLine) : CallR X (.builtin "max") (rMaxT K) := by
  subst hK
  intro pins s σ H vs us Q I r h
  obtain ⟨a, i, j, rfl, hs, q⟩ := h
  obtain ⟨its, rv, hl, _⟩ := I.tuple hs
  rw [Vals.ref1 r]
  obtain ⟨u1, u2, rfl, r1, r2⟩ := vals2 rv
  obtain ⟨t1, rfl⟩ := r1
  obtain ⟨t2, rfl⟩ := r2
  refine PySem.W.max_tuple_data (I.ok.hd hc) hl (x := .int i) (xs := [.int j]) (ReadsAll.cons (as := []) (.int i t1) (ReadsAll.cons (as := []) (.int j t2) .nil)) ⟨fun x hx y hy => by
    simp only [List.mem_cons, List.not_mem_nil, or_false] at hx hy
    rcases hx with e | e <;> rcases hy with e2 | e2 <;> (subst e; subst e2; rfl), fun x hx => by
    simp only [List.mem_cons, List.not_mem_nil, or_false] at hx
    rcases hx with e | e <;> (subst e; exact fun z => nomatch z)⟩ (by simp [PyData.depthAll, PyData.depth]; omega) fun k v h' tk bs hv hr hk => ?_
  rw [show PySem.W.maxD (.int i) [.int j] = .int (max i j) from PySem.W.maxD_ints i [j]] at hr
  cases hr
  exact ⟨.int (max i j), H, I.kept hk, ⟨_, rfl⟩, q⟩
section
variable {K : PySem.W.Frag} {σ : L2.St} {H : Hp} {ta tb te tl : TE} {tt : TT} {j : Nat} {vs : List Nat} {a : Addr} {xs : List V} {ds : List PyData} {v : V} {i : Int} {D : Ends} {tz tu : TS} {g : TG}
theorem ev_ixE (h : Ev ta σ H (.ref a)) (hk : Ev tb σ H (.int i)) (hx : Sq2 H a xs) (hv : atI xs i = some v) : Ev (tOp (rOr (rIxL K) (rIxT K)) ta tb) σ H v := ev_op h hk fun H1 e Q q => (hx.mono e).elim (fun hx => .inl (rv_ixL (sq_of hx) hv H1 (Ex.refl _) Q fun H2 e2 => q H2 e2)) fun hx => .inr (rv_ixT (st_of hx) hv H1 (Ex.refl _) Q fun H2 e2 => q H2 e2)
theorem ev_lenE (h : Ev te σ H (.ref a)) (hx : Sq2 H a xs) : Ev (tCB (fun xs H Q => ∃ p ys, xs = [.ref p] ∧ (SqL K H p ys ∨ SqT K H p ys) ∧ Q (.int (ys.length : Int)) H) (tCons te tNil)) σ H (.int (xs.length : Int)) := hx.elim (fun hx => ev_cb (ea_cons h ea_nil) (rc_len (.inl (sq_of hx)) rfl)) fun hx => ev_cb (ea_cons h ea_nil) (rc_len (.inr (st_of hx)) rfl)
theorem el_lcE (f : PyData → Bool) (g : PyData → V) (h : Ev tl σ H (.ref a)) (hx : Sq2 H a xs) (k : DqAll H xs ds) (hz : ds.length ≤ 40000) (hw : ∀ x, wipe ((wipe σ vs).set j (some x)) vs = wipe σ vs)
    (ht : ∀ (x : V) (t : PyData) H1, Ex H H1 → Dq H1 x t → t ∈ ds → EvT tt ((wipe σ vs).set j (some x)) H1 (f t)) (he : ∀ (x : V) (t : PyData) H1, Ex H H1 → Dq H1 x t → t ∈ ds → f t = true → Ev te ((wipe σ vs).set j (some x)) H1 (g t)) :
    EvL (tLc (iOr (iList K tl) (iTup K tl)) (gName j) tt te vs) σ H ((ds.filter f).map g) := fun H0 e Q q => by
  have hl : xs.length = ds.length := k.len
  rcases hx with hx | hx
  · refine .inl (h H0 e _ fun H1 e1 => ⟨a, rfl, ⟨xs, sq_of ((e.trans e1) a _ hx)⟩, fun Dl hD => ?_⟩)
    refine lc_list (xs := xs) (Cw H1 (fun i => f (ds.getD i .none)) (fun i => g (ds.getD i .none)) Dl) ⟨hD, Ex.new hD, upd_same⟩ (fun i H' _ p => sq_of (p.2.1 a _ ((e.trans e1) a _ hx))) (fun i x H' hi p => by
      obtain ⟨t, hti, hxt⟩ := (k.mono (e.trans e1)).get hi
      have hm := List.mem_of_getElem? hti
      exact ⟨hw x, cw_turn p (by have := (List.getElem?_eq_some_iff.mp hi).1; omega) (by rw [getD_q hti]; exact ht x t H1 (e.trans e1) hxt hm) (fun hf => by rw [getD_q hti] at hf ⊢; exact he x t H1 (e.trans e1) hxt hm hf)⟩) (fun H' p => ?_)
    rw [hl] at p
    refine q Dl H' (fresh_back e1 p.1) (e1.trans p.2.1) ?_
    rw [p.2.2, given_filterQ]
  · refine .inr (h H0 e _ fun H1 e1 => ⟨a, rfl, ⟨xs, st_of ((e.trans e1) a _ hx)⟩, fun Dl hD => ?_⟩)
    refine lc_tup (xs := xs) (Cw H1 (fun i => f (ds.getD i .none)) (fun i => g (ds.getD i .none)) Dl) ⟨hD, Ex.new hD, upd_same⟩ (fun i H' _ p => st_of (p.2.1 a _ ((e.trans e1) a _ hx))) (fun i x H' hi p => by
      obtain ⟨t, hti, hxt⟩ := (k.mono (e.trans e1)).get hi
      have hm := List.mem_of_getElem? hti
      exact ⟨hw x, cw_turn p (by have := (List.getElem?_eq_some_iff.mp hi).1; omega) (by rw [getD_q hti]; exact ht x t H1 (e.trans e1) hxt hm) (fun hf => by rw [getD_q hti] at hf ⊢; exact he x t H1 (e.trans e1) hxt hm hf)⟩) (fun H' p => ?_)
    rw [hl] at p
    refine q Dl H' (fresh_back e1 p.1) (e1.trans p.2.1) ?_
    rw [p.2.2, given_filterQ]
theorem q_forE (h : Ev tl σ H (.ref a)) (hx : Sq2 H a xs) (Pv : Nat → L2.St → Hp → Prop) (h0 : ∀ H1, Ex H H1 → Pv 0 σ H1) (hl : ∀ i σ' H', i ≤ xs.length → Pv i σ' H' → H' a = H a)
    (hs : ∀ i x σ' H', xs[i]? = some x → Pv i σ' H' → g x σ' H' fun σ2 H2 => tu { D with nx := Pv (i + 1), ct := Pv (i + 1), bk := tz D } σ2 H2) (hd : ∀ σ' H', Pv xs.length σ' H' → tz D σ' H') : tSeq (tFor (iOr (iList K tl) (iTup K tl)) g tu) tz D σ H := by
  rcases hx with hx | hx
  · exact .inl (h H (Ex.refl H) _ fun H1 e => ⟨a, rfl, ⟨xs, sq_of (e _ _ hx)⟩, for_list (D := { D with nx := tz D }) Pv (h0 H1 e) (fun i σ' H' hi pv => sq_of (by rw [hl i σ' H' hi pv]; exact hx)) hs hd⟩)
  · exact .inr (h H (Ex.refl H) _ fun H1 e => ⟨a, rfl, ⟨xs, st_of (e _ _ hx)⟩, for_tup (D := { D with nx := tz D }) Pv (h0 H1 e) (fun i σ' H' hi pv => st_of (by rw [hl i σ' H' hi pv]; exact hx)) hs hd⟩)
end
noncomputable def sp_e (f : PyData → Bool) : Sp := fun vs H Q _ => ∃ v d, vs = [v] ∧ Dq H v d ∧ RetV (.bl (f d)) H Q
theorem spv_e {f : PyData → Bool} {H : Hp} {v : V} {d : PyData} (hd : Dq H v d) : SpV (sp_e f) ([v] ++ []) H (.bl (f d)) := fun H1 e Q q E => ⟨v, d, rfl, hd.mono e, q⟩
structure Txt (mg : Str → Option Value) : Prop where
  b_isinstance : mg "isinstance" = none
  b_int : mg "int" = none
  b_bool : mg "bool" = none
  b_list : mg "list" = none
  b_tuple : mg "tuple" = none
  b_len : mg "len" = none
  b_range : mg "range" = none
  b_divmod : mg "divmod" = none
  b_min : mg "min" = none
  b_max : mg "max" = none
  b_all : mg "all" = none
  b_abs : mg "abs" = none
  b_repr : mg "repr" = none
  b_sum : mg "sum" = none
  b_zip : mg "zip" = none
noncomputable def sp_d (f : PyData → Bool) : Sp := fun vs H Q _ => ∃ v d, vs = [v] ∧ Dq H v d ∧ (items d).length ≤ 30000 ∧ RetV (.bl (f d)) H Q
theorem spv_d {f : PyData → Bool} {H : Hp} {v : V} {d : PyData} (hd : Dq H v d) (hz : (items d).length ≤ 30000) : SpV (sp_d f) ([v] ++ []) H (.bl (f d)) := fun H1 e Q q E => ⟨v, d, rfl, hd.mono e, hz, q⟩
noncomputable def sp_need : Sp := fun vs H Q _ => ∃ n : Int, vs = [.int n] ∧ 1 ≤ n ∧ RetV .non H Q
noncomputable def sp_needb : Sp := fun vs H Q _ => ∃ v d, vs = [v] ∧ Dq H v d ∧ areB d = true ∧ (items d).length ≤ 30000 ∧ RetV .non H Q
theorem kit_list : ∀ d : PyData, kitB (tyD d) "list" = some (match d with | .list _ => true | _ => false)
  | .none => (by decide +kernel : kitB "NoneType" "list" = some false)
  | .bool _ => (by decide +kernel : kitB "bool" "list" = some false)
  | .int _ => (by decide +kernel : kitB "int" "list" = some false)
  | .str _ => (by decide +kernel : kitB "str" "list" = some false)
  | .list _ => (by decide +kernel : kitB "list" "list" = some true)
  | .tuple _ => (by decide +kernel : kitB "tuple" "list" = some false)
  | .dict _ => (by decide +kernel : kitB "dict" "list" = some false)
section
variable {K : PySem.W.Frag} {σ : L2.St} {H : Hp} {te : TE} {v : V} {d : PyData}
/-- isinstance(x, (list, tuple)) -/
theorem ev_isSeq (h : Ev te σ H v) (hd : Dq H v d) : Ev (tCB (rIsiT K) (tCons te (tCons (tTup (tCons (tC (.ty "list")) (tCons (tC (.ty "tuple")) tNil))) tNil))) σ H (.bl (isSeqD d)) := fun H1 e Q q => h H1 e _ fun H2 e2 => by
  refine eu_tup (ea_cons ev_c (ea_cons ev_c ea_nil)) (by show 2 ≤ 100000; decide) H2 (Ex.refl H2) _ fun tp H3 htp e3 h3 => ?_
  have hd3 := hd.mono ((e.trans e2).trans e3)
  refine ⟨v, tp, [.ty "list", .ty "tuple"], .type (tyD d), [.type "list", .type "tuple"], isSeqD d, rfl, h3, .cons (.ty _) (.cons (.ty _) .nil), .base (ty_of hd3), ?_, q H3 (e2.trans e3)⟩
  exact kitAny_cons (kit_ty (kit_list d)) (fun h1 => kitAny_cons (kit_ty (kit_tup d)) (fun h2 => by rw [show isSeqD d = false by cases d <;> first | rfl | cases (show true = false from h1) | cases (show true = false from h2)]; rfl) (fun h2 => by cases d <;> first | rfl | cases (show false = true from h2))) (fun h1 => by cases d <;> first | rfl | cases (show false = true from h1))
end
noncomputable def tup3 : PyData → Bool
  | .tuple [_, _, _] => true
  | _ => false
section
variable {P : Program} {w : World} {K : PySem.W.Frag} {mg : Str → Option Value} {base : Heap}
theorem ok_is_day {f : Addr} {fd : FuncData} (F : Fun K "is_day" "is_day" s_is_day f fd) (T : Txt mg) : FnOk P w K mg base CX0 1 f fd ["value"] (sp_e isIntD) := by
  refine F.ok sc_is_day (fun vs H Q E h => ?_) (fun cdv A outer s H vs Q E hr h => ?_)
  · obtain ⟨v, d, rfl, _⟩ := h
    rfl
  · obtain ⟨v, d, rfl, hd, k⟩ := h
    refine ⟨_, (pss_one (ps_ret (pe_and (pe_callB (isiS (K := K) rfl) (by rfl) T.b_isinstance (by decide +kernel) (pa_cons (pv 0) (pa_cons (pe_bltn (v := .ty "int") (u := .type "int") (by rfl) T.b_int (by decide +kernel) rfl) pa_nil))) (pe_one (pe_not (pe_callB (isiS (K := K) rfl) (by rfl) T.b_isinstance (by decide +kernel) (pa_cons (pv 0) (pa_cons (pe_bltn (v := .ty "bool") (u := .type "bool") (by rfl) T.b_bool (by decide +kernel) rfl) pa_nil)))))))), ?_⟩
    exact s_ret (ev_intD (K := K) (ev_var rfl) hd) fun H1 e => k H1 e
theorem ok__law_is_int {f : Addr} {fd : FuncData} (F : Fun K "_law_is_int" "_law_is_int" s__law_is_int f fd) (T : Txt mg) : FnOk P w K mg base CX0 1 f fd ["_law_value"] (sp_e isIntD) := by
  refine F.ok sc__law_is_int (fun vs H Q E h => ?_) (fun cdv A outer s H vs Q E hr h => ?_)
  · obtain ⟨v, d, rfl, _⟩ := h
    rfl
  · obtain ⟨v, d, rfl, hd, k⟩ := h
    refine ⟨_, (pss_one (ps_ret (pe_and (pe_callB (isiS (K := K) rfl) (by rfl) T.b_isinstance (by decide +kernel) (pa_cons (pv 0) (pa_cons (pe_bltn (v := .ty "int") (u := .type "int") (by rfl) T.b_int (by decide +kernel) rfl) pa_nil))) (pe_one (pe_not (pe_callB (isiS (K := K) rfl) (by rfl) T.b_isinstance (by decide +kernel) (pa_cons (pv 0) (pa_cons (pe_bltn (v := .ty "bool") (u := .type "bool") (by rfl) T.b_bool (by decide +kernel) rfl) pa_nil)))))))), ?_⟩
    exact s_ret (ev_intD (K := K) (ev_var rfl) hd) fun H1 e => k H1 e
theorem ok_is_count {f f1 : Addr} {fd fd1 : FuncData} (F : Fun K "is_count" "is_count" s_is_count f fd) (T : Txt mg) (c_is_day : Cal P w K mg base "is_day" f1 fd1 ["value"] 1 (sp_e isIntD)) : FnOk P w K mg base CX0 2 f fd ["value"] (sp_e isCntD) := by
  refine F.ok sc_is_count (fun vs H Q E h => ?_) (fun cdv A outer s H vs Q E hr h => ?_)
  · obtain ⟨v, d, rfl, _⟩ := h
    rfl
  · obtain ⟨v, d, rfl, hd, k⟩ := h
    refine ⟨_, (pss_one (ps_ret (pe_and (pe_call c_is_day.ok (hr.mono (by decide)) (by rfl) c_is_day.mgx c_is_day.kp c_is_day.bd .nil pass0 (pa_cons (pv 0) pa_nil)) (pe_one (pe_cmpR op_ge (pv 0) pe_int (nomark _)))))), ?_⟩
    refine s_ret (ev_is (ev_andV (a := isIntD d) (b := isCntD d) (ev_call (ea_cons (ev_var rfl) ea_nil) (spv_e hd)) fun ho => ?_) (congrArg V.bl (show (isIntD d && isCntD d) = isCntD d by cases d <;> rfl))) fun H1 e => k H1 e
    obtain ⟨i, rfl, rfl⟩ := int_of hd ho
    exact ev_op (ev_var rfl) ev_c rv_I0
theorem ok_need_length {f f1 : Addr} {fd fd1 : FuncData} (F : Fun K "need_length" "need_length" s_need_length f fd) (T : Txt mg) (c_is_count : Cal P w K mg base "is_count" f1 fd1 ["value"] 2 (sp_e isCntD)) : FnOk P w K mg base CX0 3 f fd ["value"] sp_need := by
  refine F.ok sc_need_length (fun vs H Q E h => ?_) (fun cdv A outer s H vs Q E hr h => ?_)
  · obtain ⟨n, rfl, _⟩ := h
    rfl
  · obtain ⟨n, rfl, h0, k⟩ := h
    refine ⟨_, (pss_one (ps_if (PW.pt (pw_or (pt_not (pt_val (pe_call c_is_count.ok (hr.mono (by decide)) (by rfl) c_is_count.mgx c_is_count.kp c_is_count.bd .nil pass0 (pa_cons (pv 0) pa_nil)))) (pw_or1 (pt_cmpR op_eq (pv 0) pe_int (nomark _))))) (pss_one ps_never) pss_nil)), ?_⟩
    exact s_when (b := false) (et_or (a := false) (b := false) (et_is (et_not (et_B (ev_call (ea_cons (ev_var rfl) ea_nil) (spv_e (Dq.int n))))) (by show (!decide (0 ≤ n)) = false; rw [decide_eq_true (by omega)]; rfl)) fun _ => et_is (et_test (ev_op (ev_var rfl) ev_c (rv_eq rfl))) (decide_eq_false (fun z => by injection z with z; omega))) (fun q => nomatch q) fun _ H1 e => k H1 e
theorem ok_is_list {f : Addr} {fd : FuncData} (F : Fun K "is_list" "is_list" s_is_list f fd) (T : Txt mg) : FnOk P w K mg base CX0 1 f fd ["value"] (sp_e isSeqD) := by
  refine F.ok sc_is_list (fun vs H Q E h => ?_) (fun cdv A outer s H vs Q E hr h => ?_)
  · obtain ⟨v, d, rfl, _⟩ := h
    rfl
  · obtain ⟨v, d, rfl, hd, k⟩ := h
    refine ⟨_, (pss_one (ps_ret (pe_callB call_isiT (by rfl) T.b_isinstance (by decide +kernel) (pa_cons (pv 0) (pa_cons (pe_tup (pa_cons (pe_bltn (v := .ty "list") (u := .type "list") (by rfl) T.b_list (by decide +kernel) rfl) (pa_cons (pe_bltn (v := .ty "tuple") (u := .type "tuple") (by rfl) T.b_tuple (by decide +kernel) rfl) pa_nil))) pa_nil))))), ?_⟩
    exact s_ret (ev_isSeq (K := K) (ev_var rfl) hd) fun H1 e => k H1 e
theorem ok__is_bound {f f1 f2 : Addr} {fd fd1 fd2 : FuncData} (F : Fun K "_is_bound" "_is_bound" s__is_bound f fd) (T : Txt mg) (c_is_day : Cal P w K mg base "is_day" f1 fd1 ["value"] 1 (sp_e isIntD)) (c_is_count : Cal P w K mg base "is_count" f2 fd2 ["value"] 2 (sp_e isCntD)) : FnOk P w K mg base CX0 3 f fd ["value"] (sp_e isBnd) := by
  refine F.ok sc__is_bound (fun vs H Q E h => ?_) (fun cdv A outer s H vs Q E hr h => ?_)
  · obtain ⟨v, d, rfl, _⟩ := h
    rfl
  · obtain ⟨v, d, rfl, hd, k⟩ := h
    refine ⟨_, (pss_cons (ps_if (PW.pt (pw_or (pt_not (pt_val (pe_callB (isiS (K := K) rfl) (by rfl) T.b_isinstance (by decide +kernel) (pa_cons (pv 0) (pa_cons (pe_bltn (v := .ty "tuple") (u := .type "tuple") (by rfl) T.b_tuple (by decide +kernel) rfl) pa_nil))))) (pw_or1 (pt_cmpR op_ne (pe_callB (lenS (K := K) rfl) (by rfl) T.b_len (by decide +kernel) (pa_cons (pv 0) pa_nil)) pe_int (nomark _))))) (pss_one (ps_ret pe_bl)) pss_nil) (pss_one (ps_ret (pe_and (pe_call c_is_count.ok (hr.mono (by decide)) (by rfl) c_is_count.mgx c_is_count.kp c_is_count.bd .nil pass0 (pa_cons (pe_ix (ixT (K := K) rfl) (pv 0) pe_int (fun _ _ => rfl)) pa_nil)) (pe_and (pe_call c_is_count.ok (hr.mono (by decide)) (by rfl) c_is_count.mgx c_is_count.kp c_is_count.bd .nil pass0 (pa_cons (pe_ix (ixT (K := K) rfl) (pv 0) pe_int (fun _ _ => rfl)) pa_nil)) (pe_one (pe_call c_is_day.ok (hr.mono (by decide)) (by rfl) c_is_day.mgx c_is_day.kp c_is_day.bd .nil pass0 (pa_cons (pe_ix (ixT (K := K) rfl) (pv 0) pe_int (fun _ _ => rfl)) pa_nil)))))))), ?_⟩
    have h1 := ev_isiD (K := K) (σ := [some v]) (n := "tuple") (ev_var (i := 0) rfl) hd (kit_tup d)
    cases hs : isTupD d with
    | false =>
      rw [hs] at h1
      have e : isBnd d = false := by cases d <;> first | rfl | cases hs
      rw [e] at k
      exact q_when (b := true) (et_or (a := true) (b := true) (et_not (a := false) (et_B h1)) fun z => by cases z) (fun _ H2 e2 => s_ret ev_c fun H3 e3 => k H3 (e2.trans e3)) fun z => nomatch z
    | true =>
      rw [hs] at h1
      obtain ⟨a, xs, ds, rfl, rfl, ha, hk⟩ := tup_of hd hs
      have hlen := hk.len
      refine q_when (b := !decide (ds.length = 3)) (et_or (a := false) (et_not (a := true) (et_B h1)) fun _ => et_is (et_test (ev_op (ev_lenTup (K := K) (ev_var rfl) ha) ev_c (rv_ne rfl))) (by rw [hlen]; congr 1; rw [decide_eq_decide]; exact ⟨fun z => by have := V.int.inj z; omega, fun z => by rw [z]; rfl⟩)) (fun hb H2 e2 => ?_) fun hb H2 e2 => ?_
      · have hb' : ds.length ≠ 3 := by simpa using hb
        have e : isBnd (.tuple ds) = false := by
          unfold isBnd
          split
          · rename_i q; cases q; exact absurd rfl hb'
          · rfl
        rw [e] at k
        exact s_ret ev_c fun H3 e3 => k H3 (e2.trans e3)
      · have hb' : ds.length = 3 := by simpa using hb
        obtain ⟨x, y, z, rfl⟩ : ∃ x y z, ds = [x, y, z] := by
          match ds, hb' with
          | [x, y, z], _ => exact ⟨x, y, z, rfl⟩
        cases hk with
        | cons q1 t1 => cases t1 with
          | cons q2 t2 => cases t2 with
            | cons q3 t3 =>
              cases t3
              have a2 := e2 _ _ ha
              exact s_ret (ev_andV (ev_call (ea_cons (ev_at0 (K := K) (ev_var rfl) a2) ea_nil) (spv_e (q1.mono e2))) fun _ => ev_andV (ev_call (ea_cons (ev_at1 (K := K) (ev_var rfl) a2) ea_nil) (spv_e (q2.mono e2))) fun _ => ev_call (ea_cons (ev_at2 (K := K) (ev_var rfl) a2) ea_nil) (spv_e (q3.mono e2))) fun H3 e3 => k H3 (e2.trans e3)
end
end K43
end
section
set_option maxHeartbeats 4000000
namespace K43
open PySem L2 Evl G OW
/-! ### bounds as a value -/
noncomputable def Bs (H : Hp) (v : V) (bs : List B) : Prop := ∃ d, Dq H v d ∧ isSeqD d = true ∧ items d = bs.map B.d ∧ bs.length ≤ 1000
theorem Bs.mono {H H' : Hp} {v : V} {bs : List B} (h : Bs H v bs) (e : Ex H H') : Bs H' v bs := let ⟨d, a, b, c, f⟩ := h; ⟨d, a.mono e, b, c, f⟩
theorem Bs.at {H : Hp} {v : V} {bs : List B} (h : Bs H v bs) : ∃ a xs, v = .ref a ∧ Sq2 H a xs ∧ DqAll H xs (bs.map B.d) ∧ xs.length = bs.length := by
  obtain ⟨d, hd, hs, hi, _⟩ := h
  obtain ⟨a, xs, e, hx, hk⟩ := seq_of hd hs
  rw [hi] at hk
  exact ⟨a, xs, e, hx, hk, by rw [hk.len, List.length_map]⟩
theorem Bs.few {H : Hp} {v : V} {bs : List B} (h : Bs H v bs) : bs.length ≤ 1000 := let ⟨_, _, _, _, f⟩ := h; f
theorem bd_at {H : Hp} {u : V} {x : B} (h : Dq H u x.d) : ∃ t, u = .ref t ∧ H t = some (.tup [.int (x.a : Int), .int (x.b : Int), .int x.m]) := by
  unfold B.d at h
  cases h with
  | tup a k =>
    cases k with
    | cons q1 t1 => cases t1 with
      | cons q2 t2 => cases t2 with
        | cons q3 t3 =>
          cases t3; cases q1; cases q2; cases q3
          exact ⟨_, rfl, a⟩
theorem bs_get {H : Hp} {xs : List V} {bs : List B} (k : DqAll H xs (bs.map B.d)) {i : Nat} {u : V} (h : xs[i]? = some u) : i < bs.length ∧ ∃ t, u = .ref t ∧ H t = some (.tup [.int ((bs.getD i B0).a : Int), .int ((bs.getD i B0).b : Int), .int (bs.getD i B0).m]) ∧ Dq H u (bs.getD i B0).d := by
  obtain ⟨d, hd, q⟩ := k.get h
  rw [List.getElem?_map] at hd
  obtain ⟨x, hx, rfl⟩ := Option.map_eq_some_iff.mp hd
  have hi := (List.getElem?_eq_some_iff.mp hx).1
  have e : bs.getD i B0 = x := by rw [List.getD_eq_getElem?_getD, hx]; rfl
  obtain ⟨t, rfl, ht⟩ := bd_at q
  rw [e]
  exact ⟨hi, t, rfl, ht, q⟩
noncomputable def sp_below : Sp := fun vs H Q _ => ∃ (n : Nat) (v : V) (bs : List B), vs = [.int (n : Int), v] ∧ Bs H v bs ∧ fitsB bs n = true ∧ RetV .non H Q
noncomputable def sp_all_kept : Sp := fun vs H Q _ => ∃ bv bs v d, vs = [bv, v] ∧ Bs H bv bs ∧ Dq H v d ∧ isSeqD d = true ∧ (items d).all isIntD = true ∧ fitsB bs (items d).length = true ∧ RetV (.bl (kOk bs (items d))) H Q
noncomputable def sp_kept : Sp := fun vs H Q _ => ∃ bv bs v d, vs = [bv, v] ∧ Bs H bv bs ∧ Dq H v d ∧ (items d).length ≤ 30000 ∧ RetV (.bl (keptD bs d)) H Q
noncomputable def sp_isring : Sp := fun vs H Q _ => ∃ bv bs v d, vs = [bv, v] ∧ (∃ a xs, bv = .ref a ∧ H a = some (.lst xs) ∧ DqAll H xs (bs.map B.d) ∧ bs.length ≤ 1000) ∧ Dq H v d ∧ (items d).length ≤ 30000 ∧ RetV (.bl (ringD bs d)) H Q
theorem fits_at {bs : List B} {n i : Nat} (h : fitsB bs n = true) (hi : i < bs.length) : (bs.getD i B0).a < n ∧ (bs.getD i B0).b < n := by
  have := List.all_eq_true.mp h (bs.getD i B0) (by rw [List.getD_eq_getElem?_getD, List.getElem?_eq_getElem hi]; exact List.getElem_mem hi)
  have := of_decide_eq_true this
  omega
theorem kOk_take {bs : List B} {ds : List PyData} : ∀ {i : Nat}, i < bs.length → kOk (bs.take (i + 1)) ds = (kOk (bs.take i) ds && decide (intOf (ds.getD (bs.getD i B0).a .none) - intOf (ds.getD (bs.getD i B0).b .none) ≤ (bs.getD i B0).m)) := by
  intro i hi
  have e : bs.getD i B0 = bs[i] := by rw [List.getD_eq_getElem?_getD, List.getElem?_eq_getElem hi]; rfl
  rw [e]
  unfold kOk
  rw [List.take_succ, List.getElem?_eq_getElem hi, List.all_append]
  simp
section
variable {K : PySem.W.Frag} {σ : L2.St} {H : Hp} {ta tb te tl : TE} {v : V} {i j l : Nat} {D : Ends} {tz : TS} {x y z : V} {t a : Addr} {xs : List V} {ds : List PyData} {m n : Int} {Qs : L2.St → Hp → Prop}
theorem q_dropV (h : Ev te σ H v) (k : ∀ H1, Ex H H1 → tz D σ H1) : tSeq (tDrop te) tz D σ H := h H (Ex.refl H) _ k
theorem ev_maxT (h : EvU te σ H [.int m, .int n]) : Ev (tCB (rMaxT K) (tCons te tNil)) σ H (.int (max m n)) := fun H1 e Q q => h H1 e _ fun p H2 _ e2 h2 => ⟨p, m, n, rfl, st_of h2, q H2 e2⟩
theorem g3_k (ht : H t = some (.tup [x, y, z])) (k : Qs (((σ.set i (some x)).set j (some y)).set l (some z)) H) : gTup K 3 (gCons (gName i) (gCons (gName j) (gCons (gName l) gNil))) (.ref t) σ H Qs := ⟨t, _, rfl, st_of ht, rfl, x, _, rfl, y, _, rfl, z, _, rfl, rfl, k⟩
theorem atI_d (k : DqAll H xs ds) (hall : ds.all isIntD = true) {e : Nat} (he : e < ds.length) : atI xs (e : Int) = some (.int (intOf (ds.getD e .none))) := by
  have hx : e < xs.length := by rw [k.len]; exact he
  obtain ⟨d, hd, q⟩ := k.get (List.getElem?_eq_getElem hx)
  have hm := List.mem_of_getElem? hd
  obtain ⟨c, rfl, ec⟩ := int_of q (List.all_eq_true.mp hall d hm)
  rw [getD_q hd]
  exact atI_nat (by rw [List.getElem?_eq_getElem hx, ec]; rfl)
end
section
variable {P : Program} {w : World} {K : PySem.W.Frag} {mg : Str → Option Value} {base : Heap}
theorem ok_are_bounds {f f1 f2 : Addr} {fd fd1 fd2 : FuncData} (F : Fun K "are_bounds" "are_bounds" s_are_bounds f fd) (T : Txt mg) (c_is_list : Cal P w K mg base "is_list" f1 fd1 ["value"] 1 (sp_e isSeqD)) (c__is_bound : Cal P w K mg base "_is_bound" f2 fd2 ["value"] 3 (sp_e isBnd)) : FnOk P w K mg base CX0 4 f fd ["value"] (sp_d areB) := by
  refine F.ok sc_are_bounds (fun vs H Q E h => ?_) (fun cdv A outer s H vs Q E hr h => ?_)
  · obtain ⟨v, d, rfl, _⟩ := h
    rfl
  · obtain ⟨v, d, rfl, hd, hz, k⟩ := h
    refine ⟨_, (pss_one (ps_ret (pe_and (pe_call c_is_list.ok (hr.mono (by decide)) (by rfl) c_is_list.mgx c_is_list.kp c_is_list.bd .nil pass0 (pa_cons (pv 0) pa_nil)) (pe_one (pe_callB (allL (K := K) rfl rfl) (by rfl) T.b_all (by decide +kernel) (pa_cons (pe_lc (own := [("bound", 1)]) (g := (gName 1)) (by rfl) sc_are_bounds.nd (pi_or (piL (K := K) rfl (pv 0)) (piT (K := K) rfl (pv 0))) (blkOk_by (own := [("bound", 1)]) (N := ["value", "bound"]) (sc := defScope s_are_bounds) (by decide +kernel)) (fun _ _ _ _ _ => (pg_name (i := 1) sc_are_bounds.nd rfl (Or.inl rfl))) (fun _ _ _ _ _ => pts_nil) (fun _ _ _ _ _ => (pe_call c__is_bound.ok (hr.mono (by decide)) (by rfl) c__is_bound.mgx c__is_bound.kp c__is_bound.bd .nil pass0 (pa_cons (pv 1) pa_nil)))) pa_nil)))))), ?_⟩
    refine s_ret (ev_andV (a := isSeqD d) (b := (items d).all isBnd) (ev_call (ea_cons (ev_var rfl) ea_nil) (spv_e hd)) fun ho => ?_) fun H1 e => k H1 e
    obtain ⟨a, xs, rfl, hx, hk⟩ := seq_of hd ho
    exact ev_allB (K := K) isBnd (el_eq (el_lcE (K := K) (j := 1) (vs := [1]) (fun _ => true) (fun t => V.bl (isBnd t)) (ev_var (i := 0) (σ := [some (.ref a), none]) rfl) hx hk (by omega) (fun _ => rfl) (fun _ _ _ _ _ _ => lc_yes) fun x t H1 e1 hxt ht _ => ev_call (ea_cons (ev_var rfl) ea_nil) (spv_e hxt)) (by rw [filter_yes]))
theorem ok__need_bounds {f f1 : Addr} {fd fd1 : FuncData} (F : Fun K "_need_bounds" "_need_bounds" s__need_bounds f fd) (T : Txt mg) (c_are_bounds : Cal P w K mg base "are_bounds" f1 fd1 ["value"] 4 (sp_d areB)) : FnOk P w K mg base CX0 5 f fd ["value"] sp_needb := by
  refine F.ok sc__need_bounds (fun vs H Q E h => ?_) (fun cdv A outer s H vs Q E hr h => ?_)
  · obtain ⟨v, d, rfl, _⟩ := h
    rfl
  · obtain ⟨v, d, rfl, hd, ho, hz, k⟩ := h
    refine ⟨_, (pss_one (ps_if (pt_not (pt_val (pe_call c_are_bounds.ok (hr.mono (by decide)) (by rfl) c_are_bounds.mgx c_are_bounds.kp c_are_bounds.bd .nil pass0 (pa_cons (pv 0) pa_nil)))) (pss_one ps_never) pss_nil)), ?_⟩
    exact s_when (b := false) (et_is (et_not (et_B (ev_call (ea_cons (ev_var rfl) ea_nil) (spv_d hd hz)))) (by rw [ho]; rfl)) (fun q => nomatch q) fun _ H1 e => k H1 e
theorem spv_needb {H : Hp} {v : V} {bs : List B} (h : Bs H v bs) : SpV sp_needb ([v] ++ []) H .non := fun H1 e Q q E => by
  obtain ⟨d, hd, hs, hi, hf⟩ := h
  exact ⟨v, d, rfl, hd.mono e, by unfold areB; rw [hs, hi, all_bnd]; rfl, by rw [hi, List.length_map]; omega, q⟩
theorem ok__need_bounds_below {f f1 : Addr} {fd fd1 : FuncData} (F : Fun K "_need_bounds_below" "_need_bounds_below" s__need_bounds_below f fd) (T : Txt mg) (c__need_bounds : Cal P w K mg base "_need_bounds" f1 fd1 ["value"] 5 sp_needb) : FnOk P w K mg base CX0 6 f fd ["many", "value"] sp_below := by
  refine F.ok sc__need_bounds_below (fun vs H Q E h => ?_) (fun cdv A outer s H vs Q E hr h => ?_)
  · obtain ⟨n, v, bs, rfl, _⟩ := h
    rfl
  · obtain ⟨n, v, bs, rfl, hb, hf, k⟩ := h
    refine ⟨_, (pss_cons (ps_expr (pe_call c__need_bounds.ok (hr.mono (by decide)) (by rfl) c__need_bounds.mgx c__need_bounds.kp c__need_bounds.bd .nil pass0 (pa_cons (pv 1) pa_nil))) (pss_one (ps_if (pt_not (pt_val (pe_callB (allL (K := K) rfl rfl) (by rfl) T.b_all (by decide +kernel) (pa_cons (pe_lc (own := [("bound", 2)]) (g := (gName 2)) (by rfl) sc__need_bounds_below.nd (pi_or (piL (K := K) rfl (pv 1)) (piT (K := K) rfl (pv 1))) (blkOk_by (own := [("bound", 2)]) (N := ["many", "value", "bound"]) (sc := defScope s__need_bounds_below) (by decide +kernel)) (fun _ _ _ _ _ => (pg_name (i := 2) sc__need_bounds_below.nd rfl (Or.inl rfl))) (fun _ _ _ _ _ => pts_nil) (fun _ _ _ _ _ => (pe_cmpR op_lt (pe_callB (maxT (K := K) rfl rfl hr.units) (by rfl) T.b_max (by decide +kernel) (pa_cons (pe_slice (slA (K := K) rfl) (pv 2) po_none (po_some pe_int)) pa_nil)) (pv 0) (nomark _)))) pa_nil)))) (pss_one ps_never) pss_nil))), ?_⟩
    refine q_dropV (ev_call (ea_cons (ev_var rfl) ea_nil) (spv_needb hb)) fun H1 e1 => ?_
    obtain ⟨a, xs, rfl, hx, hk, hl⟩ := (hb.mono e1).at
    have hfew := hb.few
    refine s_when (b := false) (et_is (et_not (et_B (ev_allB (K := K) (fun x : B => decide (max x.a x.b < n)) (ts := bs) (el_eq (el_lcE (K := K) (j := 2) (vs := [2]) (fun _ => true) (fun t => V.bl (decide (max (toB t).a (toB t).b < n))) (ev_var (i := 1) rfl) hx hk (by rw [List.length_map]; omega) (fun _ => rfl) (fun _ _ _ _ _ _ => lc_yes) fun x t H2 e2 hxt ht _ => ?_) (by rw [filter_yes, List.map_map]; exact List.map_congr_left fun x _ => by show V.bl (decide (max (toB x.d).a (toB x.d).b < n)) = _; rw [toB_of]))))) (by rw [show (bs.all fun x : B => decide (max x.a x.b < n)) = true from hf]; rfl)) (fun q => nomatch q) fun _ H2 e2 => k H2 (e1.trans e2)
    obtain ⟨y, hy, rfl⟩ := List.mem_map.mp ht
    obtain ⟨u, rfl, hu⟩ := bd_at hxt
    rw [toB_of]
    refine ev_is (ev_op (ev_maxT (K := K) (m := (y.a : Int)) (n := (y.b : Int)) (eu_take (K := K) (k := 2) (ev_var rfl) ev_c hu (by show 2 < 3; decide))) (ev_var rfl) rv_I0) (congrArg V.bl ?_)
    rw [decide_eq_decide]; omega
theorem ok_all_kept {f : Addr} {fd : FuncData} (F : Fun K "all_kept" "all_kept" s_all_kept f fd) (T : Txt mg) : FnOk P w K mg base CX0 1 f fd ["bounds", "days"] sp_all_kept := by
  refine F.ok sc_all_kept (fun vs H Q E h => ?_) (fun cdv A outer s H vs Q E hr h => ?_)
  · obtain ⟨bv, bs, v, d, rfl, _⟩ := h
    rfl
  · obtain ⟨bv, bs, v, d, rfl, hb, hd, hs, hi, hf, k⟩ := h
    refine ⟨_, (pss_cons (ps_for PassesOwn.never rfl (pi_or (piL (K := K) rfl (pv 0)) (piT (K := K) rfl (pv 0))) (pg_tup (by rfl) (pgs_cons (pg_name (i := 2) sc_all_kept.nd rfl (Or.inl rfl)) (pgs_cons (pg_name (i := 3) sc_all_kept.nd rfl (Or.inl rfl)) (pgs_cons (pg_name (i := 4) sc_all_kept.nd rfl (Or.inl rfl)) pgs_nil)))) (pss_one (ps_if (pt_cmpR op_gt (pe_op op_sub (pe_ix (ix_or (ixL (K := K) rfl) (ixT (K := K) rfl)) (pv 1) (pv 2) (fun _ _ => rfl)) (pe_ix (ix_or (ixL (K := K) rfl) (ixT (K := K) rfl)) (pv 1) (pv 3) (fun _ _ => rfl))) (pv 4) (nomark _)) (pss_one (ps_ret pe_bl)) pss_nil))) (pss_one (ps_ret pe_bl))), ?_⟩
    obtain ⟨a, xs, rfl, hx, hk, hl⟩ := hb.at
    obtain ⟨c, ys, rfl, hy, hky⟩ := seq_of hd hs
    have hfew := hb.few
    refine q_forE (K := K) (ev_var (i := 0) rfl) hx (fun i σ' H' => ∃ o2 o3 o4, σ' = [some (.ref a), some (.ref c), o2, o3, o4] ∧ Ex H H' ∧ kOk (bs.take i) (items d) = true) (fun H1 e1 => ⟨none, none, none, rfl, e1, rfl⟩) (fun i σ' H' _ pv => ?_) (fun i u σ' H' hu pv => ?_) (fun σ' H' pv => ?_)
    · obtain ⟨_, _, _, _, e, _⟩ := pv
      rcases hx with hx | hx
      · rw [hx]; exact e _ _ hx
      · rw [hx]; exact e _ _ hx
    · obtain ⟨o2, o3, o4, rfl, e, ho⟩ := pv
      obtain ⟨hi', t, rfl, ht, _⟩ := bs_get (hk.mono e) hu
      obtain ⟨fa, fb⟩ := fits_at hf hi'
      refine g3_k ht ?_
      refine s_when (et_test (ev_op (ev_op (ev_ixE (ev_var rfl) (ev_var rfl) (hy.mono e) (atI_d (hky.mono e) hi fa)) (ev_ixE (ev_var rfl) (ev_var rfl) (hy.mono e) (atI_d (hky.mono e) hi fb)) rv_I0) (ev_var rfl) rv_I0)) (fun hc H2 e2 => ?_) fun hc H2 e2 => ⟨_, _, _, rfl, e.trans e2, ?_⟩
      · have hc' := of_decide_eq_true hc
        have : kOk bs (items d) = false := by
          apply Bool.eq_false_iff.mpr
          intro hall
          have := List.all_eq_true.mp hall (bs.getD i B0) (by rw [List.getD_eq_getElem?_getD, List.getElem?_eq_getElem hi']; exact List.getElem_mem hi')
          have := of_decide_eq_true this
          omega
        rw [this] at k
        exact s_ret ev_c fun H3 e3 => k H3 ((e.trans e2).trans e3)
      · have hc' := of_decide_eq_false hc
        rw [kOk_take hi', ho, decide_eq_true (by omega)]; rfl
    · obtain ⟨o2, o3, o4, rfl, e, ho⟩ := pv
      rw [hl, List.take_length] at ho
      rw [ho] at k
      exact s_ret ev_c fun H3 e3 => k H3 (e.trans e3)
theorem ok_are_kept {f f1 f2 f3 f4 : Addr} {fd fd1 fd2 fd3 fd4 : FuncData} (F : Fun K "are_kept" "are_kept" s_are_kept f fd) (T : Txt mg) (c__need_bounds : Cal P w K mg base "_need_bounds" f1 fd1 ["value"] 5 sp_needb) (c_is_list : Cal P w K mg base "is_list" f2 fd2 ["value"] 1 (sp_e isSeqD)) (c_is_day : Cal P w K mg base "is_day" f3 fd3 ["value"] 1 (sp_e isIntD)) (c_all_kept : Cal P w K mg base "all_kept" f4 fd4 ["bounds", "days"] 1 sp_all_kept) :
    FnOk P w K mg base CX0 6 f fd ["bounds", "value"] sp_kept := by
  refine F.ok sc_are_kept (fun vs H Q E h => ?_) (fun cdv A outer s H vs Q E hr h => ?_)
  · obtain ⟨bv, bs, v, d, rfl, _⟩ := h
    rfl
  · obtain ⟨bv, bs, v, d, rfl, hb, hd, hz, k⟩ := h
    refine ⟨_, (pss_cons (ps_expr (pe_call c__need_bounds.ok (hr.mono (by decide)) (by rfl) c__need_bounds.mgx c__need_bounds.kp c__need_bounds.bd .nil pass0 (pa_cons (pv 0) pa_nil))) (pss_cons (ps_if (PW.pt (pw_or (pt_not (pt_val (pe_call c_is_list.ok (hr.mono (by decide)) (by rfl) c_is_list.mgx c_is_list.kp c_is_list.bd .nil pass0 (pa_cons (pv 1) pa_nil)))) (pw_or1 (pt_not (pt_val (pe_callB (allL (K := K) rfl rfl) (by rfl) T.b_all (by decide +kernel) (pa_cons (pe_lc (own := [("day", 2)]) (g := (gName 2)) (by rfl) sc_are_kept.nd (pi_or (piL (K := K) rfl (pv 1)) (piT (K := K) rfl (pv 1))) (blkOk_by (own := [("day", 2)]) (N := ["bounds", "value", "day", "bound"]) (sc := defScope s_are_kept) (by decide +kernel)) (fun _ _ _ _ _ => (pg_name (i := 2) sc_are_kept.nd rfl (Or.inl rfl))) (fun _ _ _ _ _ => pts_nil) (fun _ _ _ _ _ => (pe_call c_is_day.ok (hr.mono (by decide)) (by rfl) c_is_day.mgx c_is_day.kp c_is_day.bd .nil pass0 (pa_cons (pv 2) pa_nil)))) pa_nil))))))) (pss_one (ps_ret pe_bl)) pss_nil) (pss_one (ps_ret (pe_and (pe_callB (allL (K := K) rfl rfl) (by rfl) T.b_all (by decide +kernel) (pa_cons (pe_lc (own := [("bound", 3)]) (g := (gName 3)) (by rfl) sc_are_kept.nd (pi_or (piL (K := K) rfl (pv 0)) (piT (K := K) rfl (pv 0))) (blkOk_by (own := [("bound", 3)]) (N := ["bounds", "value", "day", "bound"]) (sc := defScope s_are_kept) (by decide +kernel)) (fun _ _ _ _ _ => (pg_name (i := 3) sc_are_kept.nd rfl (Or.inl rfl))) (fun _ _ _ _ _ => pts_nil) (fun _ _ _ _ _ => (pe_cmpR op_lt (pe_callB (maxT (K := K) rfl rfl hr.units) (by rfl) T.b_max (by decide +kernel) (pa_cons (pe_slice (slA (K := K) rfl) (pv 3) po_none (po_some pe_int)) pa_nil)) (pe_callB (lenS (K := K) rfl) (by rfl) T.b_len (by decide +kernel) (pa_cons (pv 1) pa_nil)) (nomark _)))) pa_nil)) (pe_one (pe_call c_all_kept.ok (hr.mono (by decide)) (by rfl) c_all_kept.mgx c_all_kept.kp c_all_kept.bd .nil pass0 (pa_cons (pv 0) (pa_cons (pv 1) pa_nil))))))))), ?_⟩
    refine q_dropV (ev_call (ea_cons (ev_var rfl) ea_nil) (spv_needb hb)) fun H1 e1 => ?_
    have hfew := hb.few
    have hd1 := hd.mono e1
    refine q_when (b := !(isSeqD d && (items d).all isIntD)) (et_is (et_or (a := !isSeqD d) (b := !(items d).all isIntD) (et_not (et_B (ev_call (ea_cons (ev_var rfl) ea_nil) (spv_e hd1)))) fun hs => ?_) (by cases isSeqD d <;> rfl)) (fun hc H2 e2 => ?_) (fun hc H2 e2 => ?_)
    · have hs' : isSeqD d = true := by simpa using hs
      obtain ⟨c, ys, rfl, hy, hky⟩ := seq_of hd1 hs'
      exact et_not (et_B (ev_allB (K := K) isIntD (el_eq (el_lcE (K := K) (j := 2) (vs := [2]) (fun _ => true) (fun t => V.bl (isIntD t)) (ev_var (i := 1) rfl) hy hky (by omega) (fun _ => rfl) (fun _ _ _ _ _ _ => lc_yes) fun x t H2 e2 hxt ht _ => ev_call (ea_cons (ev_var rfl) ea_nil) (spv_e hxt)) (by rw [filter_yes]))))
    · have hc' : (isSeqD d && (items d).all isIntD) = false := by cases q : (isSeqD d && (items d).all isIntD) with | false => rfl | true => rw [q] at hc; cases hc
      have : keptD bs d = false := by unfold keptD; rw [hc']; rfl
      rw [this] at k
      exact s_ret ev_c fun H3 e3 => k H3 ((e1.trans e2).trans e3)
    · have hc' : (isSeqD d && (items d).all isIntD) = true := by cases q : (isSeqD d && (items d).all isIntD) with | true => rfl | false => rw [q] at hc; cases hc
      have ek : keptD bs d = (fitsB bs (items d).length && kOk bs (items d)) := by unfold keptD; rw [hc']; rfl
      rw [ek] at k
      rw [Bool.and_eq_true] at hc'
      have e12 := e1.trans e2
      have hd2 := hd.mono e12
      obtain ⟨c, ys, rfl, hy, hky⟩ := seq_of hd2 hc'.1
      obtain ⟨a, xs, rfl, hx, hk, hl⟩ := (hb.mono e12).at
      refine s_ret (ev_andV (ev_is (ev_allB (K := K) (fun x : B => decide (max x.a x.b < (items d).length)) (ts := bs) (el_eq (el_lcE (K := K) (j := 3) (vs := [3]) (fun _ => true) (fun t => V.bl (decide (max (toB t).a (toB t).b < (items d).length))) (ev_var (i := 0) rfl) hx hk (by rw [List.length_map]; omega) (fun _ => rfl) (fun _ _ _ _ _ _ => lc_yes) fun x t H3 e3 hxt ht _ => ?_) (by rw [filter_yes, List.map_map]; exact List.map_congr_left fun x _ => by show V.bl (decide (max (toB x.d).a (toB x.d).b < _)) = _; rw [toB_of]))) rfl) fun hf => ev_call (ea_cons (ev_var rfl) (ea_cons (ev_var rfl) ea_nil)) fun H3 e3 Q' q' E' => ⟨_, bs, _, d, rfl, hb.mono (e12.trans e3), hd2.mono e3, hc'.1, hc'.2, hf, q'⟩) fun H3 e3 => k H3 (e12.trans e3)
      obtain ⟨y, hy', rfl⟩ := List.mem_map.mp ht
      obtain ⟨u, rfl, hu⟩ := bd_at hxt
      rw [toB_of]
      refine ev_is (ev_op (ev_maxT (K := K) (m := (y.a : Int)) (n := (y.b : Int)) (eu_take (K := K) (k := 2) (ev_var rfl) ev_c hu (by show 2 < 3; decide))) (ev_lenE (ev_var rfl) (hy.mono e3)) rv_I0) (congrArg V.bl ?_)
      rw [decide_eq_decide, hky.len]; omega
end
end K43
end
section
set_option maxHeartbeats 4000000
namespace K43
open PySem L2 Evl G OW
/-! ### days raised -/
noncomputable def rV : Option Nat → V
  | none => .non
  | some x => .int (x : Int)
noncomputable def cV (xs : List V) : Option Nat → V
  | none => .non
  | some i => xs.getD i .non
noncomputable def Fin (bs : List B) (n : Nat) (s : S) : Prop := (∃ i, i ≤ n ∧ s = runTo bs n (i + 1) ∧ s.r = none ∧ ∀ j, j < i → (runTo bs n (j + 1)).r ≠ none) ∨ (s = runTo bs n (n + 1) ∧ s.r ≠ none ∧ ∀ j, j ≤ n → (runTo bs n (j + 1)).r ≠ none)
noncomputable def sp_raised : Sp := fun vs H Q _ => ∃ (n : Nat) (v : V) (bs : List B), vs = [.int (n : Int), v] ∧ 1 ≤ n ∧ n ≤ 100 ∧ Bs H v bs ∧ fitsB bs n = true ∧
  ∀ t l c xs H2 s, Ex H H2 → H2 t = some (.tup [.ref l, .ref c, rV s.r]) → H2 l = some (.lst (s.ds.map V.int)) → H2 c = some (.lst (s.cs.map (cV xs))) → DqAll H2 xs (bs.map B.d) → H l = none → H c = none → l ≠ c → Fin bs n s → Q (.ref t) H2
section
variable {K : PySem.W.Frag} {σ : L2.St} {H : Hp} {ta tb te tl : TE} {v : V} {i j l : Nat} {D : Ends} {tz : TS} {n : Nat} {g : TG}
theorem el_rep1 (h : Ev te σ H v) (hb : Ev tb σ H (.int (n : Int))) (hn : n ≤ 1000) : EvL (tOp rRep (tLst (tCons te tNil)) tb) σ H (List.replicate n v) := fun H1 e Q q =>
  el_lst (ea_cons (h.mono e) ea_nil) (by show 1 ≤ 100000; decide) H1 (Ex.refl H1) _ fun p H2 hp e2 h2 => hb H2 (e.trans e2) _ fun H3 e3 => ⟨p, n, [v], rfl, rfl, e3 _ _ h2, by omega, by omega, sz_of (by show 1 * (n : Int).toNat ≤ 100000; omega), fun u hu => q u _ (fresh_back (e2.trans e3) hu) ((e2.trans e3).trans (Ex.new hu)) (by rw [upd_same, Int.toNat_natCast]; congr 2; induction n with | zero => rfl | succ n ih => rw [List.replicate_succ, List.flatten_cons, List.replicate_succ]; simp)⟩
theorem q_asgV (h : Ev te σ H v) (k : ∀ H1, Ex H H1 → g v σ H1 fun σ1 H2 => tz D σ1 H2) : tSeq (tAsg te g) tz D σ H := h H (Ex.refl H) _ k
end
theorem fits_ok {bs : List B} {n : Nat} (h : fitsB bs n = true) : Okb bs n := ⟨fun e he => (fits_at h he).1, fun e he => (fits_at h he).2⟩
theorem len_pass {bs : List B} {n : Nat} {s : S} (h1 : s.ds.length = n) (h2 : s.cs.length = n) : ∀ j, (passTo bs s j).ds.length = n ∧ (passTo bs s j).cs.length = n
  | 0 => ⟨h1, h2⟩
  | j + 1 => by
    obtain ⟨a, b⟩ := len_pass (bs := bs) h1 h2 j
    show (relax _ _ _).ds.length = n ∧ (relax _ _ _).cs.length = n
    unfold relax
    split
    · simp [a, b]
    · exact ⟨a, b⟩
theorem len_run {bs : List B} {n : Nat} : ∀ k, (runTo bs n k).ds.length = n ∧ (runTo bs n k).cs.length = n
  | 0 => by simp [runTo]
  | k + 1 => len_pass (len_run k).1 (len_run k).2 _
section
variable {P : Program} {w : World} {K : PySem.W.Frag} {mg : Str → Option Value} {base : Heap}
theorem ok__raised_days {f : Addr} {fd : FuncData} (F : Fun K "_raised_days" "_raised_days" s__raised_days f fd) (T : Txt mg) : FnOk P w K mg base CX0 1 f fd ["many", "bounds"] sp_raised := by
  refine F.ok sc__raised_days (fun vs H Q E h => ?_) (fun cdv A outer s H vs Q E hr h => ?_)
  · obtain ⟨n, v, bs, rfl, _⟩ := h
    rfl
  · obtain ⟨n, v, bs, rfl, n1, n100, hb, hf, k⟩ := h
    refine ⟨_, (pss_cons (ps_set (i := 2) sc__raised_days.nd rfl (Or.inl rfl) (pe_op op_rep (pe_lst (pa_cons pe_int pa_nil)) (pv 0))) (pss_cons (ps_set (i := 3) sc__raised_days.nd rfl (Or.inl rfl) (pe_op op_rep (pe_lst (pa_cons pe_non pa_nil)) (pv 0))) (pss_cons (ps_for PassesOwn.never rfl (pi_range1 (by rfl) T.b_range (pa_cons (pe_op op_add (pv 0) pe_int) pa_nil)) (pg_name (i := 4) sc__raised_days.nd rfl (Or.inl rfl)) (pss_cons (ps_set (i := 5) sc__raised_days.nd rfl (Or.inl rfl) pe_non) (pss_cons (ps_for PassesOwn.never rfl (pi_or (piL (K := K) rfl (pv 1)) (piT (K := K) rfl (pv 1))) (pg_name (i := 6) sc__raised_days.nd rfl (Or.inl rfl)) (pss_cons (ps_asg (pv 6) (pg_tup (by rfl) (pgs_cons (pg_name (i := 7) sc__raised_days.nd rfl (Or.inl rfl)) (pgs_cons (pg_name (i := 8) sc__raised_days.nd rfl (Or.inl rfl)) (pgs_cons (pg_name (i := 9) sc__raised_days.nd rfl (Or.inl rfl)) pgs_nil))))) (pss_one (ps_if (pt_cmpR op_gt (pe_op op_sub (pe_ix (ixL (K := K) rfl) (pv 2) (pv 7) (fun _ _ => rfl)) (pv 9)) (pe_ix (ixL (K := K) rfl) (pv 2) (pv 8) (fun _ _ => rfl)) (nomark _)) (pss_cons (ps_asg (pe_op op_sub (pe_ix (ixL (K := K) rfl) (pv 2) (pv 7) (fun _ _ => rfl)) (pv 9)) (pg_sub (pv 2) (pv 8) set_list)) (pss_cons (ps_asg (pv 6) (pg_sub (pv 3) (pv 8) set_list)) (pss_one (ps_set (i := 5) sc__raised_days.nd rfl (Or.inl rfl) (pv 8))))) pss_nil)))) (pss_one (ps_if (pt_cmpR op_isN (pv 5) pe_non (nomark _)) (pss_one (ps_ret (pe_tup (pa_cons (pv 2) (pa_cons (pv 3) (pa_cons pe_non pa_nil)))))) pss_nil))))) (pss_one (ps_ret (pe_tup (pa_cons (pv 2) (pa_cons (pv 3) (pa_cons (pv 5) pa_nil))))))))), ?_⟩
    have hfew := hb.few
    obtain ⟨a, xs, rfl, hx, hk, hlx⟩ := hb.at
    refine q_asgL (el_rep1 (n := n) ev_c (ev_var rfl) (by omega)) fun l H1 hl e1 h1 => ?_
    refine q_asgL (el_rep1 (n := n) ev_c (ev_var rfl) (by omega)) fun c H2 hc e2 h2 => ?_
    have hcH : H c = none := fresh_back e1 hc
    have hlc : l ≠ c := fun z => by subst z; rw [h1] at hc; cases hc
    have keepA : ∀ {H' : Hp}, Ex H H' → H' a = H a := fun {H'} e => by
      rcases hx with hx | hx
      · rw [hx]; exact e _ _ hx
      · rw [hx]; exact e _ _ hx
    refine q_forR1 (n := (n : Int) + 1) (ea_cons (ev_op (ev_var rfl) ev_c rv_I0) ea_nil) (by omega)
      (fun i σ' H' => ∃ o4 o5 o6 o7 o8 o9, σ' = [some (.int (n : Int)), some (.ref a), some (.ref l), some (.ref c), o4, o5, o6, o7, o8, o9] ∧ Ex H H' ∧ H' l = some (.lst ((runTo bs n i).ds.map V.int)) ∧ H' c = some (.lst ((runTo bs n i).cs.map (cV xs))) ∧ (∀ j, j < i → (runTo bs n (j + 1)).r ≠ none) ∧ (0 < i → o5 = some (rV (runTo bs n i).r)))
      (fun H3 e3 => ⟨none, none, none, none, none, none, rfl, (e1.trans e2).trans e3, by rw [e3 _ _ (e2 _ _ h1)]; show _ = some (HO.lst ((List.replicate n (0 : Int)).map V.int)); rw [List.map_replicate], by rw [e3 _ _ h2]; show _ = some (HO.lst ((List.replicate n (none : Option Nat)).map (cV xs))); rw [List.map_replicate]; rfl, fun j hj => absurd hj (Nat.not_lt_zero _), fun z => absurd z (Nat.lt_irrefl _)⟩) (fun i σ' H' hi pv => ?_) (fun σ' H' pv => ?_)
    · obtain ⟨o4, o5, o6, o7, o8, o9, rfl, x, hl', hc', hall, _⟩ := pv
      obtain ⟨ln1, ln2⟩ := len_run (bs := bs) (n := n) i
      refine q_asg ev_c fun H3 e3 => ?_
      have x3 := x.trans e3
      refine q_forE (K := K) (ev_var (i := 1) rfl) (hx.same (keepA x3)) (fun j σ' H' => ∃ o6 o7 o8 o9, σ' = [some (.int (n : Int)), some (.ref a), some (.ref l), some (.ref c), some (.int (i : Int)), some (rV (passTo bs (runTo bs n i) j).r), o6, o7, o8, o9] ∧ Ex H H' ∧ H' l = some (.lst ((passTo bs (runTo bs n i) j).ds.map V.int)) ∧ H' c = some (.lst ((passTo bs (runTo bs n i) j).cs.map (cV xs))))
        (fun H4 e4 => ⟨_, _, _, _, rfl, x3.trans e4, (e3.trans e4) _ _ hl', (e3.trans e4) _ _ hc'⟩) (fun j σ' H4 _ pv => ?_) (fun j u σ' H4 hu pv => ?_) (fun σ' H4 pv => ?_)
      · obtain ⟨_, _, _, _, _, e, _⟩ := pv
        rw [keepA e, keepA x3]
      · obtain ⟨p6, p7, p8, p9, rfl, x4, hl4, hc4⟩ := pv
        obtain ⟨hj, t, rfl, ht, _⟩ := bs_get (hk.mono x4) hu
        obtain ⟨fa, fb⟩ := fits_at hf hj
        obtain ⟨m1, m2⟩ := len_pass (bs := bs) ln1 ln2 j
        generalize hst : passTo bs (runTo bs n i) j = st at *
        generalize hbj : bs.getD j B0 = b at *
        have next : passTo bs (runTo bs n i) (j + 1) = relax st j b := by show relax (passTo bs (runTo bs n i) j) j (bs.getD j B0) = _; rw [hst, hbj]
        refine q_asgV (ev_var (i := 6) rfl) fun H5 e5 => g3_k (e5 _ _ ht) ?_
        have hl5 := e5 _ _ hl4
        have hc5 := e5 _ _ hc4
        have at_ : ∀ {y : Nat}, y < n → atI (st.ds.map V.int) (y : Int) = some (.int (st.ds.getD y 0)) := fun {y} hy => by
          have := atI_int (ns := st.ds) (i := (y : Int)) (by omega) (by omega)
          rw [Int.toNat_natCast] at this
          exact this
        refine s_if (et_test (ev_op (ev_op (ev_op (ev_var rfl) (ev_var rfl) (rv_ixL (sq_of hl5) (at_ fa))) (ev_var rfl) rv_I0) (ev_op (ev_var rfl) (ev_var rfl) (rv_ixL (sq_of hl5) (at_ fb))) rv_I0)) (fun hcd H6 e6 => ?_) fun hcd H6 e6 => ⟨some (.ref t), some (.int (b.a : Int)), some (.int (b.b : Int)), some (.int b.m), ?_, (x4.trans e5).trans e6, ?_, ?_⟩
        · have hcd' : st.ds.getD b.a 0 - b.m > st.ds.getD b.b 0 := of_decide_eq_true hcd
          have hrel : relax st j b = ⟨st.ds.set b.b (st.ds.getD b.a 0 - b.m), st.cs.set b.b (some j), some b.b⟩ := by unfold relax; rw [if_pos hcd']
          refine q_setL (xs := st.ds.map V.int) (j := b.b) (v := .int (st.ds.getD b.a 0 - b.m)) (e6 _ _ hl5) (ev_op (ev_op (ev_var rfl) (ev_var rfl) (rv_ixL (sq_of (e6 _ _ hl5)) (at_ fa))) (ev_var rfl) rv_I0) (ev_var rfl) (ev_var rfl) (by rw [List.length_map]; omega) fun H7 e7 => ?_
          have c8 : (upd H7 l (.lst ((st.ds.map V.int).set b.b (.int (st.ds.getD b.a 0 - b.m))))) c = some (.lst (st.cs.map (cV xs))) := by rw [upd_ne (Ne.symm hlc)]; exact e7 _ _ (e6 _ _ hc5)
          refine q_setL (xs := st.cs.map (cV xs)) (j := b.b) (v := .ref t) c8 (ev_var rfl) (ev_var rfl) (ev_var rfl) (by rw [List.length_map]; omega) fun H8 e8 => ?_
          refine s_asg (v := .int (b.b : Int)) (ev_var rfl) fun H9 e9 => ⟨some (.ref t), some (.int (b.a : Int)), some (.int (b.b : Int)), some (.int b.m), ?_, ?_, ?_, ?_⟩
          · rw [next, hrel]; rfl
          · exact ((((((x4.trans e5).trans e6).trans e7).mut hl).trans e8).mut hcH).trans e9
          · rw [next, hrel]
            have : (upd H8 c (.lst ((st.cs.map (cV xs)).set b.b (.ref t)))) l = some (.lst ((st.ds.map V.int).set b.b (.int (st.ds.getD b.a 0 - b.m)))) := by rw [upd_ne hlc]; exact e8 _ _ upd_same
            rw [e9 _ _ this, List.map_set]
          · rw [next, hrel, e9 _ _ upd_same, List.map_set]
            have : cV xs (some j) = .ref t := by show xs.getD j .non = _; rw [List.getD_eq_getElem?_getD, hu]; rfl
            rw [this]
        · have hcd' : ¬ st.ds.getD b.a 0 - b.m > st.ds.getD b.b 0 := of_decide_eq_false hcd
          rw [next]; unfold relax; rw [if_neg hcd']; rfl
        · have hcd' : ¬ st.ds.getD b.a 0 - b.m > st.ds.getD b.b 0 := of_decide_eq_false hcd
          rw [next]; unfold relax; rw [if_neg hcd']; exact e6 _ _ hl5
        · have hcd' : ¬ st.ds.getD b.a 0 - b.m > st.ds.getD b.b 0 := of_decide_eq_false hcd
          rw [next]; unfold relax; rw [if_neg hcd']; exact e6 _ _ hc5
      · obtain ⟨p6, p7, p8, p9, rfl, x4, hl4, hc4⟩ := pv
        rw [hlx] at hl4 hc4 ⊢
        have er : passTo bs (runTo bs n i) bs.length = runTo bs n (i + 1) := rfl
        rw [er] at hl4 hc4 ⊢
        refine s_when (et_is (et_test (ev_op (ev_var rfl) ev_c rv_isN)) (show decide (rV (runTo bs n (i + 1)).r = V.non) = (runTo bs n (i + 1)).r.isNone by cases (runTo bs n (i + 1)).r with | none => rfl | some y => exact decide_eq_false fun z => nomatch z)) (fun hn H5 e5 => ?_) fun hn H5 e5 => ⟨_, _, _, _, _, _, rfl, x4.trans e5, e5 _ _ hl4, e5 _ _ hc4, fun j hj => ?_, fun _ => rfl⟩
        · have hn' : (runTo bs n (i + 1)).r = none := Option.isNone_iff_eq_none.mp hn
          refine s_retU (eu_tup (ea_cons (ev_var rfl) (ea_cons (ev_var rfl) (ea_cons ev_c ea_nil))) (by show 3 ≤ 100000; decide)) fun t H6 ht e6 h6 => ?_
          refine k t l c xs H6 (runTo bs n (i + 1)) ((x4.trans e5).trans e6) (by rw [hn']; exact h6) (e6 _ _ (e5 _ _ hl4)) (e6 _ _ (e5 _ _ hc4)) (hk.mono ((x4.trans e5).trans e6)) hl hcH hlc (.inl ⟨i, by omega, rfl, hn', hall⟩)
        · by_cases ej : j = i
          · subst ej; intro z; rw [z] at hn; cases hn
          · exact hall j (by omega)
    · obtain ⟨o4, o5, o6, o7, o8, o9, rfl, x, hl', hc', hall, h5⟩ := pv
      have en : ((n : Int) + 1).toNat = n + 1 := by omega
      rw [en] at hl' hc' hall h5
      have h5' := h5 (by omega)
      subst h5'
      refine s_retU (eu_tup (ea_cons (ev_var rfl) (ea_cons (ev_var rfl) (ea_cons (ev_var rfl) ea_nil))) (by show 3 ≤ 100000; decide)) fun t H6 ht e6 h6 => ?_
      exact k t l c xs H6 (runTo bs n (n + 1)) (x.trans e6) h6 (e6 _ _ hl') (e6 _ _ hc') (hk.mono (x.trans e6)) hl hcH hlc (.inr ⟨rfl, hall n (by omega), fun j hj => hall j (by omega)⟩)
end
end K43
end
section
set_option maxHeartbeats 4000000
namespace K43
open PySem L2 Evl G OW
theorem u65 {k : Nat} {A : Around} (r : Room k A) : A.units + 65 < cLine := by have := r.un; omega
theorem inDK {X : Cx} {K : PySem.W.Frag} (hK : X.K = K) (hu : X.A.units + 65 < cLine) : OpR X (compareOp .In) (rInD K) := hK ▸ op_inD hu
theorem niDK {X : Cx} {K : PySem.W.Frag} (hK : X.K = K) (hu : X.A.units + 65 < cLine) : OpR X (compareOp .NotIn) (rNotInD K) := hK ▸ op_notInD hu
/-! ### the ring, as it is told -/
noncomputable def ringL (bs : List B) (s : S) (d p : Nat) : List B := ((List.range p).map fun i => causeB bs s (backN bs s d i)).reverse
theorem ringL_len (bs : List B) (s : S) (d p : Nat) : (ringL bs s d p).length = p := by unfold ringL; rw [List.length_reverse, List.length_map, List.length_range]
theorem ringL_get {bs : List B} {s : S} {d p j : Nat} (hj : j < p) : (ringL bs s d p).getD j B0 = causeB bs s (backN bs s d (p - 1 - j)) := by
  unfold ringL
  rw [List.getD_eq_getElem?_getD, List.getElem?_reverse (by rw [List.length_map, List.length_range]; exact hj), List.length_map, List.length_range, List.getElem?_map, List.getElem?_range (by omega)]
  rfl
theorem sum_ringL (bs : List B) (s : S) (d : Nat) : ∀ p, sumB (ringL bs s d p) = wsum bs s d p
  | 0 => rfl
  | p + 1 => by
    have ih := sum_ringL bs s d p
    unfold sumB ringL at *
    rw [List.range_succ, List.map_append, List.reverse_append]
    show (causeB bs s (backN bs s d p)).m + (List.map B.m (List.map (fun i => causeB bs s (backN bs s d i)) (List.range p)).reverse).sum = _
    rw [ih]
    show _ = wsum bs s d p + _
    omega
structure RingOk (bs ring : List B) : Prop where
  ne : ring ≠ []
  mem : ∀ x ∈ ring, ∃ i, i < bs.length ∧ x = bs.getD i B0
  join : joinOk ring = true
  neg : sumB ring < 0
theorem run_ix {bs : List B} {n k x i : Nat} (o : Okb bs n) (h : causeI (runTo bs n (k + 1)) x = some i) : i < bs.length ∧ (bs.getD i B0).b = x := by
  obtain ⟨ps, q⟩ := Iv.run o k
  exact q.ix x i h
theorem ringL_ok {bs : List B} {n k d p : Nat} (o : Okb bs n) (r : Ring bs (runTo bs n (k + 1)) d p) : RingOk bs (ringL bs (runTo bs n (k + 1)) d p) := by
  generalize hs : runTo bs n (k + 1) = s at r ⊢
  have c : ∀ i, i < p → ∃ e, causeI s (backN bs s d i) = some e ∧ e < bs.length ∧ causeB bs s (backN bs s d i) = bs.getD e B0 ∧ (causeB bs s (backN bs s d i)).b = backN bs s d i := fun i hi => by
    obtain ⟨e, he⟩ := Option.ne_none_iff_exists'.mp (r.has i hi)
    obtain ⟨h1, h2⟩ := run_ix (k := k) o (by rw [hs]; exact he)
    have : causeB bs s (backN bs s d i) = bs.getD e B0 := by unfold causeB; rw [he]; rfl
    exact ⟨e, he, h1, this, by rw [this]; exact h2⟩
  have p1 := r.p1
  refine ⟨fun z => ?_, fun x hx => ?_, ?_, by rw [sum_ringL]; exact r.neg⟩
  · have := ringL_len bs s d p
    rw [z] at this
    have : (0 : Nat) = p := this
    omega
  · unfold ringL at hx
    obtain ⟨i, hi, rfl⟩ := List.mem_map.mp (List.mem_reverse.mp hx)
    obtain ⟨e, _, h1, h2, _⟩ := c i (List.mem_range.mp hi)
    exact ⟨e, h1, h2⟩
  · unfold joinOk
    rw [ringL_len]
    refine List.all_eq_true.mpr fun j hj => decide_eq_true ?_
    have hj' := List.mem_range.mp hj
    rw [ringL_get hj']
    by_cases j0 : j = 0
    · subst j0
      rw [if_pos rfl, ringL_get (show p - 1 < p by omega), show p - 1 - (p - 1) = 0 by omega, show p - 1 - 0 = p - 1 by omega]
      obtain ⟨_, _, _, _, h4⟩ := c 0 (by omega)
      rw [h4]
      show d = back bs s (backN bs s d (p - 1))
      have : back bs s (backN bs s d (p - 1)) = backN bs s d (p - 1 + 1) := rfl
      rw [this, show p - 1 + 1 = p by omega, r.cyc]
    · rw [if_neg j0, ringL_get (show j - 1 < p by omega), show p - 1 - (j - 1) = p - 1 - j + 1 by omega]
      obtain ⟨_, _, _, _, h4⟩ := c (p - 1 - j + 1) (by omega)
      rw [h4]; rfl
theorem Fin_one {bs : List B} {n : Nat} {s s' : S} (h : Fin bs n s) (h' : Fin bs n s') : s = s' := by
  rcases h with ⟨i, hi, e, hr, hm⟩ | ⟨e, hr, hm⟩ <;> rcases h' with ⟨i', hi', e', hr', hm'⟩ | ⟨e', hr', hm'⟩
  · have : i = i' := by
      rcases Nat.lt_trichotomy i i' with q | q | q
      · exact absurd (by rw [← e]; exact hr) (hm' i q)
      · exact q
      · exact absurd (by rw [← e']; exact hr') (hm i' q)
    rw [e, e', this]
  · exact absurd (by rw [← e]; exact hr) (hm' i hi)
  · exact absurd (by rw [← e']; exact hr') (hm i' hi')
  · rw [e, e']
noncomputable def leastOf (s : S) : Option (List Int) := if s.r = none then some (s.ds.map (· - s.ds.getD 0 0)) else none
noncomputable def RetLeast (bs : List B) (n : Nat) (H : Hp) (Q : VK) : Prop := ∀ v H2 s, Ex H H2 → Fin bs n s → (match leastOf s with | none => v = V.non | some ds => ∃ p, v = .ref p ∧ H p = none ∧ H2 p = some (.lst (ds.map V.int))) → Q v H2
noncomputable def sp_least : Sp := fun vs H Q _ => ∃ (n : Nat) (v : V) (bs : List B), vs = [.int (n : Int), v] ∧ 1 ≤ n ∧ n ≤ 100 ∧ Bs H v bs ∧ fitsB bs n = true ∧ RetLeast bs n H Q
noncomputable def sp_ring : Sp := fun vs H Q _ => ∃ (n : Nat) (v : V) (bs : List B), vs = [.int (n : Int), v] ∧ 1 ≤ n ∧ n ≤ 100 ∧ Bs H v bs ∧ fitsB bs n = true ∧
  ∀ v H2 s, Ex H H2 → Fin bs n s → ((s.r = none ∧ v = .non) ∨ (s.r ≠ none ∧ ∃ p rs ring, v = .ref p ∧ H p = none ∧ H2 p = some (.lst rs) ∧ DqAll H2 rs (ring.map B.d) ∧ RingOk bs ring ∧ ring.length ≤ n)) → Q v H2
section
variable {K : PySem.W.Frag} {σ : L2.St} {H : Hp} {ta tb te tl : TE} {v : V} {i j l : Nat} {D : Ends} {tz : TS} {n : Nat} {g : TG} {d : PyData} {bs : List B} {a : Addr} {xs : List V}
theorem lay_d (x : B) : x.d.canLay0 = true := by simp [B.d, PyData.canLay0, PyData.canLayAll0]
theorem layAll_d : ∀ bs : List B, PyData.canLayAll0 (bs.map B.d) = true
  | [] => rfl
  | x :: bs => by rw [List.map_cons]; simp [PyData.canLayAll0, lay_d, layAll_d bs]
theorem depthAll_d : ∀ bs : List B, PyData.depthAll (bs.map B.d) ≤ 1
  | [] => by simp [PyData.depthAll]
  | x :: bs => by
    rw [List.map_cons]
    have h1 : x.d.depth = 1 := by simp [B.d, PyData.depth, PyData.depthAll]
    have := depthAll_d bs
    simp only [PyData.depthAll, h1]; omega
theorem shaped_d (x : B) : SeqAt.shaped x.d = true := by unfold SeqAt.shaped; rw [lay_d]; simp [B.d, PyData.depth, PyData.depthAll]
theorem shaped_ds (bs : List B) : SeqAt.shaped (.list (bs.map B.d)) = true := by
  unfold SeqAt.shaped
  have h1 : PyData.canLay0 (.list (bs.map B.d)) = true := by rw [PyData.canLay0]; exact layAll_d bs
  have h2 := depthAll_d bs
  rw [h1, decide_eq_true (by rw [PyData.depth]; omega)]; rfl
/-- t in bounds -/
theorem ev_inB {t : PyData} (h : Ev ta σ H v) (hd : Dq H v t) (hb : isBnd t = true) (k : Ev tb σ H (.ref a)) (hx : H a = some (.lst xs)) (hk : DqAll H xs (bs.map B.d)) : Ev (tOp (rInD K) ta tb) σ H (.bl (memB bs t)) := ev_op h k fun H1 e Q q => by
  have ht := toB_d hb
  refine ⟨t, bs.map B.d, ?_, .lst (sq_of (e _ _ hx)) (dqAll_dp _ (layAll_d bs) (hk.mono e)), by rw [← ht]; exact shaped_d _, shaped_ds bs, q H1 (Ex.refl H1)⟩
  exact dq_dp t (by rw [← ht]; exact lay_d _) (hd.mono e)
theorem atI_prev {i : Nat} {u : V} (hi : i < xs.length) (hu : xs[if i = 0 then xs.length - 1 else i - 1]? = some u) : atI xs ((i : Int) - 1) = some u := by
  by_cases i0 : i = 0
  · subst i0
    rw [if_pos rfl] at hu
    obtain ⟨w, h1, h2⟩ := atI_end (xs := xs) (fun z => by rw [z] at hi; exact absurd hi (Nat.not_lt_zero _))
    rw [h2] at hu
    cases hu
    exact h1
  · rw [if_neg i0] at hu
    rw [show ((i : Int) - 1) = ((i - 1 : Nat) : Int) by omega]
    exact atI_nat hu
end
section
variable {P : Program} {w : World} {K : PySem.W.Frag} {mg : Str → Option Value} {base : Heap}
theorem ok_has_ring_form {f f1 : Addr} {fd fd1 : FuncData} (F : Fun K "has_ring_form" "has_ring_form" s_has_ring_form f fd) (T : Txt mg) (c_are_bounds : Cal P w K mg base "are_bounds" f1 fd1 ["value"] 4 (sp_d areB)) : FnOk P w K mg base CX0 5 f fd ["value"] (sp_d ringForm) := by
  refine F.ok sc_has_ring_form (fun vs H Q E h => ?_) (fun cdv A outer s H vs Q E hr h => ?_)
  · obtain ⟨v, d, rfl, _⟩ := h
    rfl
  · obtain ⟨v, d, rfl, hd, hz, k⟩ := h
    refine ⟨_, (pss_cons (ps_if (PW.pt (pw_or (pt_not (pt_val (pe_call c_are_bounds.ok (hr.mono (by decide)) (by rfl) c_are_bounds.mgx c_are_bounds.kp c_are_bounds.bd .nil pass0 (pa_cons (pv 0) pa_nil)))) (pw_or1 (pt_cmpR op_eq (pe_callB (lenS (K := K) rfl) (by rfl) T.b_len (by decide +kernel) (pa_cons (pv 0) pa_nil)) pe_int (nomark _))))) (pss_one (ps_ret pe_bl)) pss_nil) (pss_cons (ps_setLc (i := 1) (own := [("place", 2)]) (g := (gName 2)) (by rfl) sc_has_ring_form.nd rfl rfl (sw_true rfl rfl rfl (by decide +kernel)) (pi_range1 (by rfl) T.b_range (pa_cons (pe_callB (lenS (K := K) rfl) (by rfl) T.b_len (by decide +kernel) (pa_cons (pv 0) pa_nil)) pa_nil)) (blkOk_by (own := [("place", 2)]) (N := ["value", "joined", "place", "bound"]) (sc := defScope s_has_ring_form) (by decide +kernel)) (fun _ _ _ _ _ => (pg_name (i := 2) sc_has_ring_form.nd rfl (Or.inl rfl))) (fun _ _ _ _ _ => pts_nil) (fun _ _ _ _ _ => (pe_cmpR op_eq (pe_ix (ixT (K := K) rfl) (pe_ix (ix_or (ixL (K := K) rfl) (ixT (K := K) rfl)) (pv 0) (pe_op op_sub (pv 2) pe_int) (fun _ _ => rfl)) pe_int (fun _ _ => rfl)) (pe_ix (ixT (K := K) rfl) (pe_ix (ix_or (ixL (K := K) rfl) (ixT (K := K) rfl)) (pv 0) (pv 2) (fun _ _ => rfl)) pe_int (fun _ _ => rfl)) (nomark _)))) (pss_one (ps_ret (pe_and (pe_callB (allL (K := K) rfl rfl) (by rfl) T.b_all (by decide +kernel) (pa_cons (pv 1) pa_nil)) (pe_one (pe_cmpR op_lt (pe_callB (sumL (K := K) rfl rfl) (by rfl) T.b_sum (by decide +kernel) (pa_cons (pe_lc (own := [("bound", 3)]) (g := (gName 3)) (by rfl) sc_has_ring_form.nd (pi_or (piL (K := K) rfl (pv 0)) (piT (K := K) rfl (pv 0))) (blkOk_by (own := [("bound", 3)]) (N := ["value", "joined", "place", "bound"]) (sc := defScope s_has_ring_form) (by decide +kernel)) (fun _ _ _ _ _ => (pg_name (i := 3) sc_has_ring_form.nd rfl (Or.inl rfl))) (fun _ _ _ _ _ => pts_nil) (fun _ _ _ _ _ => (pe_ix (ixT (K := K) rfl) (pv 3) pe_int (fun _ _ => rfl)))) pa_nil)) pe_int (nomark _)))))))), ?_⟩
    refine q_when (b := !(areB d && !(items d).isEmpty)) (et_is (et_or (a := !areB d) (b := (items d).isEmpty) (et_not (et_B (ev_call (ea_cons (ev_var rfl) ea_nil) (spv_d hd hz)))) fun hs => ?_) (by cases areB d <;> cases (items d).isEmpty <;> rfl)) (fun hc H2 e2 => ?_) (fun hc H2 e2 => ?_)
    · have hs' : areB d = true := by cases q : areB d with | true => rfl | false => rw [q] at hs; cases hs
      have hsq : isSeqD d = true := by unfold areB at hs'; rw [Bool.and_eq_true] at hs'; exact hs'.1
      obtain ⟨a, xs, rfl, hx, hk⟩ := seq_of hd hsq
      refine et_is (et_test (ev_op (ev_lenE (K := K) (ev_var rfl) hx) ev_c (rv_eq rfl))) ?_
      rw [hk.len]
      cases items d with
      | nil => rfl
      | cons _ _ => exact decide_eq_false fun z => by have := V.int.inj z; simp at this; omega
    · have hc' : (areB d && !(items d).isEmpty) = false := by cases q : (areB d && !(items d).isEmpty) with | false => rfl | true => rw [q] at hc; cases hc
      have : ringForm d = false := by unfold ringForm; rw [hc']; rfl
      rw [this] at k
      exact s_ret ev_c fun H3 e3 => k H3 (e2.trans e3)
    · have hc' : (areB d && !(items d).isEmpty) = true := by cases q : (areB d && !(items d).isEmpty) with | true => rfl | false => rw [q] at hc; cases hc
      have ek : ringForm d = (joinOk ((items d).map toB) && decide (sumB ((items d).map toB) < 0)) := by unfold ringForm; rw [hc']; rfl
      rw [ek] at k
      rw [Bool.and_eq_true] at hc'
      have ha := hc'.1
      unfold areB at ha
      rw [Bool.and_eq_true] at ha
      have hd2 := hd.mono e2
      obtain ⟨a, xs, rfl, hx, hk⟩ := seq_of hd2 ha.1
      have hlen := hk.len
      generalize hds : items d = ds at *
      have el : ∀ (i : Nat) (u : V) (H3 : Hp), Ex H2 H3 → xs[i]? = some u → ∃ t, u = .ref t ∧ H3 t = some (.tup [.int (((ds.map toB).getD i B0).a : Int), .int (((ds.map toB).getD i B0).b : Int), .int ((ds.map toB).getD i B0).m]) := fun i u H3 e3 hu => by
        obtain ⟨t, ht, q⟩ := (hk.mono e3).get hu
        have hb := List.all_eq_true.mp ha.2 t (List.mem_of_getElem? ht)
        have e1 : (ds.map toB).getD i B0 = toB t := by rw [List.getD_eq_getElem?_getD, List.getElem?_map, ht]; rfl
        rw [e1]
        rw [← toB_d hb] at q
        exact bd_at q
      refine q_asgL (el_lcR1 (j := 2) (vs := [2]) (n := (ds.length : Int)) (fun _ => true) (fun i => V.bl (decide (((ds.map toB).getD (if i = 0 then (ds.map toB).length - 1 else i - 1) B0).b = ((ds.map toB).getD i B0).a))) (ea_cons (ev_is (ev_lenE (K := K) (ev_var rfl) hx) (by rw [hlen])) ea_nil) (by omega) (fun _ => rfl) (fun _ _ _ _ => lc_yes) (fun i H3 e3 hi _ => ?_)) fun jl H3 hjl e3 hj => ?_
      · have hi' : i < xs.length := by omega
        have hpv : (if i = 0 then xs.length - 1 else i - 1) < xs.length := by split <;> omega
        obtain ⟨t1, q1, h1⟩ := el _ _ H3 e3 (List.getElem?_eq_getElem hpv)
        obtain ⟨t2, q2, h2⟩ := el _ _ H3 e3 (List.getElem?_eq_getElem hi')
        have a1 := atI_prev hi' (by rw [List.getElem?_eq_getElem hpv, q1])
        have a2 : atI xs (i : Int) = some (.ref t2) := atI_nat (by rw [List.getElem?_eq_getElem hi', q2])
        refine ev_is (ev_op (ev_at1 (K := K) (ev_ixE (ev_var rfl) (ev_op (ev_var rfl) ev_c rv_I0) (hx.mono e3) a1) h1) (ev_at0 (K := K) (ev_ixE (ev_var rfl) (ev_var rfl) (hx.mono e3) a2) h2) (rv_eq rfl)) (congrArg V.bl ?_)
        rw [decide_eq_decide, List.length_map, ← hlen]
        exact ⟨fun z => by have := V.int.inj z; omega, fun z => by rw [z]⟩
      · refine s_ret (ev_andV (a := joinOk (ds.map toB)) (b := decide (sumB (ds.map toB) < 0)) (ev_is (ev_cb (ea_cons (ev_var rfl) ea_nil) (rc_all (K := K) (bs := (List.range ds.length).map fun i => decide (((ds.map toB).getD (if i = 0 then (ds.map toB).length - 1 else i - 1) B0).b = ((ds.map toB).getD i B0).a)) (sq_of (by rw [hj]; unfold given; rw [filter_yes, List.map_map, Int.toNat_natCast]; rfl)))) (congrArg V.bl ?_)) fun _ => ev_op (ev_cbL (el_lcE (K := K) (j := 3) (vs := [3]) (fun _ => true) (fun t => V.int (toB t).m) (ev_var (i := 0) rfl) (hx.mono e3) (hk.mono e3) (by omega) (fun _ => rfl) (fun _ _ _ _ _ _ => lc_yes) fun x t H4 e4 hxt ht _ => ?_) fun p H4 e4 h4 => rc_sum (K := K) (ns := (ds.map toB).map B.m) (sq_of (by rw [h4, filter_yes, List.map_map, List.map_map]; rfl))) ev_c rv_I0) fun H4 e4 => k H4 ((e2.trans e3).trans e4)
        · unfold joinOk
          rw [List.all_map, List.length_map]; rfl
        · have hb := List.all_eq_true.mp ha.2 t ht
          rw [← toB_d hb] at hxt
          obtain ⟨u, rfl, hu⟩ := bd_at hxt
          exact ev_at2 (K := K) (ev_var rfl) hu
theorem ok_is_ring {f f1 f2 : Addr} {fd fd1 fd2 : FuncData} (F : Fun K "is_ring" "is_ring" s_is_ring f fd) (T : Txt mg) (c__need_bounds : Cal P w K mg base "_need_bounds" f1 fd1 ["value"] 5 sp_needb) (c_has_ring_form : Cal P w K mg base "has_ring_form" f2 fd2 ["value"] 5 (sp_d ringForm)) : FnOk P w K mg base CX0 6 f fd ["bounds", "value"] sp_isring := by
  refine F.ok sc_is_ring (fun vs H Q E h => ?_) (fun cdv A outer s H vs Q E hr h => ?_)
  · obtain ⟨bv, bs, v, d, rfl, _⟩ := h
    rfl
  · obtain ⟨bv, bs, v, d, rfl, ⟨a, xs, rfl, hx, hk, hfew⟩, hd, hz, k⟩ := h
    refine ⟨_, (pss_cons (ps_expr (pe_call c__need_bounds.ok (hr.mono (by decide)) (by rfl) c__need_bounds.mgx c__need_bounds.kp c__need_bounds.bd .nil pass0 (pa_cons (pv 0) pa_nil))) (pss_one (ps_ret (pe_and (pe_call c_has_ring_form.ok (hr.mono (by decide)) (by rfl) c_has_ring_form.mgx c_has_ring_form.kp c_has_ring_form.bd .nil pass0 (pa_cons (pv 1) pa_nil)) (pe_one (pe_callB (allL (K := K) rfl rfl) (by rfl) T.b_all (by decide +kernel) (pa_cons (pe_lc (own := [("bound", 2)]) (g := (gName 2)) (by rfl) sc_is_ring.nd (pi_or (piL (K := K) rfl (pv 1)) (piT (K := K) rfl (pv 1))) (blkOk_by (own := [("bound", 2)]) (N := ["bounds", "value", "bound"]) (sc := defScope s_is_ring) (by decide +kernel)) (fun _ _ _ _ _ => (pg_name (i := 2) sc_is_ring.nd rfl (Or.inl rfl))) (fun _ _ _ _ _ => pts_nil) (fun _ _ _ _ _ => (pe_cmpR (inDK (K := K) rfl (u65 hr)) (pv 2) (pv 0) (by rfl)))) pa_nil))))))), ?_⟩
    refine q_dropV (ev_call (ea_cons (ev_var rfl) ea_nil) (spv_needb (bs := bs) ⟨.list (bs.map B.d), .lst hx hk, rfl, rfl, hfew⟩)) fun H1 e1 => ?_
    refine s_ret (ev_andV (a := ringForm d) (b := (items d).all (memB bs)) (ev_call (ea_cons (ev_var rfl) ea_nil) (spv_d (hd.mono e1) hz)) fun ho => ?_) fun H2 e2 => k H2 (e1.trans e2)
    have ha : areB d = true := by unfold ringForm at ho; rw [Bool.and_eq_true, Bool.and_eq_true] at ho; exact ho.1.1
    unfold areB at ha
    rw [Bool.and_eq_true] at ha
    obtain ⟨c, ys, rfl, hy, hky⟩ := seq_of (hd.mono e1) ha.1
    exact ev_allB (K := K) (memB bs) (el_eq (el_lcE (K := K) (j := 2) (vs := [2]) (fun _ => true) (fun t => V.bl (memB bs t)) (ev_var (i := 1) rfl) hy hky (by omega) (fun _ => rfl) (fun _ _ _ _ _ _ => lc_yes) fun x t H2 e2 hxt ht _ => ev_inB (ev_var rfl) hxt (List.all_eq_true.mp ha.2 t ht) (ev_var rfl) ((e1.trans e2) _ _ hx) (hk.mono (e1.trans e2))) (by rw [filter_yes]))
end
end K43
end
section
set_option maxHeartbeats 4000000
namespace K43
open PySem L2 Evl G OW
section
variable {K : PySem.W.Frag} {σ : L2.St} {H : Hp} {ta tb te tl : TE} {tt : TT} {v : V} {i j l : Nat} {vs : List Nat} {D : Ends} {tz : TS} {n : Nat} {g : TG} {ds : List PyData} {bs : List B} {a : Addr} {xs : List V} {sp : Sp} {d : PyData}
theorem asgG_k (h : te σ H fun x H1 => g x σ H1 fun σ1 H2 => tz D σ1 H2) : tSeq (tAsg te g) tz D σ H := h
theorem revL_k {Q : VK} (h : te σ H fun x H1 => ∃ a xs, x = .ref a ∧ SqL K H1 a xs ∧ ∀ p, H1 p = none → Q (.ref p) (upd H1 p (.lst xs.reverse))) : tRevL K te σ H Q := h
theorem spv_need (h : 1 ≤ n) : SpV sp_need ([.int (n : Int)] ++ []) H .non := fun H1 e Q q E => ⟨(n : Int), rfl, by omega, q⟩
theorem spv_below (hb : Bs H v bs) (hf : fitsB bs n = true) : SpV sp_below ([.int (n : Int), v] ++ []) H .non := fun H1 e Q q E => ⟨n, v, bs, rfl, hb.mono e, hf, q⟩
theorem dq_ints : ∀ ns : List Int, DqAll H (ns.map V.int) (ns.map PyData.int)
  | [] => .nil
  | n :: ns => .cons (.int n) (dq_ints ns)
theorem el_lcL (f : PyData → Bool) (g : PyData → V) (h : Ev tl σ H (.ref a)) (hx : H a = some (.lst xs)) (k : DqAll H xs ds) (hz : ds.length ≤ 40000) (hw : ∀ x, wipe ((wipe σ vs).set j (some x)) vs = wipe σ vs)
    (ht : ∀ (x : V) (t : PyData) H1, Ex H H1 → Dq H1 x t → t ∈ ds → EvT tt ((wipe σ vs).set j (some x)) H1 (f t)) (he : ∀ (x : V) (t : PyData) H1, Ex H H1 → Dq H1 x t → t ∈ ds → f t = true → Ev te ((wipe σ vs).set j (some x)) H1 (g t)) :
    EvL (tLc (iList K tl) (gName j) tt te vs) σ H ((ds.filter f).map g) := fun H0 e Q q => h H0 e _ fun H1 e1 => ⟨a, rfl, ⟨xs, sq_of ((e.trans e1) a _ hx)⟩, fun Dl hD => by
  have hl : xs.length = ds.length := k.len
  refine lc_list (xs := xs) (Cw H1 (fun i => f (ds.getD i .none)) (fun i => g (ds.getD i .none)) Dl) ⟨hD, Ex.new hD, upd_same⟩ (fun i H' _ p => sq_of (p.2.1 a _ ((e.trans e1) a _ hx))) (fun i x H' hi p => ?_) (fun H' p => ?_)
  · obtain ⟨t, hti, hxt⟩ := (k.mono (e.trans e1)).get hi
    have hm := List.mem_of_getElem? hti
    exact ⟨hw x, cw_turn p (by have := (List.getElem?_eq_some_iff.mp hi).1; omega) (by rw [getD_q hti]; exact ht x t H1 (e.trans e1) hxt hm) (fun hf => by rw [getD_q hti] at hf ⊢; exact he x t H1 (e.trans e1) hxt hm hf)⟩
  · rw [hl] at p
    refine q Dl H' (fresh_back e1 p.1) (e1.trans p.2.1) ?_
    rw [p.2.2, given_filterQ]⟩
/-- [day - days[0] for day in days] -/
theorem el_norm {ns : List Int} (h : Ev tl σ H (.ref a)) (hx : H a = some (.lst (ns.map V.int))) (hz : ns.length ≤ 40000) (hw : ∀ x, wipe ((wipe σ vs).set j (some x)) vs = wipe σ vs) (he : ∀ (x : Int) H1, Ex H H1 → x ∈ ns → Ev te ((wipe σ vs).set j (some (.int x))) H1 (.int (x - ns.getD 0 0))) :
    EvL (tLc (iList K tl) (gName j) tYes te vs) σ H ((ns.map (· - ns.getD 0 0)).map V.int) :=
  el_eq (el_lcL (K := K) (fun _ => true) (fun t => V.int (intOf t - ns.getD 0 0)) h hx (dq_ints ns) (by rw [List.length_map]; exact hz) hw (fun _ _ _ _ _ _ => lc_yes) fun x t H1 e1 hxt ht _ => by
    obtain ⟨y, hy, rfl⟩ := List.mem_map.mp ht
    cases hxt
    exact he y H1 e1 hy) (by rw [filter_yes, List.map_map, List.map_map]; rfl)
end
theorem _root_.OW.DqAll.rev {H : Hp} {ys : List V} {ds : List PyData} (h : DqAll H ys ds) : DqAll H ys.reverse ds.reverse := by
  induction ys generalizing ds with
  | nil => cases h; exact .nil
  | cons v vs ih =>
    cases h with
    | cons a t => rw [List.reverse_cons, List.reverse_cons]; exact (ih t).app (.cons a .nil)
theorem Fin_len {bs : List B} {n : Nat} {s : S} (h : Fin bs n s) : s.ds.length = n ∧ s.cs.length = n := by
  rcases h with ⟨i, _, e, _⟩ | ⟨e, _⟩ <;> rw [e] <;> exact len_run _
section
variable {P : Program} {w : World} {K : PySem.W.Frag} {mg : Str → Option Value} {base : Heap}
theorem ok_least_days {f f1 f2 f3 : Addr} {fd fd1 fd2 fd3 : FuncData} (F : Fun K "least_days" "least_days" s_least_days f fd) (T : Txt mg) (c_need_length : Cal P w K mg base "need_length" f1 fd1 ["value"] 3 sp_need) (c__need_bounds_below : Cal P w K mg base "_need_bounds_below" f2 fd2 ["many", "value"] 6 sp_below) (c__raised_days : Cal P w K mg base "_raised_days" f3 fd3 ["many", "bounds"] 1 sp_raised) : FnOk P w K mg base CX0 7 f fd ["many", "bounds"] sp_least := by
  refine F.ok sc_least_days (fun vs H Q E h => ?_) (fun cdv A outer s H vs Q E hr h => ?_)
  · obtain ⟨n, v, bs, rfl, _⟩ := h
    rfl
  · obtain ⟨n, v, bs, rfl, n1, n100, hb, hf, k⟩ := h
    refine ⟨_, (pss_cons (ps_expr (pe_call c_need_length.ok (hr.mono (by decide)) (by rfl) c_need_length.mgx c_need_length.kp c_need_length.bd .nil pass0 (pa_cons (pv 0) pa_nil))) (pss_cons (ps_expr (pe_call c__need_bounds_below.ok (hr.mono (by decide)) (by rfl) c__need_bounds_below.mgx c__need_bounds_below.kp c__need_bounds_below.bd .nil pass0 (pa_cons (pv 0) (pa_cons (pv 1) pa_nil)))) (pss_cons (ps_asg (pe_call c__raised_days.ok (hr.mono (by decide)) (by rfl) c__raised_days.mgx c__raised_days.kp c__raised_days.bd .nil pass0 (pa_cons (pv 0) (pa_cons (pv 1) pa_nil))) (pg_tup (by rfl) (pgs_cons (pg_name (i := 2) sc_least_days.nd rfl (Or.inr rfl)) (pgs_cons (pg_name (i := 3) sc_least_days.nd rfl (Or.inl rfl)) (pgs_cons (pg_name (i := 4) sc_least_days.nd rfl (Or.inl rfl)) pgs_nil))))) (pss_one (ps_ret (pe_ifExp (pt_cmpR op_notN (pv 4) pe_non (nomark _)) pe_non (pe_lc (own := [("day", 5)]) (g := (gName 5)) (by rfl) sc_least_days.nd (piL (K := K) rfl (pv 2)) (blkOk_by (own := [("day", 5)]) (N := ["many", "bounds", "days", "_", "late", "day"]) (sc := defScope s_least_days) (by decide +kernel)) (fun _ _ _ _ _ => (pg_name (i := 5) sc_least_days.nd rfl (Or.inl rfl))) (fun _ _ _ _ _ => pts_nil) (fun _ _ _ _ _ => (pe_op op_sub (pv 5) (pe_ix (ixL (K := K) rfl) (pv 2) pe_int (fun _ _ => rfl))))))))))), ?_⟩
    refine q_dropV (ev_call (ea_cons (ev_var rfl) ea_nil) (spv_need n1)) fun H1 e1 => ?_
    refine q_dropV (ev_call (ea_cons (ev_var rfl) (ea_cons (ev_var rfl) ea_nil)) (spv_below (hb.mono e1) hf)) fun H2 e2 => ?_
    refine asgG_k (call_k (ac_v (ev_var rfl) fun H3 e3 => ac_v (ev_var rfl) fun H4 e4 => ac_nil ⟨n, v, bs, rfl, n1, n100, hb.mono (((e1.trans e2).trans e3).trans e4), hf, fun t l c xs H5 st e5 ht hl hc hk hlf hcf hlc fin => g3_k ht ?_⟩))
    have x5 := ((((e1.trans e2).trans e3).trans e4).trans e5)
    have ln := (Fin_len fin).1
    have hlH : H l = none := fresh_back ((((e1.trans e2).trans e3).trans e4)) hlf
    cases hr : st.r with
    | some y =>
      refine ret_k ((et_test (ev_op (ev_var (i := 4) (v := rV (some y)) rfl) ev_c rv_notN)) H5 (Ex.refl H5) _ fun H6 e6 => ?_)
      rw [if_pos (show (!decide (rV (some y) = V.non)) = true from rfl)]
      exact v_k ev_c fun H7 e7 => k _ H7 st ((x5.trans e6).trans e7) fin (by unfold leastOf; rw [hr]; rfl)
    | none =>
      refine ret_k ((et_test (ev_op (ev_var (i := 4) (v := rV none) rfl) ev_c rv_notN)) H5 (Ex.refl H5) _ fun H6 e6 => ?_)
      rw [if_neg (show ¬ (!decide (rV none = V.non)) = true from by decide)]
      refine el_norm (K := K) (ns := st.ds) (vs := [5]) (j := 5) (ev_var rfl) (e6 _ _ hl) (by omega) (fun _ => rfl) (fun x H7 e7 hx => ev_op (ev_var rfl) (ev_op (ev_var rfl) ev_c (rv_ixL (sq_of (e7 _ _ (e6 _ _ hl))) (atI_int (i := 0) (by omega) (by omega)))) rv_I0) H6 (Ex.refl H6) _ fun p H7 hp e7 h7 => k _ H7 st ((x5.trans e6).trans e7) fin ?_
      have el : leastOf st = some (st.ds.map (· - st.ds.getD 0 0)) := by unfold leastOf; rw [if_pos hr]
      rw [el]
      exact ⟨p, rfl, fresh_back (x5.trans e6) hp, h7⟩
theorem ok_ring_of {f f1 f2 f3 : Addr} {fd fd1 fd2 fd3 : FuncData} (F : Fun K "ring_of" "ring_of" s_ring_of f fd) (T : Txt mg) (c_need_length : Cal P w K mg base "need_length" f1 fd1 ["value"] 3 sp_need) (c__need_bounds_below : Cal P w K mg base "_need_bounds_below" f2 fd2 ["many", "value"] 6 sp_below) (c__raised_days : Cal P w K mg base "_raised_days" f3 fd3 ["many", "bounds"] 1 sp_raised) : FnOk P w K mg base CX0 7 f fd ["many", "bounds"] sp_ring := by
  refine F.ok sc_ring_of (fun vs H Q E h => ?_) (fun cdv A outer s H vs Q E hr h => ?_)
  · obtain ⟨n, v, bs, rfl, _⟩ := h
    rfl
  · obtain ⟨n, v, bs, rfl, n1, n100, hb, hf, k⟩ := h
    refine ⟨_, (pss_cons (ps_expr (pe_call c_need_length.ok (hr.mono (by decide)) (by rfl) c_need_length.mgx c_need_length.kp c_need_length.bd .nil pass0 (pa_cons (pv 0) pa_nil))) (pss_cons (ps_expr (pe_call c__need_bounds_below.ok (hr.mono (by decide)) (by rfl) c__need_bounds_below.mgx c__need_bounds_below.kp c__need_bounds_below.bd .nil pass0 (pa_cons (pv 0) (pa_cons (pv 1) pa_nil)))) (pss_cons (ps_asg (pe_call c__raised_days.ok (hr.mono (by decide)) (by rfl) c__raised_days.mgx c__raised_days.kp c__raised_days.bd .nil pass0 (pa_cons (pv 0) (pa_cons (pv 1) pa_nil))) (pg_tup (by rfl) (pgs_cons (pg_name (i := 2) sc_ring_of.nd rfl (Or.inl rfl)) (pgs_cons (pg_name (i := 3) sc_ring_of.nd rfl (Or.inl rfl)) (pgs_cons (pg_name (i := 4) sc_ring_of.nd rfl (Or.inl rfl)) pgs_nil))))) (pss_cons (ps_if (pt_cmpR op_isN (pv 4) pe_non (nomark _)) (pss_one (ps_ret pe_non)) pss_nil) (pss_cons (ps_for PassesOwn.never rfl (pi_range1 (by rfl) T.b_range (pa_cons (pv 0) pa_nil)) (pg_name (i := 2) sc_ring_of.nd rfl (Or.inl rfl)) (pss_one (ps_set (i := 4) sc_ring_of.nd rfl (Or.inl rfl) (pe_ix (ixT (K := K) rfl) (pe_ix (ixL (K := K) rfl) (pv 3) (pv 4) (fun _ _ => rfl)) pe_int (fun _ _ => rfl))))) (pss_cons (ps_set (i := 5) sc_ring_of.nd rfl (Or.inl rfl) (pe_lst (pa_cons (pe_ix (ixL (K := K) rfl) (pv 3) (pv 4) (fun _ _ => rfl)) pa_nil))) (pss_cons (ps_while PassesOwn.never (pt_cmpR op_ne (pe_ix (ixT (K := K) rfl) (pe_ix (ixL (K := K) rfl) (pv 5) (pe_un un_neg pe_int) (fun _ _ => rfl)) pe_int (fun _ _ => rfl)) (pv 4) (nomark _)) (pss_one (ps_expr (pe_bm PySem.F.plainAttrs_list PySem.F.slot_list_append PySem.F.type_list_append mt_append (pv 5) (pa_cons (pe_ix (ixL (K := K) rfl) (pv 3) (pe_ix (ixT (K := K) rfl) (pe_ix (ixL (K := K) rfl) (pv 5) (pe_un un_neg pe_int) (fun _ _ => rfl)) pe_int (fun _ _ => rfl)) (fun _ _ => rfl)) pa_nil))))) (pss_one (ps_ret (pe_revL (pv 5))))))))))), ?_⟩
    refine q_dropV (ev_call (ea_cons (ev_var rfl) ea_nil) (spv_need n1)) fun H1 e1 => ?_
    refine q_dropV (ev_call (ea_cons (ev_var rfl) (ea_cons (ev_var rfl) ea_nil)) (spv_below (hb.mono e1) hf)) fun H2 e2 => ?_
    refine asgG_k (call_k (ac_v (ev_var rfl) fun H3 e3 => ac_v (ev_var rfl) fun H4 e4 => ac_nil ⟨n, v, bs, rfl, n1, n100, hb.mono (((e1.trans e2).trans e3).trans e4), hf, fun t l c xs H5 st e5 ht hl hc hk hlf hcf hlc fin => g3_k ht ?_⟩))
    have x5 := ((((e1.trans e2).trans e3).trans e4).trans e5)
    obtain ⟨ln, lc⟩ := Fin_len fin
    have o := fits_ok hf
    refine q_when (et_is (et_test (ev_op (ev_var (i := 4) (v := rV st.r) rfl) ev_c rv_isN)) (show decide (rV st.r = V.non) = st.r.isNone by cases st.r with | none => rfl | some y => exact decide_eq_false fun z => nomatch z)) (fun hn H6 e6 => ?_) fun hn H6 e6 => ?_
    · have hn' : st.r = none := Option.isNone_iff_eq_none.mp hn
      exact s_ret ev_c fun H7 e7 => k _ H7 st ((x5.trans e6).trans e7) fin (.inl ⟨hn', rfl⟩)
    · obtain ⟨y, hy⟩ : ∃ y, st.r = some y := by cases q : st.r with | none => rw [q] at hn; cases hn | some y => exact ⟨y, rfl⟩
      have est : st = runTo bs n (n + 1) := by
        rcases fin with ⟨i, _, _, hr, _⟩ | ⟨e, _⟩
        · rw [hr] at hy; cases hy
        · exact e
      obtain ⟨yn, hwalk, p, hpn, ring⟩ := ring_found o (by rw [← est]; exact hy)
      rw [← est] at hwalk ring
      have ix : ∀ x i, causeI st x = some i → i < bs.length ∧ (bs.getD i B0).b = x := fun x i q => run_ix (k := n) o (by rw [← est]; exact q)
      rw [hy]
      have x6 := x5.trans e6
      have hc6 := e6 _ _ hc
      have hk6 := hk.mono e6
      have hlx : xs.length = bs.length := by rw [hk.len, List.length_map]
      -- causes[x], x a day with a cause
      have look : ∀ (x : Nat) (H' : Hp), Ex H6 H' → x < n → causeI st x ≠ none → ∃ u, atI (st.cs.map (cV xs)) (x : Int) = some (.ref u) ∧ H' u = some (.tup [.int ((causeB bs st x).a : Int), .int ((causeB bs st x).b : Int), .int (causeB bs st x).m]) ∧ Dq H' (.ref u) (causeB bs st x).d := fun x H' e' hxn hcx => by
        obtain ⟨i, hi⟩ := Option.ne_none_iff_exists'.mp hcx
        obtain ⟨hib, _⟩ := ix x i hi
        have hcb : causeB bs st x = bs.getD i B0 := by unfold causeB; rw [hi]; rfl
        obtain ⟨_, u, hu, hH, hD⟩ := bs_get (hk6.mono e') (List.getElem?_eq_getElem (show i < xs.length by omega))
        refine ⟨u, ?_, by rw [hcb]; exact hH, by rw [hcb, ← hu]; exact hD⟩
        refine atI_nat ?_
        rw [List.getElem?_map]
        have e1 : st.cs[x]? = some (some i) := by
          have := hi
          unfold causeI at this
          rw [List.getD_eq_getElem?_getD, List.getElem?_eq_getElem (show x < st.cs.length by omega)] at this
          rw [List.getElem?_eq_getElem (show x < st.cs.length by omega)]
          exact congrArg some this
        rw [e1]
        show some (xs.getD i .non) = _
        rw [List.getD_eq_getElem?_getD, List.getElem?_eq_getElem (show i < xs.length by omega), hu]; rfl
      refine q_forR1 (n := (n : Int)) (ea_cons (ev_var rfl) ea_nil) (by omega) (fun i σ' H' => ∃ o2, σ' = [some (.int (n : Int)), some v, o2, some (.ref c), some (.int ((backN bs st y i : Nat) : Int)), none] ∧ Ex H6 H') (fun H7 e7 => ⟨_, rfl, e7⟩) (fun i σ' H' hi pv => ?_) (fun σ' H' pv => ?_)
      · obtain ⟨o2, rfl, e'⟩ := pv
        obtain ⟨h1, h2⟩ := hwalk i (by omega)
        obtain ⟨u, a1, a2, _⟩ := look _ H' e' h2 h1
        exact s_asg (v := .int ((backN bs st y (i + 1) : Nat) : Int)) (ev_at0 (K := K) (ev_op (ev_var rfl) (ev_var rfl) (rv_ixL (sq_of (e' _ _ hc6)) a1)) a2) fun H7 e7 => ⟨_, rfl, e'.trans e7⟩
      · obtain ⟨o2, rfl, e'⟩ := pv
        rw [Int.toNat_natCast]
        generalize hd : backN bs st y n = d0 at *
        have lookR : ∀ (i : Nat) (H' : Hp), Ex H6 H' → i < p → ∃ u, atI (st.cs.map (cV xs)) ((backN bs st d0 i : Nat) : Int) = some (.ref u) ∧ H' u = some (.tup [.int ((causeB bs st (backN bs st d0 i)).a : Int), .int ((causeB bs st (backN bs st d0 i)).b : Int), .int (causeB bs st (backN bs st d0 i)).m]) ∧ Dq H' (.ref u) (causeB bs st (backN bs st d0 i)).d := fun i H' e' hi => by
          refine look _ H' e' ?_ (ring.has i hi)
          obtain ⟨e, he⟩ := Option.ne_none_iff_exists'.mp (ring.has i hi)
          obtain ⟨h1, h2⟩ := ix _ e he
          rw [← h2]; exact o.b e h1
        have p1 := ring.p1
        obtain ⟨u0, a1, a2, a3⟩ := lookR 0 H6 (Ex.refl H6) (by omega)
        refine q_asgL (xs := [.ref u0]) (el_lst (ea_cons (ev_op (ev_var rfl) (ev_var rfl) (rv_ixL (sq_of (e' _ _ hc6)) a1)) ea_nil) (by show 1 ≤ 100000; decide)) fun rl H7 hrl e7 h7 => ?_
        have x7 := x6.trans (e'.trans e7)
        have rlc : rl ≠ c := fun z => by rw [z, e' _ _ hc6] at hrl; cases hrl
        refine q_while (fun m σ' H' => ∃ (q : Nat) (rs : List V), σ' = [some (.int (n : Int)), some v, o2, some (.ref c), some (.int (d0 : Int)), some (.ref rl)] ∧ Ex H6 H' ∧ q < p ∧ m = p - q ∧ H' rl = some (.lst rs) ∧ DqAll H6 rs ((List.range (q + 1)).map fun i => (causeB bs st (backN bs st d0 i)).d)) (p - 0)
          ⟨0, [.ref u0], rfl, e'.trans e7, by omega, rfl, h7, .cons a3 .nil⟩ ?_
        rintro m σ' H8 ⟨q, rs, rfl, x8, hq, rfl, hrs, kr⟩
        have hlen : rs.length = q + 1 := by rw [kr.len, List.length_map, List.length_range]
        obtain ⟨ul, b1, b2⟩ := atI_end (xs := rs) (fun z => by rw [z] at hlen; cases hlen)
        obtain ⟨dl, c1, c2⟩ := kr.get b2
        have edl : dl = (causeB bs st (backN bs st d0 q)).d := by
          rw [hlen, List.getElem?_map, List.getElem?_range (by omega)] at c1
          exact (Option.some.inj c1).symm
        rw [edl] at c2
        obtain ⟨ut, rfl, hut⟩ := bd_at (c2.mono x8)
        have last0 : ∀ {H9 : Hp}, Ex H8 H9 → Ev (tOp (rIxT K) (tOp (rIxL K) (tVar 5) (tUn (rU fun i => V.int (-i)) (tC (.int 1)))) (tC (.int 0))) [some (.int (n : Int)), some v, o2, some (.ref c), some (.int (d0 : Int)), some (.ref rl)] H9 (.int ((backN bs st d0 (q + 1) : Nat) : Int)) := fun {H9} e9 =>
          ev_at0 (K := K) (ev_op (ev_var rfl) (ev_un ev_c ru_neg) (rv_ixL (sq_of (e9 _ _ hrs)) b1)) (e9 _ _ hut)
        refine ⟨!decide (backN bs st d0 (q + 1) = d0), et_is (et_test (ev_op (last0 (Ex.refl H8)) (ev_var rfl) (rv_ne rfl))) (by congr 1; rw [decide_eq_decide]; exact ⟨fun z => by have := V.int.inj z; omega, fun z => by rw [z]⟩), fun hb H9 e9 => ?_, fun hb H9 e9 => ?_⟩
        · have hne : backN bs st d0 (q + 1) ≠ d0 := by simpa using hb
          have hq1 : q + 1 < p := by
            by_cases h : q + 1 = p
            · exact absurd (by rw [h]; exact ring.cyc) hne
            · omega
          obtain ⟨u2, f1, f2, f3⟩ := lookR (q + 1) H6 (Ex.refl H6) hq1
          refine ⟨fun σ2 H' => ∃ m', m' < p - q ∧ ∃ (q : Nat) (rs : List V), σ2 = [some (.int (n : Int)), some v, o2, some (.ref c), some (.int (d0 : Int)), some (.ref rl)] ∧ Ex H6 H' ∧ q < p ∧ m' = p - q ∧ H' rl = some (.lst rs) ∧ DqAll H6 rs ((List.range (q + 1)).map fun i => (causeB bs st (backN bs st d0 i)).d), fun _ _ z => z, ?_⟩
          have hrl6 : H6 rl = none := fresh_back e' hrl
          refine s_app (e9 _ _ hrs) (ev_var rfl) (ev_op (ev_var rfl) (last0 e9) (rv_ixL (sq_of ((x8.trans e9) _ _ hc6)) f1)) (by omega) fun Ha ea => ?_
          have xa : Ex H6 (upd Ha rl (.lst (rs ++ [.ref u2]))) := ((x8.trans e9).trans ea).mut hrl6
          -- what was read stays: the bounds lie in H6
          refine ⟨p - (q + 1), by omega, q + 1, rs ++ [.ref u2], rfl, xa, hq1, rfl, upd_same, ?_⟩
          rw [List.range_succ, List.map_append]
          exact kr.app (.cons f3 .nil)
        · have hd0 : backN bs st d0 (q + 1) = d0 := by simpa using hb
          have hqp : q + 1 = p := by
            by_cases h : q + 1 = p
            · exact h
            · exact absurd hd0 (ring.min (q + 1) (by omega) (by omega))
          refine ret_k (revL_k (K := K) (v_k (ev_var rfl) fun Ha ea => ⟨rl, rs, rfl, sq_of ((e9.trans ea) _ _ hrs), fun pl hpl => ?_⟩))
          have xa := ((x6.trans x8).trans e9).trans ea
          refine k _ _ st (xa.trans (Ex.new hpl)) fin (.inr ⟨by rw [hy]; simp, pl, rs.reverse, ringL bs st d0 p, rfl, fresh_back xa hpl, upd_same, ?_, by rw [est] at ring ⊢; exact ringL_ok o ring, by rw [ringL_len]; exact hpn⟩)
          have : (ringL bs st d0 p).map B.d = ((List.range (q + 1)).map fun i => (causeB bs st (backN bs st d0 i)).d).reverse := by unfold ringL; rw [List.map_reverse, List.map_map, hqp]; rfl
          rw [this]
          exact (kr.mono (((x8.trans e9).trans ea).trans (Ex.new hpl))).rev
end
end K43
end
section
set_option maxHeartbeats 4000000
namespace K43
open PySem PySem.Spec PyProof.Rows L2 Evl G OW
/-! ### zip of a tuple with a list -/
noncomputable def ItzM (K : PySem.W.Frag) (a b : Addr) : It :=
  ⟨fun i H => ∃ xs ys x y, SqT K H a xs ∧ SqL K H b ys ∧ xs[i]? = some x ∧ ys[i]? = some y,
   fun i H v H' => ∃ T x y, v = V.ref T ∧ H T = none ∧ H' = upd H T (.tup [x, y]) ∧ (∀ xs, SqT K H a xs → xs[i]? = some x) ∧ ∀ ys, SqL K H b ys → ys[i]? = some y,
   fun i H => ∃ xs ys, SqT K H a xs ∧ SqL K H b ys ∧ xs.length = i ∧ ys.length = i⟩
/-- the state of such a zip -/
noncomputable def AtzM (z TI TO i1 i2 a b : Addr) (i : Nat) (h : Heap) : Prop := IsZip h z TI TO .none ∧ IsTupOf2 h TI (.ref i1) (.ref i2) ∧ (∃ x y, IsTupOf2 h TO x y) ∧ h.IsTupleIter i1 a i ∧ h.IsListIter i2 b i
theorem mem5 {c z TI TO i1 i2 : Addr} (h : c ∈ [z, TI, TO, i1, i2]) : c = z ∨ c = TI ∨ c = TO ∨ c = i1 ∨ c = i2 := by simpa using h
theorem off5 {c z TI TO i1 i2 : Addr} (h : c ∉ [z, TI, TO, i1, i2]) : c ≠ z ∧ c ≠ TI ∧ c ≠ TO ∧ c ≠ i1 ∧ c ≠ i2 := by simpa using h
theorem turnM {P : Program} {w : World} {K : PySem.W.Frag} {elts : List Expr} {kk : Nat} {tpos : Pos} {a b z TI TO i1 i2 : Addr} (D : ZipSep2 z TI TO i1 i2 [i1, a] [i2, b]) (n1 : a ≠ i1) (n2 : b ≠ i2) (n3 : i1 ≠ i2) (n4 : TI ≠ i1) (n5 : TI ≠ i2) : Turn P w K (.Tuple elts kk tpos) (ItzM K a b) [z, TI, TO, i1, i2] z (AtzM z TI TO i1 i2 a b) where
  mem := List.mem_cons_self ..
  obj := fun i h st c hc => by
    obtain ⟨hz, hTI, ⟨x, y, hTO⟩, ⟨o1, e1, _, d1⟩, ⟨o2, e2, _, d2⟩⟩ := st
    rcases mem5 hc with rfl | rfl | rfl | rfl | rfl
    · exact ⟨_, hz, fun v q => nomatch q⟩
    · exact ⟨_, hTI, fun v q => nomatch q⟩
    · exact ⟨_, hTO, fun v q => nomatch q⟩
    · exact ⟨o1, e1, fun v q => by rw [d1] at q; cases q⟩
    · exact ⟨o2, e2, fun v q => by rw [d2] at q; cases q⟩
  keep := fun i h h' st k => by
    obtain ⟨hz, hTI, ⟨x, y, hTO⟩, s1, s2⟩ := st
    exact ⟨k _ (by simp) _ hz, k _ (by simp) _ hTI, ⟨x, y, k _ (by simp) _ hTO⟩, s1.at fun o q => k _ (by simp) o q, s2.at fun o q => k _ (by simp) o q⟩
  item := by
    intro X hP hw hK hc i pins s σ H E I hf st hg
    subst hP hw hK
    obtain ⟨hz, hTI, ⟨x0, y0, hTO⟩, s1, s2⟩ := st
    obtain ⟨xs, ys, x, y, hqx, hqy, hx, hy⟩ := hg
    obtain ⟨us, ru, pu, _⟩ := I.tuple hqx
    obtain ⟨ws, rw', pw, _⟩ := I.list hqy
    obtain ⟨u, hu, ruu⟩ := ru.get hx
    obtain ⟨u2, hu2, ruu2⟩ := rw'.get hy
    have lu : i < us.toArray.size := by have := (List.getElem?_eq_some_iff.mp hu).1; simpa using this
    have lw : i < ws.toArray.size := by have := (List.getElem?_eq_some_iff.mp hu2).1; simpa using this
    have zs : z < s.heap.objs.size := Heap.lt_size hz
    have hh : X.A.in1.handled = none := I.ok.hd hc
    refine wpAny_pyNext_zipD2_item D (Draws.tuple hh i1 a n1 us.toArray) (Draws.list hh i2 b n2 ws.toArray) hz hTI hTO ⟨s1, pu⟩ ⟨s2, pw.isList⟩ lu lw fun x1 x2 h' tk q1 q2 z' TO' t1 t2 hT hsz hk => ?_
    have e1 : x1 = u := by have : us[i]? = some x1 := by simpa using q1
                           rw [hu] at this; exact (Option.some.inj this).symm
    have e2 : x2 = u2 := by have : ws[i]? = some x2 := by simpa using q2
                            rw [hu2] at this; exact (Option.some.inj this).symm
    subst e1 e2
    refine ⟨_, rfl, wpAny_letOwnedTupleGo_zip (s := { s with heap := h', toks := tk }) z' fun h'' z'' sb => ?_⟩
    have hT2 := (sb.2 _ (Nat.ne_of_gt zs)).trans hT
    have I1 : Inv X pins σ (upd H s.heap.objs.size (.tup [x, y])) { s with heap := h'', toks := tk } :=
      I.turnedNew (t' := tk) (ch := [z, TI, TO, i1, i2]) (fun c o hb q => by
        obtain ⟨b1, b2, b3, b4, b5⟩ := off5 hb
        exact (sb.2 c b1).trans (hk c o b1 b3 b4 b5 q)) hf (Nat.le_refl _) ⟨by show 2 ≤ sizeLine; decide, [x1, x2], .cons ruu (.cons ruu2 .nil), ⟨_, hT2, rfl, _, rfl⟩⟩
    refine ⟨.ref s.heap.objs.size, _, I1, rfl, ⟨_, x, y, rfl, I.hok.fresh (Nat.le_refl _), rfl, fun l hl => by rw [I.tuple_inj hl hqx]; exact hx, fun l hl => by rw [I.list_inj hl hqy]; exact hy⟩, ⟨z'', (sb.2 _ D.TIz).trans (hk _ _ D.TIz D.TITO n4 n5 hTI), ⟨x1, x2, (sb.2 _ D.TOz).trans TO'⟩, t1.1.at fun o q => (sb.2 _ (Ne.symm D.zi1)).trans q, t2.1.at fun o q => (sb.2 _ (Ne.symm D.zi2)).trans q⟩, fun c hcm => ?_⟩
    have hlt : c < s.heap.objs.size := by
      rcases mem5 hcm with rfl | rfl | rfl | rfl | rfl
      · exact zs
      · exact Heap.lt_size hTI
      · exact Heap.lt_size hTO
      · obtain ⟨_, e1, _⟩ := s1; exact Heap.lt_size e1
      · obtain ⟨_, e2, _⟩ := s2; exact Heap.lt_size e2
    rw [upd_ne (Nat.ne_of_lt hlt)]
    exact (hf c hcm).1
  done := by
    intro X hP hw hK hc i pins s σ H E I hf st hg
    subst hP hw hK
    obtain ⟨hz, hTI, ⟨x0, y0, hTO⟩, s1, s2⟩ := st
    obtain ⟨xs, ys, hqx, hqy, l1, l2⟩ := hg
    obtain ⟨us, ru, pu, _⟩ := I.tuple hqx
    obtain ⟨ws, rw', pw, _⟩ := I.list hqy
    have m1 := ru.length
    have m2 := rw'.length
    have hh : X.A.in1.handled = none := I.ok.hd hc
    have f1 : us.toArray.size = i := by simp; omega
    have f2 : ws.toArray.size = i := by simp; omega
    exact wpAny_pyNext_zipD2_end D (Draws.tuple hh i1 a n1 us.toArray) (Draws.list hh i2 b n2 ws.toArray) hz hTI hTO ⟨s1, pu⟩ ⟨s2, pw.isList⟩ (by omega) (by omega) (.inl (by omega)) fun h' tk hk => ⟨rfl, I.turnedL (t' := tk) (ch := [z, TI, TO, i1, i2]) (fun c o hb q => by
      obtain ⟨b1, b2, b3, b4, b5⟩ := off5 hb
      exact hk c o b1 b3 b4 b5 q) hf⟩
  self := fun A i s Q E st h => wpAny_pyIter_zip st.1 h
noncomputable def iZipM (K : PySem.W.Frag) (ta : TA) : TI := fun σ H R => ta σ H fun vs H1 => ∃ a b xs ys, vs = [V.ref a, V.ref b] ∧ SqT K H1 a xs ∧ SqL K H1 b ys ∧ R (ItzM K a b) H1
theorem pi_zipM {X : Cx} {e e2 : Expr} {ta : TA} {p pos tpos : Pos} {elts : List Expr} {kk : Nat} (hg : Gl X "zip") (hm : X.mg "zip" = none) (ha : PA X [e, e2] ta)
    (hs : starEach [e, e2] X.env = (false, eval e X.env) :: starEach [e2] X.env := by rfl) (hpl : (backTo pos (starEach [e2] X.env)).any (·.1) = false := by rfl) :
    PI X (.Tuple elts kk tpos) (.Call (.Name "zip" p) [e, e2] [] pos) (iZipM X.K ta) := by
  refine ⟨fun pins s σ H R I h => Call_ (ld_blt I hg hm PyProof.Rows.boot_zip (PyProof.Rows.callWith_type1 (thn (ha.run pos pins s σ H _ I h) fun us s1 ⟨vs, H1, I1, r1, q1⟩ => ?_) hs hpl))⟩
  obtain ⟨a, b, xs, ys, rfl, hqx, hqy, q⟩ := q1
  obtain ⟨u1, u2, rfl, r1, r2⟩ := vals2 r1
  cases r1
  cases r2
  obtain ⟨us, _, pu, _⟩ := I1.tuple hqx
  obtain ⟨ws, _, pw, _⟩ := I1.list hqy
  have la : a < s1.heap.objs.size := by obtain ⟨o1, ho1, _⟩ := id pu; exact Heap.lt_size ho1
  have lb : b < s1.heap.objs.size := pw.lt
  have S : ZipSep2 (s1.heap.objs.size + 4) (s1.heap.objs.size + 2) (s1.heap.objs.size + 3) s1.heap.objs.size (s1.heap.objs.size + 1) [s1.heap.objs.size, a] [s1.heap.objs.size + 1, b] := zip_sep2 (fun c hc => by rw [List.mem_singleton.mp hc]; exact la) (fun c hc => by rw [List.mem_singleton.mp hc]; exact lb)
  refine zip_begins2 (begins_tuple a us.toArray) (begins_list b ws.toArray) pu pw.isList fun h' hz hTI hTO g1 g2 hsz hk => wpAny_pyIter_zip hz ?_
  have I2 : Inv X pins σ H1 { s1 with heap := h' } := I1.kept (t' := s1.toks) hk
  refine ⟨_, [_, _, _, _, _], _, _, H1, rfl, I2, turnM S (show a ≠ s1.heap.objs.size by exact Nat.ne_of_lt la) (Nat.ne_of_lt (Nat.lt_succ_of_lt lb)) (show (s1.heap.objs.size : Nat) ≠ s1.heap.objs.size + 1 by omega) (show (s1.heap.objs.size + 2 : Nat) ≠ s1.heap.objs.size by omega) (show (s1.heap.objs.size + 2 : Nat) ≠ s1.heap.objs.size + 1 by omega), ⟨hz, hTI, ⟨_, _, hTO⟩, ⟨_, g1, rfl, rfl⟩, ⟨_, g2, rfl, rfl⟩⟩, fun c hcm => ?_, q⟩
  have hle : s1.heap.objs.size ≤ c := by
    rcases mem5 hcm with rfl | rfl | rfl | rfl | rfl
    · exact Nat.le_add_right _ _
    · exact Nat.le_add_right _ _
    · exact Nat.le_add_right _ _
    · exact Nat.le_refl _
    · exact Nat.le_add_right _ _
  exact I1.fpOk hle (I1.hok.fresh hle)
theorem pi_zipE {X : Cx} {K : PySem.W.Frag} (hK : X.K = K) {e e2 : Expr} {ta : TA} {p pos tpos : Pos} {elts : List Expr} {kk : Nat} (hg : Gl X "zip") (hm : X.mg "zip" = none) (ha : PA X [e, e2] ta)
    (hs : starEach [e, e2] X.env = (false, eval e X.env) :: starEach [e2] X.env := by rfl) (hpl : (backTo pos (starEach [e2] X.env)).any (·.1) = false := by rfl) :
    PI X (.Tuple elts kk tpos) (.Call (.Name "zip" p) [e, e2] [] pos) (iOr (iZip K ta) (iZipM K ta)) := hK ▸ pi_or (pi_zip hg hm ha hs hpl) (pi_zipM hg hm ha hs hpl)
end K43
end
section
set_option maxHeartbeats 4000000
namespace K43
open PySem L2 Evl G OW
/-! ### comprehensions over pairs, over bounds -/
section
variable {K : PySem.W.Frag} {σ : L2.St} {H : Hp} {ta tb te tl : TE} {tt : TT} {tA : TA} {j i1 i2 i3 : Nat} {vs : List Nat} {a b : Addr} {xs ys : List V} {x y z v : V} {t : Addr} {Qs : L2.St → Hp → Prop} {bs : List B}
theorem g2_k (ht : H t = some (.tup [x, y])) (k : Qs ((σ.set i1 (some x)).set i2 (some y)) H) : gTup K 2 (gCons (gName i1) (gCons (gName i2) gNil)) (.ref t) σ H Qs := ⟨t, _, rfl, st_of ht, rfl, x, _, rfl, y, _, rfl, rfl, k⟩
theorem walkM (hl : xs.length = ys.length) : Walk (ItzM K a b) xs.length (fun H => SqT K H a xs ∧ SqL K H b ys) (YPair (fun i => xs[i]?) fun i => ys[i]?) :=
  ⟨fun i _ hi q => ⟨xs, ys, xs[i], ys[i]'(by omega), q.1, q.2, List.getElem?_eq_getElem hi, List.getElem?_eq_getElem (by omega)⟩, fun _ q => ⟨xs, ys, q.1, q.2, rfl, hl.symm⟩, fun i H v H' _ q r => by
    obtain ⟨T, x, y, rfl, hT, rfl, f1, f2⟩ := r
    exact ⟨T, x, y, rfl, hT, rfl, f1 xs q.1, f2 ys q.2⟩⟩
theorem walkL (hl : xs.length = ys.length) : Walk (Itz K a b) xs.length (fun H => SqL K H a xs ∧ SqL K H b ys) (YPair (fun i => xs[i]?) fun i => ys[i]?) :=
  ⟨fun i _ hi q => ⟨xs, ys, xs[i], ys[i]'(by omega), q.1, q.2, List.getElem?_eq_getElem hi, List.getElem?_eq_getElem (by omega)⟩, fun _ q => ⟨xs, ys, q.1, q.2, .inl (Nat.le_refl _)⟩, fun i H v H' _ q r => by
    obtain ⟨T, x, y, rfl, hT, rfl, f1, f2⟩ := r
    exact ⟨T, x, y, rfl, hT, rfl, f1 xs q.1, f2 ys q.2⟩⟩
theorem el_lcZ (f : Nat → V) (h : EvA tA σ H [.ref a, .ref b]) (hx : Sq2 H a xs) (hy : H b = some (.lst ys)) (hl : xs.length = ys.length) (hz : xs.length ≤ 40000) (hw : ∀ x y, wipe (((wipe σ vs).set i1 (some x)).set i2 (some y)) vs = wipe σ vs)
    (he : ∀ (i : Nat) (x y : V) H1, Ex H H1 → xs[i]? = some x → ys[i]? = some y → Ev te (((wipe σ vs).set i1 (some x)).set i2 (some y)) H1 (f i)) :
    EvL (tLc (iOr (iZip K tA) (iZipM K tA)) (gTup K 2 (gCons (gName i1) (gCons (gName i2) gNil))) tYes te vs) σ H ((List.range xs.length).map f) := fun H0 e Q q => by
  have body : ∀ (H1 : Hp), Ex H0 H1 → ∀ Dl, H1 Dl = none → ∀ i x H' H'', i < xs.length → Cw H1 (fun _ => true) f Dl i H' → YPair (fun i => xs[i]?) (fun i => ys[i]?) i H' x H'' → gTup K 2 (gCons (gName i1) (gCons (gName i2) gNil)) x (wipe σ vs) H'' fun σ2 H2 => wipe σ2 vs = wipe σ vs ∧ tYes σ2 H2 fun b H3 =>
      if b = true then te σ2 H3 fun y H4 => ∃ acc, H4 Dl = some (.lst acc) ∧ acc.length < sizeLine ∧ Cw H1 (fun _ => true) f Dl (i + 1) (upd H4 Dl (.lst (acc ++ [y]))) else Cw H1 (fun _ => true) f Dl (i + 1) H3 := fun H1 e1 Dl hD i x H' H'' hi p r => by
    obtain ⟨T, u, w, rfl, hT, rfl, f1, f2⟩ := r
    have hne : Dl ≠ T := fun z => by rw [← z, p.2.2] at hT; cases hT
    have p' : Cw H1 (fun _ => true) f Dl i (upd H' T (.tup [u, w])) := ⟨p.1, p.2.1.trans (Ex.new hT), by rw [upd_ne hne]; exact p.2.2⟩
    exact g2_k upd_same ⟨hw u w, cw_turn p' (by omega) lc_yes fun _ => he i u w H1 (e.trans e1) f1 f2⟩
  have fin : ∀ (H1 : Hp), Ex H0 H1 → ∀ Dl H', Cw H1 (fun _ => true) f Dl xs.length H' → Q (.ref Dl) H' := fun H1 e1 Dl H' p => q Dl H' (fresh_back e1 p.1) (e1.trans p.2.1) (by rw [p.2.2]; unfold given; rw [filter_yes])
  rcases hx with hx | hx
  · exact .inl (h H0 e _ fun H1 e1 => ⟨a, b, xs, ys, rfl, sq_of ((e.trans e1) _ _ hx), sq_of ((e.trans e1) _ _ hy), fun Dl hD => lc_it (walkL (K := K) hl) (Cw H1 (fun _ => true) f Dl) ⟨hD, Ex.new hD, upd_same⟩ (fun i H' _ p => ⟨sq_of (p.2.1 _ _ ((e.trans e1) _ _ hx)), sq_of (p.2.1 _ _ ((e.trans e1) _ _ hy))⟩) (fun i x H' H'' hi p r => body H1 e1 Dl hD i x H' H'' hi p r) fun H' p => fin H1 e1 Dl H' p⟩)
  · exact .inr (h H0 e _ fun H1 e1 => ⟨a, b, xs, ys, rfl, st_of ((e.trans e1) _ _ hx), sq_of ((e.trans e1) _ _ hy), fun Dl hD => lc_it (walkM (K := K) hl) (Cw H1 (fun _ => true) f Dl) ⟨hD, Ex.new hD, upd_same⟩ (fun i H' _ p => ⟨st_of (p.2.1 _ _ ((e.trans e1) _ _ hx)), sq_of (p.2.1 _ _ ((e.trans e1) _ _ hy))⟩) (fun i x H' H'' hi p r => body H1 e1 Dl hD i x H' H'' hi p r) fun H' p => fin H1 e1 Dl H' p⟩)
/-- [.. for a, b, m in bounds] -/
theorem el_lcB (f : B → V) (h : Ev tl σ H (.ref a)) (hx : H a = some (.lst xs)) (k : DqAll H xs (bs.map B.d)) (hz : bs.length ≤ 40000) (hw : ∀ x y z, wipe ((((wipe σ vs).set i1 (some x)).set i2 (some y)).set i3 (some z)) vs = wipe σ vs)
    (he : ∀ (x : B) H1, Ex H H1 → x ∈ bs → Ev te ((((wipe σ vs).set i1 (some (.int (x.a : Int)))).set i2 (some (.int (x.b : Int)))).set i3 (some (.int x.m))) H1 (f x)) :
    EvL (tLc (iList K tl) (gTup K 3 (gCons (gName i1) (gCons (gName i2) (gCons (gName i3) gNil)))) tYes te vs) σ H (bs.map f) := fun H0 e Q q => h H0 e _ fun H1 e1 => ⟨a, rfl, ⟨xs, sq_of ((e.trans e1) a _ hx)⟩, fun Dl hD => by
  have hl : xs.length = bs.length := by rw [k.len, List.length_map]
  refine lc_list (xs := xs) (Cw H1 (fun _ => true) (fun i => f (bs.getD i B0)) Dl) ⟨hD, Ex.new hD, upd_same⟩ (fun i H' _ p => sq_of (p.2.1 a _ ((e.trans e1) a _ hx))) (fun i x H' hi p => ?_) (fun H' p => ?_)
  · obtain ⟨hib, t, rfl, ht, _⟩ := bs_get (k.mono ((e.trans e1).trans p.2.1)) hi
    exact g3_k ht ⟨hw _ _ _, cw_turn p (by omega) lc_yes fun _ => he _ H1 (e.trans e1) (by rw [List.getD_eq_getElem?_getD, List.getElem?_eq_getElem hib]; exact List.getElem_mem hib)⟩
  · rw [hl] at p
    refine q Dl H' (fresh_back e1 p.1) (e1.trans p.2.1) ?_
    rw [p.2.2]
    unfold given
    rw [filter_yes]
    congr 2
    apply List.ext_getElem
    · simp
    · intro i h1 h2
      simp only [List.getElem_map, List.getElem_range, List.getD_eq_getElem?_getD]
      rw [List.getElem?_eq_getElem (by simpa using h2)]; rfl⟩
end
noncomputable def BL (H : Hp) (v : V) (bs : List B) : Prop := ∃ a xs, v = .ref a ∧ H a = some (.lst xs) ∧ DqAll H xs (bs.map B.d) ∧ bs.length ≤ 1000
theorem BL.bs {H : Hp} {v : V} {bs : List B} (h : BL H v bs) : Bs H v bs := let ⟨a, xs, f, g, k, l⟩ := h; ⟨.list (bs.map B.d), by rw [f]; exact .lst g k, rfl, rfl, l⟩
noncomputable def sp_lleast : Sp := fun vs H Q _ => ∃ (n : Nat) (v : V) (bs : List B), vs = [.int (n : Int), v] ∧ 1 ≤ n ∧ n ≤ 100 ∧ BL H v bs ∧ fitsB bs n = true ∧ RetLeast bs n H Q
noncomputable def sp_ldays : Sp := fun vs H Q _ => ∃ bv bs v d, vs = [bv, v] ∧ BL H bv bs ∧ Dq H v d ∧ (items d).length ≤ 30000 ∧ RetV (.bl (keptD bs d)) H Q
section
variable {P : Program} {w : World} {K : PySem.W.Frag} {mg : Str → Option Value} {base : Heap}
theorem ok__law_least {f : Addr} {fd : FuncData} (F : Fun K "_law_least" "_law_least" s__law_least f fd) (T : Txt mg) : FnOk P w K mg base CX0 1 f fd ["_law_many", "_law_bounds_here"] sp_lleast := by
  refine F.ok sc__law_least (fun vs H Q E h => ?_) (fun cdv A outer s H vs Q E hr h => ?_)
  · obtain ⟨n, v, bs, rfl, _⟩ := h
    rfl
  · obtain ⟨n, v, bs, rfl, n1, n100, ⟨a, xs, rfl, hx, hk, hfew⟩, hf, k⟩ := h
    refine ⟨_, (pss_cons (ps_set (i := 2) sc__law_least.nd rfl (Or.inr rfl) (pe_op op_rep (pe_lst (pa_cons pe_int pa_nil)) (pv 0))) (pss_cons (ps_for PassesOwn.never rfl (pi_range1 (by rfl) T.b_range (pa_cons (pe_op op_add (pv 0) pe_int) pa_nil)) (pg_name (i := 3) sc__law_least.nd rfl (Or.inl rfl)) (pss_cons (ps_set (i := 4) sc__law_least.nd rfl (Or.inl rfl) pe_bl) (pss_cons (ps_for PassesOwn.never rfl (piL (K := K) rfl (pv 1)) (pg_tup (by rfl) (pgs_cons (pg_name (i := 5) sc__law_least.nd rfl (Or.inl rfl)) (pgs_cons (pg_name (i := 6) sc__law_least.nd rfl (Or.inl rfl)) (pgs_cons (pg_name (i := 7) sc__law_least.nd rfl (Or.inl rfl)) pgs_nil)))) (pss_one (ps_if (pt_cmpR op_gt (pe_op op_sub (pe_ix (ixL (K := K) rfl) (pv 2) (pv 5) (fun _ _ => rfl)) (pe_ix (ixL (K := K) rfl) (pv 2) (pv 6) (fun _ _ => rfl))) (pv 7) (nomark _)) (pss_cons (ps_asg (pe_op op_sub (pe_ix (ixL (K := K) rfl) (pv 2) (pv 5) (fun _ _ => rfl)) (pv 7)) (pg_sub (pv 2) (pv 6) set_list)) (pss_one (ps_set (i := 4) sc__law_least.nd rfl (Or.inl rfl) pe_bl))) pss_nil))) (pss_one (ps_if (pt_not (pt_val (pv 4))) (pss_one (ps_ret (pe_lc (own := [("_law_day", 8)]) (g := (gName 8)) (by rfl) sc__law_least.nd (piL (K := K) rfl (pv 2)) (blkOk_by (own := [("_law_day", 8)]) (N := ["_law_many", "_law_bounds_here", "_law_days", "_law_turn", "_law_is_moved", "_law_one", "_law_other", "_law_most", "_law_day"]) (sc := defScope s__law_least) (by decide +kernel)) (fun _ _ _ _ _ => (pg_name (i := 8) sc__law_least.nd rfl (Or.inl rfl))) (fun _ _ _ _ _ => pts_nil) (fun _ _ _ _ _ => (pe_op op_sub (pv 8) (pe_ix (ixL (K := K) rfl) (pv 2) pe_int (fun _ _ => rfl))))))) pss_nil))))) (pss_one (ps_ret pe_non)))), ?_⟩
    have hlx : xs.length = bs.length := by rw [hk.len, List.length_map]
    refine q_asgL (el_rep1 (n := n) ev_c (ev_var rfl) (by omega)) fun l H1 hl e1 h1 => ?_
    refine q_forR1 (n := (n : Int) + 1) (ea_cons (ev_op (ev_var rfl) ev_c rv_I0) ea_nil) (by omega)
      (fun i σ' H' => ∃ o3 o4 o5 o6 o7, σ' = [some (.int (n : Int)), some (.ref a), some (.ref l), o3, o4, o5, o6, o7, none] ∧ Ex H H' ∧ H' l = some (.lst ((runTo bs n i).ds.map V.int)) ∧ (∀ j, j < i → (runTo bs n (j + 1)).r ≠ none))
      (fun H3 e3 => ⟨none, none, none, none, none, rfl, e1.trans e3, by rw [e3 _ _ h1]; show _ = some (HO.lst ((List.replicate n (0 : Int)).map V.int)); rw [List.map_replicate], fun j hj => absurd hj (Nat.not_lt_zero _)⟩) (fun i σ' H' hi pv => ?_) (fun σ' H' pv => ?_)
    · obtain ⟨o3, o4, o5, o6, o7, rfl, x, hl', hall⟩ := pv
      obtain ⟨ln1, ln2⟩ := len_run (bs := bs) (n := n) i
      refine q_asg ev_c fun H3 e3 => ?_
      have x3 := x.trans e3
      refine q_forL (K := K) (xs := xs) (ev_var (i := 1) rfl) (sq_of (x3 _ _ hx)) (fun j σ' H' => ∃ o5 o6 o7, σ' = [some (.int (n : Int)), some (.ref a), some (.ref l), some (.int (i : Int)), some (.bl (passTo bs (runTo bs n i) j).r.isSome), o5, o6, o7, none] ∧ Ex H H' ∧ H' l = some (.lst ((passTo bs (runTo bs n i) j).ds.map V.int)))
        (fun H4 e4 => ⟨_, _, _, rfl, x3.trans e4, (e3.trans e4) _ _ hl'⟩) (fun j σ' H4 _ pv => ?_) (fun j u σ' H4 hu pv => ?_) (fun σ' H4 pv => ?_)
      · obtain ⟨_, _, _, _, e, _⟩ := pv
        exact sq_of (e _ _ hx)
      · obtain ⟨p5, p6, p7, rfl, x4, hl4⟩ := pv
        obtain ⟨hj, t, rfl, ht, _⟩ := bs_get (hk.mono x4) hu
        obtain ⟨fa, fb⟩ := fits_at hf hj
        obtain ⟨m1, m2⟩ := len_pass (bs := bs) ln1 ln2 j
        generalize hst : passTo bs (runTo bs n i) j = st at *
        generalize hbj : bs.getD j B0 = b at *
        have next : passTo bs (runTo bs n i) (j + 1) = relax st j b := by show relax (passTo bs (runTo bs n i) j) j (bs.getD j B0) = _; rw [hst, hbj]
        refine g3_k ht ?_
        have at_ : ∀ {y : Nat}, y < n → atI (st.ds.map V.int) (y : Int) = some (.int (st.ds.getD y 0)) := fun {y} hy => by
          have := atI_int (ns := st.ds) (i := (y : Int)) (by omega) (by omega)
          rw [Int.toNat_natCast] at this
          exact this
        refine s_if (et_test (ev_op (ev_op (ev_op (ev_var rfl) (ev_var rfl) (rv_ixL (sq_of hl4) (at_ fa))) (ev_op (ev_var rfl) (ev_var rfl) (rv_ixL (sq_of hl4) (at_ fb))) rv_I0) (ev_var rfl) rv_I0)) (fun hcd H6 e6 => ?_) fun hcd H6 e6 => ⟨some (.int (b.a : Int)), some (.int (b.b : Int)), some (.int b.m), ?_, x4.trans e6, ?_⟩
        · have hcd' : st.ds.getD b.a 0 - b.m > st.ds.getD b.b 0 := by have := of_decide_eq_true hcd; omega
          have hrel : relax st j b = ⟨st.ds.set b.b (st.ds.getD b.a 0 - b.m), st.cs.set b.b (some j), some b.b⟩ := by unfold relax; rw [if_pos hcd']
          refine q_setL (xs := st.ds.map V.int) (j := b.b) (v := .int (st.ds.getD b.a 0 - b.m)) (e6 _ _ hl4) (ev_op (ev_op (ev_var rfl) (ev_var rfl) (rv_ixL (sq_of (e6 _ _ hl4)) (at_ fa))) (ev_var rfl) rv_I0) (ev_var rfl) (ev_var rfl) (by rw [List.length_map]; omega) fun H7 e7 => ?_
          refine s_asg (v := .bl true) ev_c fun H9 e9 => ⟨some (.int (b.a : Int)), some (.int (b.b : Int)), some (.int b.m), ?_, ?_, ?_⟩
          · rw [next, hrel]; rfl
          · exact (((x4.trans e6).trans e7).mut hl).trans e9
          · rw [next, hrel, e9 _ _ upd_same, List.map_set]
        · have hcd' : ¬ st.ds.getD b.a 0 - b.m > st.ds.getD b.b 0 := by have := of_decide_eq_false hcd; omega
          rw [next]; unfold relax; rw [if_neg hcd']; rfl
        · have hcd' : ¬ st.ds.getD b.a 0 - b.m > st.ds.getD b.b 0 := by have := of_decide_eq_false hcd; omega
          rw [next]; unfold relax; rw [if_neg hcd']; exact e6 _ _ hl4
      · obtain ⟨p5, p6, p7, rfl, x4, hl4⟩ := pv
        rw [hlx] at hl4 ⊢
        have er : passTo bs (runTo bs n i) bs.length = runTo bs n (i + 1) := rfl
        rw [er] at hl4 ⊢
        refine s_when (et_not (et_B (ev_var (i := 4) rfl))) (fun hn H5 e5 => ?_) fun hn H5 e5 => ⟨_, _, _, _, _, rfl, x4.trans e5, e5 _ _ hl4, fun j hj => ?_⟩
        · have hn' : (runTo bs n (i + 1)).r = none := by cases q : (runTo bs n (i + 1)).r with | none => rfl | some y => rw [q] at hn; cases hn
          have lenr := (len_run (bs := bs) (n := n) (i + 1)).1
          refine (el_norm (K := K) (ns := (runTo bs n (i + 1)).ds) (vs := [8]) (j := 8) (ev_var rfl) (e5 _ _ hl4) (by omega) (fun _ => rfl) (fun y H7 e7 hy => ev_op (ev_var rfl) (ev_op (ev_var rfl) ev_c (rv_ixL (sq_of (e7 _ _ (e5 _ _ hl4))) (atI_int (i := 0) (by omega) (by omega)))) rv_I0)) H5 (Ex.refl H5) _ fun p H7 hp e7 h7 => k _ H7 (runTo bs n (i + 1)) ((x4.trans e5).trans e7) (.inl ⟨i, by omega, rfl, hn', hall⟩) ?_
          have el : leastOf (runTo bs n (i + 1)) = some ((runTo bs n (i + 1)).ds.map (· - (runTo bs n (i + 1)).ds.getD 0 0)) := by unfold leastOf; rw [if_pos hn']
          rw [el]
          exact ⟨p, rfl, fresh_back (x4.trans e5) hp, h7⟩
        · by_cases ej : j = i
          · subst ej; intro z; rw [z] at hn; cases hn
          · exact hall j (by omega)
    · obtain ⟨o3, o4, o5, o6, o7, rfl, x, hl', hall⟩ := pv
      have en : ((n : Int) + 1).toNat = n + 1 := by omega
      rw [en] at hl' hall
      have hr : (runTo bs n (n + 1)).r ≠ none := hall n (by omega)
      exact s_ret ev_c fun H6 e6 => k _ H6 (runTo bs n (n + 1)) (x.trans e6) (.inr ⟨rfl, hr, fun j hj => hall j (by omega)⟩) (by unfold leastOf; rw [if_neg hr])
theorem ok__law_are_days {f f1 : Addr} {fd fd1 : FuncData} (F : Fun K "_law_are_days" "_law_are_days" s__law_are_days f fd) (T : Txt mg) (c__law_is_int : Cal P w K mg base "_law_is_int" f1 fd1 ["_law_value"] 1 (sp_e isIntD)) : FnOk P w K mg base CX0 2 f fd ["_law_bounds_here", "_law_value"] sp_ldays := by
  refine F.ok sc__law_are_days (fun vs H Q E h => ?_) (fun cdv A outer s H vs Q E hr h => ?_)
  · obtain ⟨bv, bs, v, d, rfl, _⟩ := h
    rfl
  · obtain ⟨bv, bs, v, d, rfl, ⟨a, xs, rfl, hx, hk, hfew⟩, hd, hz, k⟩ := h
    refine ⟨_, (pss_cons (ps_if (PW.pt (pw_or (pt_not (pt_val (pe_callB call_isiT (by rfl) T.b_isinstance (by decide +kernel) (pa_cons (pv 1) (pa_cons (pe_tup (pa_cons (pe_bltn (v := .ty "list") (u := .type "list") (by rfl) T.b_list (by decide +kernel) rfl) (pa_cons (pe_bltn (v := .ty "tuple") (u := .type "tuple") (by rfl) T.b_tuple (by decide +kernel) rfl) pa_nil))) pa_nil))))) (pw_or1 (pt_not (pt_val (pe_callB (allL (K := K) rfl rfl) (by rfl) T.b_all (by decide +kernel) (pa_cons (pe_lc (own := [("_law_one", 2)]) (g := (gName 2)) (by rfl) sc__law_are_days.nd (pi_or (piL (K := K) rfl (pv 1)) (piT (K := K) rfl (pv 1))) (blkOk_by (own := [("_law_one", 2)]) (N := ["_law_bounds_here", "_law_value", "_law_one", "_law_other", "_law_most"]) (sc := defScope s__law_are_days) (by decide +kernel)) (fun _ _ _ _ _ => (pg_name (i := 2) sc__law_are_days.nd rfl (Or.inl rfl))) (fun _ _ _ _ _ => pts_nil) (fun _ _ _ _ _ => (pe_call c__law_is_int.ok (hr.mono (by decide)) (by rfl) c__law_is_int.mgx c__law_is_int.kp c__law_is_int.bd .nil pass0 (pa_cons (pv 2) pa_nil)))) pa_nil))))))) (pss_one (ps_ret pe_bl)) pss_nil) (pss_cons (ps_if (pt_not (pt_val (pe_callB (allL (K := K) rfl rfl) (by rfl) T.b_all (by decide +kernel) (pa_cons (pe_lc (own := [("_law_one", 2), ("_law_other", 3), ("_law_most", 4)]) (g := (gTup K 3 (gCons (gName 2) (gCons (gName 3) (gCons (gName 4) gNil))))) (by rfl) sc__law_are_days.nd (piL (K := K) rfl (pv 0)) (blkOk_by (own := [("_law_one", 2), ("_law_other", 3), ("_law_most", 4)]) (N := ["_law_bounds_here", "_law_value", "_law_one", "_law_other", "_law_most"]) (sc := defScope s__law_are_days) (by decide +kernel)) (fun _ _ _ _ _ => (pg_tup (by rfl) (pgs_cons (pg_name (i := 2) sc__law_are_days.nd rfl (Or.inl rfl)) (pgs_cons (pg_name (i := 3) sc__law_are_days.nd rfl (Or.inl rfl)) (pgs_cons (pg_name (i := 4) sc__law_are_days.nd rfl (Or.inl rfl)) pgs_nil))))) (fun _ _ _ _ _ => pts_nil) (fun _ _ _ _ _ => (pe_cmpR op_lt (pe_callB (call_max2 rfl) (by rfl) T.b_max (by decide +kernel) (pa_cons (pv 2) (pa_cons (pv 3) pa_nil))) (pe_callB (lenS (K := K) rfl) (by rfl) T.b_len (by decide +kernel) (pa_cons (pv 1) pa_nil)) (nomark _)))) pa_nil)))) (pss_one (ps_ret pe_bl)) pss_nil) (pss_one (ps_ret (pe_callB (allL (K := K) rfl rfl) (by rfl) T.b_all (by decide +kernel) (pa_cons (pe_lc (own := [("_law_one", 2), ("_law_other", 3), ("_law_most", 4)]) (g := (gTup K 3 (gCons (gName 2) (gCons (gName 3) (gCons (gName 4) gNil))))) (by rfl) sc__law_are_days.nd (piL (K := K) rfl (pv 0)) (blkOk_by (own := [("_law_one", 2), ("_law_other", 3), ("_law_most", 4)]) (N := ["_law_bounds_here", "_law_value", "_law_one", "_law_other", "_law_most"]) (sc := defScope s__law_are_days) (by decide +kernel)) (fun _ _ _ _ _ => (pg_tup (by rfl) (pgs_cons (pg_name (i := 2) sc__law_are_days.nd rfl (Or.inl rfl)) (pgs_cons (pg_name (i := 3) sc__law_are_days.nd rfl (Or.inl rfl)) (pgs_cons (pg_name (i := 4) sc__law_are_days.nd rfl (Or.inl rfl)) pgs_nil))))) (fun _ _ _ _ _ => pts_nil) (fun _ _ _ _ _ => (pe_cmpR op_le (pe_op op_sub (pe_ix (ix_or (ixL (K := K) rfl) (ixT (K := K) rfl)) (pv 1) (pv 2) (fun _ _ => rfl)) (pe_ix (ix_or (ixL (K := K) rfl) (ixT (K := K) rfl)) (pv 1) (pv 3) (fun _ _ => rfl))) (pv 4) (nomark _)))) pa_nil)))))), ?_⟩
    refine q_when (b := !(isSeqD d && (items d).all isIntD)) (et_is (et_or (a := !isSeqD d) (b := !(items d).all isIntD) (et_not (et_B (ev_isSeq (K := K) (ev_var rfl) hd))) fun hs => ?_) (by cases isSeqD d <;> rfl)) (fun hc H2 e2 => ?_) (fun hc H2 e2 => ?_)
    · have hs' : isSeqD d = true := by simpa using hs
      obtain ⟨c, ys, rfl, hy, hky⟩ := seq_of hd hs'
      exact et_not (et_B (ev_allB (K := K) isIntD (el_eq (el_lcE (K := K) (j := 2) (vs := [2]) (fun _ => true) (fun t => V.bl (isIntD t)) (ev_var (i := 1) rfl) hy hky (by omega) (fun _ => rfl) (fun _ _ _ _ _ _ => lc_yes) fun x t H2 e2 hxt ht _ => ev_call (ea_cons (ev_var rfl) ea_nil) (spv_e hxt)) (by rw [filter_yes]))))
    · have hc' : (isSeqD d && (items d).all isIntD) = false := by cases q : (isSeqD d && (items d).all isIntD) with | false => rfl | true => rw [q] at hc; cases hc
      have : keptD bs d = false := by unfold keptD; rw [hc']; rfl
      rw [this] at k
      exact s_ret ev_c fun H3 e3 => k H3 (e2.trans e3)
    · have hc' : (isSeqD d && (items d).all isIntD) = true := by cases q : (isSeqD d && (items d).all isIntD) with | true => rfl | false => rw [q] at hc; cases hc
      have ek : keptD bs d = (fitsB bs (items d).length && kOk bs (items d)) := by unfold keptD; rw [hc']; rfl
      rw [ek] at k
      rw [Bool.and_eq_true] at hc'
      have hd2 := hd.mono e2
      obtain ⟨c, ys, rfl, hy, hky⟩ := seq_of hd2 hc'.1
      refine q_when (b := !fitsB bs (items d).length) (et_not (et_B (ev_allB (K := K) (fun x : B => decide (max x.a x.b < (items d).length)) (ts := bs) (el_lcB (K := K) (vs := [2, 3, 4]) (fun x => V.bl (decide (max x.a x.b < (items d).length))) (ev_var (i := 0) rfl) (e2 _ _ hx) (hk.mono e2) (by omega) (fun _ _ _ => rfl) fun x H3 e3 hm => ?_)))) (fun hn H3 e3 => ?_) fun hn H3 e3 => ?_
      · refine ev_is (ev_op (ev_cb (ea_cons (ev_var rfl) (ea_cons (ev_var rfl) ea_nil)) rc_max2) (ev_lenE (ev_var rfl) (hy.mono e3)) rv_I0) (congrArg V.bl ?_)
        rw [decide_eq_decide, hky.len]
        split <;> omega
      · have : fitsB bs (items d).length = false := by cases q : fitsB bs (items d).length with | false => rfl | true => rw [q] at hn; cases hn
        rw [this] at k
        exact s_ret ev_c fun H4 e4 => k H4 ((e2.trans e3).trans e4)
      · have hf : fitsB bs (items d).length = true := by cases q : fitsB bs (items d).length with | true => rfl | false => rw [q] at hn; cases hn
        rw [hf] at k
        refine s_ret (ev_allB (K := K) (fun x : B => decide (intOf ((items d).getD x.a .none) - intOf ((items d).getD x.b .none) ≤ x.m)) (ts := bs) (el_lcB (K := K) (vs := [2, 3, 4]) (fun x => V.bl (decide (intOf ((items d).getD x.a .none) - intOf ((items d).getD x.b .none) ≤ x.m))) (ev_var (i := 0) rfl) ((e2.trans e3) _ _ hx) (hk.mono (e2.trans e3)) (by omega) (fun _ _ _ => rfl) fun x H4 e4 hm => ?_)) fun H4 e4 => k H4 ((e2.trans e3).trans e4)
        have hfx := of_decide_eq_true (List.all_eq_true.mp hf x hm)
        have e34 := e3.trans e4
        exact ev_op (ev_op (ev_ixE (ev_var rfl) (ev_var rfl) (hy.mono e34) (atI_d (hky.mono e34) hc'.2 (by omega))) (ev_ixE (ev_var rfl) (ev_var rfl) (hy.mono e34) (atI_d (hky.mono e34) hc'.2 (by omega))) rv_I0) (ev_var rfl) rv_I0
end
end K43
end
section
set_option maxHeartbeats 4000000
namespace K43
open PySem L2 Evl G OW
/-! ### the law's own look at a ring -/
noncomputable def okT (bs : List B) (t : PyData) : Bool := isTupD t && (decide ((items t).length = 3) && ((items t).all isIntD && memB bs t))
theorem okT_eq (bs : List B) (t : PyData) : okT bs t = (isBnd t && memB bs t) := by
  unfold okT
  cases ht : isTupD t with
  | false => cases t <;> first | rfl | cases ht
  | true =>
    obtain ⟨ds, rfl⟩ : ∃ ds, t = .tuple ds := by cases t <;> first | exact ⟨_, rfl⟩ | cases ht
    show (true && (decide (ds.length = 3) && (ds.all isIntD && memB bs (.tuple ds)))) = _
    by_cases hl : ds.length = 3
    · obtain ⟨x, y, z, rfl⟩ : ∃ x y z, ds = [x, y, z] := by
        match ds, hl with
        | [x, y, z], _ => exact ⟨x, y, z, rfl⟩
      show (true && (true && ((isIntD x && (isIntD y && (isIntD z && true))) && memB bs (.tuple [x, y, z])))) = ((isCntD x && (isCntD y && isIntD z)) && memB bs (.tuple [x, y, z]))
      cases hx : isIntD x with
      | false => cases x <;> first | rfl | cases hx
      | true =>
        cases hy : isIntD y with
        | false => cases y <;> first | (simp [isCntD]; done) | cases hy
        | true =>
          cases hz : isIntD z with
          | false => simp
          | true =>
            cases hm : memB bs (.tuple [x, y, z]) with
            | false => simp
            | true =>
              unfold memB at hm
              obtain ⟨w, hw, he⟩ := List.any_eq_true.mp hm
              obtain ⟨u, hu, rfl⟩ := List.mem_map.mp hw
              cases x <;> first | cases hx | skip
              cases y <;> first | cases hy | skip
              cases z <;> first | cases hz | skip
              rename_i i j k
              simp [B.d, PyData.eqv, PyData.eqvAll] at he
              have h1 : (0 : Int) ≤ i := by omega
              have h2 : (0 : Int) ≤ j := by omega
              simp [isCntD, h1, h2]
    · rw [decide_eq_false hl]
      have : isBnd (.tuple ds) = false := by
        unfold isBnd
        split
        · rename_i q; cases q; exact absurd rfl hl
        · rfl
      rw [this]; rfl
theorem join2 (r : List B) : ((List.range r.length).all fun i => decide ((r.getD i B0).b = (r.getD (if i + 1 = r.length then 0 else i + 1) B0).a)) = joinOk r := by
  unfold joinOk
  rw [Bool.eq_iff_iff, List.all_eq_true, List.all_eq_true]
  constructor
  · intro h j hj
    have hj' := List.mem_range.mp hj
    have := of_decide_eq_true (h (if j = 0 then r.length - 1 else j - 1) (List.mem_range.mpr (by split <;> omega)))
    refine decide_eq_true ?_
    by_cases j0 : j = 0
    · subst j0
      rw [if_pos rfl] at this ⊢
      rw [if_pos (by omega)] at this
      exact this
    · rw [if_neg j0] at this ⊢
      rw [if_neg (by omega), show j - 1 + 1 = j by omega] at this
      exact this
  · intro h j hj
    have hj' := List.mem_range.mp hj
    have := of_decide_eq_true (h (if j + 1 = r.length then 0 else j + 1) (List.mem_range.mpr (by split <;> omega)))
    refine decide_eq_true ?_
    by_cases j0 : j + 1 = r.length
    · rw [if_pos j0] at this ⊢
      rw [if_pos rfl, show r.length - 1 = j by omega] at this
      exact this
    · rw [if_neg j0] at this ⊢
      rw [if_neg (by omega), show j + 1 - 1 = j by omega] at this
      exact this
theorem ringD_alt {bs : List B} {d : PyData} (hs : isSeqD d = true) (he : (items d).isEmpty = false) (hall : (items d).all (okT bs) = true) : ringD bs d = (joinOk ((items d).map toB) && decide (sumB ((items d).map toB) < 0)) := by
  have h1 : (items d).all isBnd = true := List.all_eq_true.mpr fun t ht => by have := List.all_eq_true.mp hall t ht; rw [okT_eq, Bool.and_eq_true] at this; exact this.1
  have h2 : (items d).all (memB bs) = true := List.all_eq_true.mpr fun t ht => by have := List.all_eq_true.mp hall t ht; rw [okT_eq, Bool.and_eq_true] at this; exact this.2
  unfold ringD ringForm areB
  rw [hs, h1, h2, he]
  simp
section
variable {K : PySem.W.Frag} {σ : L2.St} {H : Hp} {ta tb te tl : TE} {tt : TT} {j : Nat} {vs : List Nat} {a : Addr} {xs ys : List V} {v : V} {t : PyData} {ds : List PyData} {bs : List B}
theorem el_lcU (f : PyData → Bool) (g : PyData → V) (h : Ev tl σ H (.ref a)) (hx : H a = some (.tup xs)) (k : DqAll H xs ds) (hz : ds.length ≤ 40000) (hw : ∀ x, wipe ((wipe σ vs).set j (some x)) vs = wipe σ vs)
    (ht : ∀ (x : V) (t : PyData) H1, Ex H H1 → Dq H1 x t → t ∈ ds → EvT tt ((wipe σ vs).set j (some x)) H1 (f t)) (he : ∀ (x : V) (t : PyData) H1, Ex H H1 → Dq H1 x t → t ∈ ds → f t = true → Ev te ((wipe σ vs).set j (some x)) H1 (g t)) :
    EvL (tLc (iTup K tl) (gName j) tt te vs) σ H ((ds.filter f).map g) := fun H0 e Q q => h H0 e _ fun H1 e1 => ⟨a, rfl, ⟨xs, st_of ((e.trans e1) a _ hx)⟩, fun Dl hD => by
  have hl : xs.length = ds.length := k.len
  refine lc_tup (xs := xs) (Cw H1 (fun i => f (ds.getD i .none)) (fun i => g (ds.getD i .none)) Dl) ⟨hD, Ex.new hD, upd_same⟩ (fun i H' _ p => st_of (p.2.1 a _ ((e.trans e1) a _ hx))) (fun i x H' hi p => ?_) (fun H' p => ?_)
  · obtain ⟨t, hti, hxt⟩ := (k.mono (e.trans e1)).get hi
    have hm := List.mem_of_getElem? hti
    exact ⟨hw x, cw_turn p (by have := (List.getElem?_eq_some_iff.mp hi).1; omega) (by rw [getD_q hti]; exact ht x t H1 (e.trans e1) hxt hm) (fun hf => by rw [getD_q hti] at hf ⊢; exact he x t H1 (e.trans e1) hxt hm hf)⟩
  · rw [hl] at p
    refine q Dl H' (fresh_back e1 p.1) (e1.trans p.2.1) ?_
    rw [p.2.2, given_filterQ]⟩
theorem ints3 {x y z : PyData} (h : [x, y, z].all isIntD = true) : ∃ i j k, x = .int i ∧ y = .int j ∧ z = .int k := by
  simp only [List.all_cons, List.all_nil, Bool.and_eq_true, Bool.and_true] at h
  obtain ⟨h1, h2, h3⟩ := h
  cases x <;> first | cases h1 | skip
  cases y <;> first | cases h2 | skip
  cases z <;> first | cases h3 | skip
  exact ⟨_, _, _, rfl, rfl, rfl⟩
/-- t not in bounds -/
theorem ev_niB (h : Ev ta σ H v) (hd : Dq H v t) (h3 : (items t).length = 3) (hi : (items t).all isIntD = true) (htp : isTupD t = true) (k : Ev tb σ H (.ref a)) (hx : H a = some (.lst xs)) (hk : DqAll H xs (bs.map B.d)) : Ev (tOp (rNotInD K) ta tb) σ H (.bl (!memB bs t)) := ev_op h k fun H1 e Q q => by
  obtain ⟨i, j, k, rfl⟩ : ∃ i j k, t = .tuple [.int i, .int j, .int k] := by
    cases t <;> first | cases htp | skip
    rename_i ds
    obtain ⟨x, y, z, rfl⟩ : ∃ x y z, ds = [x, y, z] := by
      match ds, h3 with
      | [x, y, z], _ => exact ⟨x, y, z, rfl⟩
    obtain ⟨i, j, k, rfl, rfl, rfl⟩ := ints3 hi
    exact ⟨i, j, k, rfl⟩
  have hl : PyData.canLay0 (.tuple [.int i, .int j, .int k]) = true := by simp [PyData.canLay0, PyData.canLayAll0]
  exact ⟨_, bs.map B.d, dq_dp _ hl (hd.mono e), .lst (sq_of (e _ _ hx)) (dqAll_dp _ (layAll_d bs) (hk.mono e)), by unfold SeqAt.shaped; rw [hl]; simp [PyData.depth, PyData.depthAll], shaped_ds bs, q H1 (Ex.refl H1)⟩
theorem el_catL (h : EvL ta σ H xs) (h2 : EvL tb σ H ys) (hz : xs.length + ys.length ≤ 100000) : EvL (tOp rCat ta tb) σ H (xs ++ ys) := fun H1 e Q q =>
  h H1 e _ fun p H2 hp e2 h3 => h2 H2 (e.trans e2) _ fun r H3 hr e3 h4 => ⟨p, r, xs, ys, rfl, rfl, e3 _ _ h3, h4, sz_of hz, fun u hu => q u _ (fresh_back (e2.trans e3) hu) ((e2.trans e3).trans (Ex.new hu)) upd_same⟩
/-- list(value[1:]) -/
theorem el_tail0 (h : Ev ta σ H (.ref a)) (hk : Ev tb σ H (.int 1)) (hx : Sq2 H a xs) (hl : 0 < xs.length) : EvL (tCB (fun xs H Q => ∃ p ys, xs = [.ref p] ∧ (SqL K H p ys ∨ SqT K H p ys) ∧ ∀ l, H l = none → Q (.ref l) (upd H l (.lst ys))) (tCons (tSl (slOr (rSlL K) (rSlA K)) ta (tPart tb) tNoPart) tNil)) σ H (cutV xs (some 1) none) := fun H1 e Q q => by
  rcases hx with hx | hx
  · refine h H1 e _ fun H2 e2 => (eo_some hk) H2 (e.trans e2) _ fun H3 e3 => .inl ⟨a, xs, rfl, sq_of (((e.trans e2).trans e3) _ _ hx), fun p hp => ⟨p, _, rfl, .inl (sq_of upd_same), fun l hl' => ?_⟩⟩
    exact q l _ (fresh_back ((e2.trans e3).trans (Ex.new hp)) hl') (((e2.trans e3).trans (Ex.new hp)).trans (Ex.new hl')) upd_same
  · refine h H1 e _ fun H2 e2 => (eo_some hk) H2 (e.trans e2) _ fun H3 e3 => .inr ⟨a, xs, rfl, st_of (((e.trans e2).trans e3) _ _ hx), fun z => ?_, fun _ p hp => ⟨p, _, rfl, .inr (st_of upd_same), fun l hl' => ?_⟩⟩
    · exfalso
      have : min 1 xs.length = 0 := z.1
      omega
    · exact q l _ (fresh_back ((e2.trans e3).trans (Ex.new hp)) hl') (((e2.trans e3).trans (Ex.new hp)).trans (Ex.new hl')) upd_same
theorem el_tail (h : Ev ta σ H (.ref a)) (hk : Ev tb σ H (.int 1)) (hx : Sq2 H a xs) (hl : 0 < xs.length) : EvL (tCB (fun xs H Q => ∃ p ys, xs = [.ref p] ∧ (SqL K H p ys ∨ SqT K H p ys) ∧ ∀ l, H l = none → Q (.ref l) (upd H l (.lst ys))) (tCons (tSl (slOr (rSlL K) (rSlA K)) ta (tPart tb) tNoPart) tNil)) σ H (xs.drop 1) := el_eq (el_tail0 h hk hx hl) (cut_drop (k := 1))
end
noncomputable def sp_lring : Sp := fun vs H Q _ => ∃ bv bs v d, vs = [bv, v] ∧ BL H bv bs ∧ Dq H v d ∧ (items d).length ≤ 30000 ∧ (∀ t ∈ items d, (items t).length ≤ 30000) ∧ RetV (.bl (ringD bs d)) H Q
section
variable {P : Program} {w : World} {K : PySem.W.Frag} {mg : Str → Option Value} {base : Heap}
theorem ok__law_is_ring {f f1 : Addr} {fd fd1 : FuncData} (F : Fun K "_law_is_ring" "_law_is_ring" s__law_is_ring f fd) (T : Txt mg) (c__law_is_int : Cal P w K mg base "_law_is_int" f1 fd1 ["_law_value"] 1 (sp_e isIntD)) : FnOk P w K mg base CX0 2 f fd ["_law_bounds_here", "_law_value"] sp_lring := by
  refine F.ok sc__law_is_ring (fun vs H Q E h => ?_) (fun cdv A outer s H vs Q E hr h => ?_)
  · obtain ⟨bv, bs, v, d, rfl, _⟩ := h
    rfl
  · obtain ⟨bv, bs, v, d, rfl, ⟨a, xs, rfl, hx, hk, hfew⟩, hd, hz, hz2, k⟩ := h
    refine ⟨_, (pss_cons (ps_if (PW.pt (pw_or (pt_not (pt_val (pe_callB call_isiT (by rfl) T.b_isinstance (by decide +kernel) (pa_cons (pv 1) (pa_cons (pe_tup (pa_cons (pe_bltn (v := .ty "list") (u := .type "list") (by rfl) T.b_list (by decide +kernel) rfl) (pa_cons (pe_bltn (v := .ty "tuple") (u := .type "tuple") (by rfl) T.b_tuple (by decide +kernel) rfl) pa_nil))) pa_nil))))) (pw_or1 (pt_cmpR op_eq (pe_callB (lenS (K := K) rfl) (by rfl) T.b_len (by decide +kernel) (pa_cons (pv 1) pa_nil)) pe_int (nomark _))))) (pss_one (ps_ret pe_bl)) pss_nil) (pss_cons (ps_for PassesOwn.never rfl (pi_or (piL (K := K) rfl (pv 1)) (piT (K := K) rfl (pv 1))) (pg_name (i := 2) sc__law_is_ring.nd rfl (Or.inl rfl)) (pss_one (ps_if (PW.pt (pw_or (pt_not (pt_val (pe_callB (isiS (K := K) rfl) (by rfl) T.b_isinstance (by decide +kernel) (pa_cons (pv 2) (pa_cons (pe_bltn (v := .ty "tuple") (u := .type "tuple") (by rfl) T.b_tuple (by decide +kernel) rfl) pa_nil))))) (pw_or (pt_cmpR op_ne (pe_callB (lenS (K := K) rfl) (by rfl) T.b_len (by decide +kernel) (pa_cons (pv 2) pa_nil)) pe_int (nomark _)) (pw_or (pt_not (pt_val (pe_callB (allL (K := K) rfl rfl) (by rfl) T.b_all (by decide +kernel) (pa_cons (pe_lc (own := [("_law_part", 4)]) (g := (gName 4)) (by rfl) sc__law_is_ring.nd (piT (K := K) rfl (pv 2)) (blkOk_by (own := [("_law_part", 4)]) (N := ["_law_bounds_here", "_law_value", "_law_one", "_law_turned", "_law_part", "_law_next_one"]) (sc := defScope s__law_is_ring) (by decide +kernel)) (fun _ _ _ _ _ => (pg_name (i := 4) sc__law_is_ring.nd rfl (Or.inl rfl))) (fun _ _ _ _ _ => pts_nil) (fun _ _ _ _ _ => (pe_call c__law_is_int.ok (hr.mono (by decide)) (by rfl) c__law_is_int.mgx c__law_is_int.kp c__law_is_int.bd .nil pass0 (pa_cons (pv 4) pa_nil)))) pa_nil)))) (pw_or1 (pt_cmpR (niDK (K := K) rfl (u65 hr)) (pv 2) (pv 0) (by rfl))))))) (pss_one (ps_ret pe_bl)) pss_nil))) (pss_cons (ps_set (i := 3) sc__law_is_ring.nd rfl (Or.inl rfl) (pe_op op_cat (pe_callTy call_list_of (by rfl) T.b_list (by decide +kernel) (pa_cons (pe_slice (sl_or sl_list (slA (K := K) rfl)) (pv 1) (po_some pe_int) po_none) pa_nil)) (pe_lst (pa_cons (pe_ix (ix_or (ixL (K := K) rfl) (ixT (K := K) rfl)) (pv 1) pe_int (fun _ _ => rfl)) pa_nil)))) (pss_one (ps_ret (pe_and (pe_callB (allL (K := K) rfl rfl) (by rfl) T.b_all (by decide +kernel) (pa_cons (pe_lc (own := [("_law_one", 2), ("_law_next_one", 5)]) (g := (gTup K 2 (gCons (gName 2) (gCons (gName 5) gNil)))) (by rfl) sc__law_is_ring.nd (pi_zipE (K := K) rfl (by rfl) T.b_zip (pa_cons (pv 1) (pa_cons (pv 3) pa_nil))) (blkOk_by (own := [("_law_one", 2), ("_law_next_one", 5)]) (N := ["_law_bounds_here", "_law_value", "_law_one", "_law_turned", "_law_part", "_law_next_one"]) (sc := defScope s__law_is_ring) (by decide +kernel)) (fun _ _ _ _ _ => (pg_tup (by rfl) (pgs_cons (pg_name (i := 2) sc__law_is_ring.nd rfl (Or.inl rfl)) (pgs_cons (pg_name (i := 5) sc__law_is_ring.nd rfl (Or.inl rfl)) pgs_nil)))) (fun _ _ _ _ _ => pts_nil) (fun _ _ _ _ _ => (pe_cmpR op_eq (pe_ix (ixT (K := K) rfl) (pv 2) pe_int (fun _ _ => rfl)) (pe_ix (ixT (K := K) rfl) (pv 5) pe_int (fun _ _ => rfl)) (nomark _)))) pa_nil)) (pe_one (pe_cmpR op_lt (pe_callB (sumL (K := K) rfl rfl) (by rfl) T.b_sum (by decide +kernel) (pa_cons (pe_lc (own := [("_law_one", 2)]) (g := (gName 2)) (by rfl) sc__law_is_ring.nd (pi_or (piL (K := K) rfl (pv 1)) (piT (K := K) rfl (pv 1))) (blkOk_by (own := [("_law_one", 2)]) (N := ["_law_bounds_here", "_law_value", "_law_one", "_law_turned", "_law_part", "_law_next_one"]) (sc := defScope s__law_is_ring) (by decide +kernel)) (fun _ _ _ _ _ => (pg_name (i := 2) sc__law_is_ring.nd rfl (Or.inl rfl))) (fun _ _ _ _ _ => pts_nil) (fun _ _ _ _ _ => (pe_ix (ixT (K := K) rfl) (pv 2) pe_int (fun _ _ => rfl)))) pa_nil)) pe_int (nomark _))))))))), ?_⟩
    have hu := hr.units
    refine q_when (b := !(isSeqD d && !(items d).isEmpty)) (et_is (et_or (a := !isSeqD d) (b := (items d).isEmpty) (et_not (et_B (ev_isSeq (K := K) (ev_var rfl) hd))) fun hs => ?_) (by cases isSeqD d <;> cases (items d).isEmpty <;> rfl)) (fun hc H2 e2 => ?_) (fun hc H2 e2 => ?_)
    · have hs' : isSeqD d = true := by simpa using hs
      obtain ⟨c, ys, rfl, hy, hky⟩ := seq_of hd hs'
      refine et_is (et_test (ev_op (ev_lenE (K := K) (ev_var rfl) hy) ev_c (rv_eq rfl))) ?_
      rw [hky.len]
      cases items d with
      | nil => rfl
      | cons _ _ => exact decide_eq_false fun z => by have := V.int.inj z; simp at this; omega
    · have hc' : (isSeqD d && !(items d).isEmpty) = false := by cases q : (isSeqD d && !(items d).isEmpty) with | false => rfl | true => rw [q] at hc; cases hc
      have : ringD bs d = false := by
        unfold ringD ringForm areB
        cases h1 : isSeqD d with
        | false => rfl
        | true => rw [h1] at hc'; have h2 : (!(items d).isEmpty) = false := hc'; rw [h2]; simp
      rw [this] at k
      exact s_ret ev_c fun H3 e3 => k H3 (e2.trans e3)
    · have hc' : (isSeqD d && !(items d).isEmpty) = true := by cases q : (isSeqD d && !(items d).isEmpty) with | true => rfl | false => rw [q] at hc; cases hc
      rw [Bool.and_eq_true] at hc'
      have hne : (items d).isEmpty = false := by have := hc'.2; simpa using this
      have hd2 := hd.mono e2
      obtain ⟨c, ys, rfl, hy, hky⟩ := seq_of hd2 hc'.1
      have hylen := hky.len
      have ypos : 0 < ys.length := by rw [hylen]; cases q : items d with | nil => rw [q] at hne; cases hne | cons _ _ => exact Nat.succ_pos _
      have keepC : ∀ {H' : Hp}, Ex H2 H' → H' c = H2 c := fun {H'} e => by
        rcases hy with hy | hy
        · rw [hy]; exact e _ _ hy
        · rw [hy]; exact e _ _ hy
      refine q_forE (K := K) (ev_var (i := 1) rfl) hy (fun i σ' H' => ∃ o2, σ' = [some (.ref a), some (.ref c), o2, none, none, none] ∧ Ex H2 H' ∧ ((items d).take i).all (okT bs) = true) (fun H3 e3 => ⟨none, rfl, e3, rfl⟩) (fun i σ' H' _ pv => ?_) (fun i u σ' H' hu' pv => ?_) (fun σ' H' pv => ?_)
      · obtain ⟨_, _, e, _⟩ := pv
        exact keepC e
      · obtain ⟨o2, rfl, e3, hall⟩ := pv
        have e23 := e2.trans e3
        obtain ⟨t, ht, hdt⟩ := (hky.mono e3).get hu'
        have hm := List.mem_of_getElem? ht
        have hzt := hz2 t hm
        refine s_when (b := !okT bs t) (et_is (et_or (a := !isTupD t) (b := !decide ((items t).length = 3) || (!(items t).all isIntD || !memB bs t)) (et_not (et_B (ev_isiD (K := K) (n := "tuple") (ev_var rfl) hdt (kit_tup t)))) fun h1 => ?_) (by unfold okT; cases isTupD t <;> cases decide ((items t).length = 3) <;> cases (items t).all isIntD <;> cases memB bs t <;> rfl)) (fun hn H4 e4 => ?_) fun hn H4 e4 => ⟨_, rfl, e3.trans e4, ?_⟩
        · have h1' : isTupD t = true := by simpa using h1
          obtain ⟨c2, zs, ds, rfl, rfl, hc2, hk2⟩ := tup_of hdt h1'
          refine et_or (a := !decide (ds.length = 3)) (b := (!ds.all isIntD || !memB bs (.tuple ds))) (et_is (et_test (ev_op (ev_lenTup (K := K) (ev_var rfl) hc2) ev_c (rv_ne rfl))) (by rw [hk2.len]; congr 1; rw [decide_eq_decide]; exact ⟨fun z => by have := V.int.inj z; omega, fun z => by rw [z]; rfl⟩)) fun h2 => ?_
          have h2' : ds.length = 3 := by simpa using h2
          refine et_or (a := !ds.all isIntD) (b := !memB bs (.tuple ds)) (et_not (et_B (ev_allB (K := K) isIntD (el_eq (el_lcU (K := K) (j := 4) (vs := [4]) (fun _ => true) (fun t => V.bl (isIntD t)) (ev_var (i := 2) rfl) hc2 hk2 (by omega) (fun _ => rfl) (fun _ _ _ _ _ _ => lc_yes) fun x t H5 e5 hxt ht _ => ev_call (ea_cons (ev_var rfl) ea_nil) (spv_e hxt)) (by rw [filter_yes]))))) fun h3 => ?_
          have h3' : ds.all isIntD = true := by cases q : ds.all isIntD with | true => rfl | false => rw [q] at h3; cases h3
          exact et_test (ev_niB (K := K) (ev_var rfl) hdt h2' h3' rfl (ev_var rfl) (e23 _ _ hx) (hk.mono e23))
        · have hn' : okT bs t = false := by cases q : okT bs t with | false => rfl | true => rw [q] at hn; cases hn
          have : ringD bs d = false := by
            apply Bool.eq_false_iff.mpr
            intro hh
            unfold ringD ringForm areB at hh
            simp only [Bool.and_eq_true] at hh
            have a1 := List.all_eq_true.mp hh.1.1.1.2 t hm
            have a2 := List.all_eq_true.mp hh.2 t hm
            rw [okT_eq, a1, a2] at hn'
            cases hn'
          rw [this] at k
          exact s_ret ev_c fun H5 e5 => k H5 ((e23.trans e4).trans e5)
        · have hn' : okT bs t = true := by cases q : okT bs t with | true => rfl | false => rw [q] at hn; cases hn
          rw [List.take_succ, ht, List.all_append, hall]
          simp [hn']
      · obtain ⟨o2, rfl, e3, hall⟩ := pv
        have e23 := e2.trans e3
        rw [hylen, List.take_length] at hall
        rw [ringD_alt hc'.1 hne hall] at k
        have hbnd : (items d).all isBnd = true := List.all_eq_true.mpr fun t ht => by have := List.all_eq_true.mp hall t ht; rw [okT_eq, Bool.and_eq_true] at this; exact this.1
        generalize hds : items d = ds at *
        have hr : (ds.map toB).length = ys.length := by rw [List.length_map, hylen]
        have el : ∀ (i : Nat) (u : V) (H4 : Hp), Ex H2 H4 → ys[i]? = some u → ∃ t, u = .ref t ∧ H4 t = some (.tup [.int (((ds.map toB).getD i B0).a : Int), .int (((ds.map toB).getD i B0).b : Int), .int ((ds.map toB).getD i B0).m]) := fun i u H4 e4 hu => by
          obtain ⟨t, ht, q⟩ := (hky.mono e4).get hu
          have hb := List.all_eq_true.mp hbnd t (List.mem_of_getElem? ht)
          have e1 : (ds.map toB).getD i B0 = toB t := by rw [List.getD_eq_getElem?_getD, List.getElem?_map, ht]; rfl
          rw [e1]
          rw [← toB_d hb] at q
          exact bd_at q
        obtain ⟨y0, ys', rfl⟩ : ∃ y0 ys', ys = y0 :: ys' := by cases ys with | nil => exact absurd ypos (Nat.lt_irrefl _) | cons y l => exact ⟨y, l, rfl⟩
        refine q_asgL (xs := ys' ++ [y0]) (el_catL (el_tail (K := K) (ev_var (i := 1) rfl) ev_c (hy.mono e3) (Nat.succ_pos _)) (el_lst (ea_cons (ev_ixE (ev_var rfl) ev_c (hy.mono e3) (atI_nat (j := 0) rfl)) ea_nil) (by show 1 ≤ 100000; decide)) (by show ys'.length + 1 ≤ 100000; have : (y0 :: ys').length = ys'.length + 1 := rfl; omega)) fun tl H4 htl e4 h4 => ?_
        have e24 := e3.trans e4
        have hlen1 : (y0 :: ys').length = (ys' ++ [y0]).length := by simp
        refine s_ret (ev_andV (a := joinOk (ds.map toB)) (b := decide (sumB (ds.map toB) < 0)) (ev_is (ev_cbL (el_lcZ (K := K) (vs := [2, 5]) (fun i => V.bl (decide (((ds.map toB).getD i B0).b = ((ds.map toB).getD (if i + 1 = (ds.map toB).length then 0 else i + 1) B0).a))) (ea_cons (ev_var rfl) (ea_cons (ev_var rfl) ea_nil)) (hy.mono e24) h4 hlen1 (by omega) (fun _ _ => rfl) (fun i x y H5 e5 hxi hyi => ?_)) fun p H5 e5 h5 => rc_all (K := K) (bs := (List.range (y0 :: ys').length).map fun i => decide (((ds.map toB).getD i B0).b = ((ds.map toB).getD (if i + 1 = (ds.map toB).length then 0 else i + 1) B0).a)) (sq_of (by rw [h5, List.map_map]; rfl))) (congrArg V.bl ?_)) fun _ => ev_op (ev_cbL (el_lcE (K := K) (j := 2) (vs := [2]) (fun _ => true) (fun t => V.int (toB t).m) (ev_var (i := 1) rfl) (hy.mono e24) (hky.mono e24) (by omega) (fun _ => rfl) (fun _ _ _ _ _ _ => lc_yes) fun x t H5 e5 hxt ht _ => ?_) fun p H5 e5 h5 => rc_sum (K := K) (ns := (ds.map toB).map B.m) (sq_of (by rw [h5, filter_yes, List.map_map, List.map_map]; rfl))) ev_c rv_I0) fun H5 e5 => k H5 ((e2.trans e24).trans e5)
        · have hi : i < (y0 :: ys').length := (List.getElem?_eq_some_iff.mp hxi).1
          obtain ⟨t1, rfl, h1⟩ := el i x H5 (e24.trans e5) hxi
          have hyi' : (y0 :: ys')[if i + 1 = (ds.map toB).length then 0 else i + 1]? = some y := by
            by_cases q : i + 1 = (ds.map toB).length
            · rw [if_pos q]
              rw [List.getElem?_append_right (by rw [hr] at q; simp at q; omega)] at hyi
              have : i - ys'.length = 0 := by rw [hr] at q; simp at q; omega
              rw [this] at hyi
              exact hyi
            · rw [if_neg q]
              rw [List.getElem?_append_left (by rw [hr] at q; simp at q hi; omega)] at hyi
              exact hyi
          obtain ⟨t2, rfl, h2⟩ := el _ y H5 (e24.trans e5) hyi'
          refine ev_is (ev_op (ev_at1 (K := K) (ev_var rfl) h1) (ev_at0 (K := K) (ev_var rfl) h2) (rv_eq rfl)) (congrArg V.bl ?_)
          rw [decide_eq_decide]
          exact ⟨fun z => by have := V.int.inj z; omega, fun z => by rw [z]⟩
        · rw [List.all_map, ← hr]
          exact join2 (ds.map toB)
        · have hb := List.all_eq_true.mp hbnd t ht
          rw [← toB_d hb] at hxt
          obtain ⟨u, rfl, hu⟩ := bd_at hxt
          exact ev_at2 (K := K) (ev_var rfl) hu
end
end K43
end
section
set_option maxHeartbeats 4000000
namespace K43
open PySem L2 Evl G OW
section
variable {P : Program} {w : World} {K : PySem.W.Frag} {mg : Str → Option Value} {base : Heap}
theorem ok_pot {f : Addr} {fd : FuncData} (F : Fun K "_law_pot" "_law_pot" s__law_pot f fd) (T : Txt mg) : FnOk P w K mg base CX0 1 f fd ["_law_script", "_law_k"] (sp_pot K) := by
  refine F.ok sc__law_pot (fun vs H Q E h => ?_) (fun cdv A outer s H vs Q E hr h => ?_)
  · obtain ⟨s, ns, k, rfl, _⟩ := h
    rfl
  · obtain ⟨s, ns, k, rfl, hs, hk0, hk1, kq⟩ := h
    refine ⟨_, (pss_cons (ps_set (i := 2) sc__law_pot.nd rfl (Or.inl rfl) (pe_op op_add (pe_op op_add (pe_op op_mul pe_int (pv 1)) pe_int) (pe_op op_modN (pe_callB (sumL (K := K) rfl rfl) (by rfl) T.b_sum (by decide +kernel) (pa_cons (pe_slice sl_list (pv 0) po_none (po_some pe_int)) pa_nil)) pe_int))) (pss_cons (ps_if (pt_cmpR op_lt (pv 1) (pe_callB (lenS (K := K) rfl) (by rfl) T.b_len (by decide +kernel) (pa_cons (pv 0) pa_nil)) (nomark _)) (pss_one (ps_set (i := 2) sc__law_pot.nd rfl (Or.inl rfl) (pe_callB call_abs (by rfl) T.b_abs (by decide +kernel) (pa_cons (pe_ix (ixL (K := K) rfl) (pv 0) (pv 1) (fun _ _ => rfl)) pa_nil)))) pss_nil) (pss_one (ps_ret (pe_lst (pa_cons (pe_callB (call_max2 rfl) (by rfl) T.b_max (by decide +kernel) (pa_cons pe_int (pa_cons (pe_op op_sub (pv 2) (pe_op op_pow pe_int pe_int)) pa_nil))) (pa_cons (pe_op op_add (pe_op op_modN (pe_op op_mul (pe_op op_add (pe_op op_modN (pv 2) pe_int) pe_int) (pe_op op_pow (pe_op op_add (pe_op op_mul pe_int (pv 1)) pe_int) pe_int)) pe_int) pe_int) pa_nil))))))), ?_⟩
    have m0 := fmod_pos (a := (ns.take 1).sum) (show (0 : Int) < 1000003 by decide)
    refine q_asg (v := .int (67 * k + 31 + (ns.take 1).sum.fmod 1000003)) (ev_op (ev_op (ev_op ev_c (ev_var rfl) (rv_I (.inl ⟨by decide, by decide⟩))) ev_c rv_I0) (ev_op (ev_cbL (el_eq (el_sl (ev_var rfl) eo_none (eo_some ev_c) hs) (cut_one ns)) fun p H1 e h1 => rc_sum (sq_of h1)) ev_c (rv_I (by decide))) rv_I0) fun H1 e1 => ?_
    have hcell : ∃ c : Int, 0 ≤ c ∧ ∀ (D : Ends) (tz : TS), (∀ H2, Ex H1 H2 → tz D [some (.ref s), some (.int k), some (.int c)] H2) → tSeq (tIfS (tTest (tOp (rI0 fun i j => .bl (decide (i < j))) (tVar 1) (tCB (fun xs H Q => ∃ p ys, xs = [.ref p] ∧ (SqL K H p ys ∨ SqT K H p ys) ∧ Q (.int (ys.length : Int)) H) (tCons (tVar 0) tNil))))
        (tAsg (tCB (fun xs H Q => ∃ i, xs = [.int i] ∧ Q (.int (if i < 0 then -i else i)) H) (tCons (tOp (rIxL K) (tVar 0) (tVar 1)) tNil)) (gName 2)) tNext) tz D [some (.ref s), some (.int k), some (.int (67 * k + 31 + (ns.take 1).sum.fmod 1000003))] H1 := by
      by_cases hlt : k < (ns.length : Int)
      · refine ⟨if ns.getD k.toNat 0 < 0 then - ns.getD k.toNat 0 else ns.getD k.toNat 0, by split <;> omega, fun D tz kz => ?_⟩
        exact q_ifAsg (b := true) (et_test (ev_op (ev_var rfl) (ev_cb (ea_cons (ev_var rfl) ea_nil) (rc_len (.inl (ex_l e1 hs)) (by rw [List.length_map]))) (rv_res rv_I0 (congrArg V.bl (decide_eq_true hlt))))) (fun _ => ev_cb (ea_cons (ev_op (ev_var rfl) (ev_var rfl) (rv_ixL (ex_l e1 hs) (atI_int hk0 hlt))) ea_nil) rc_abs) (fun q => nomatch q) kz
      · refine ⟨67 * k + 31 + (ns.take 1).sum.fmod 1000003, by omega, fun D tz kz => ?_⟩
        exact q_ifAsg (b := false) (et_test (ev_op (ev_var rfl) (ev_cb (ea_cons (ev_var rfl) ea_nil) (rc_len (.inl (ex_l e1 hs)) (by rw [List.length_map]))) (rv_res rv_I0 (congrArg V.bl (decide_eq_false hlt))))) (fun q => nomatch q) (fun _ => rfl) kz
    obtain ⟨c, hc, ec⟩ := hcell
    refine ec _ _ fun H2 e2 => ?_
    have m1 := fmod_pos (a := c) (show (0 : Int) < 2147483549 by decide)
    have k3 : -(2 ^ 64) < (2 * k + 7) ^ (3 : Int).toNat ∧ (2 * k + 7) ^ (3 : Int).toNat < 2 ^ 64 := by
      have h2 : (2 * k + 7) ^ (3 : Int).toNat = (2 * k + 7) * (2 * k + 7) * (2 * k + 7) := by
        show (2 * k + 7) ^ 3 = _
        rw [Int.pow_succ, Int.pow_succ, Int.pow_succ, Int.pow_zero, Int.one_mul]
      have a1 : 0 ≤ (2 * k + 7) * (2 * k + 7) := Int.mul_nonneg (by omega) (by omega)
      have a2 : (2 * k + 7) * (2 * k + 7) ≤ 207 * 207 := Int.mul_le_mul (by omega) (by omega) (by omega) (by omega)
      have a3 : 0 ≤ (2 * k + 7) * (2 * k + 7) * (2 * k + 7) := Int.mul_nonneg a1 (by omega)
      have a4 : (2 * k + 7) * (2 * k + 7) * (2 * k + 7) ≤ 207 * 207 * 215 := Int.mul_le_mul a2 (by omega) (by omega) (by omega)
      rw [h2]
      omega
    refine s_retL (el_lst (ea_cons (ev_cb (ea_cons ev_c (ea_cons (ev_op (ev_var rfl) (ev_op ev_c ev_c (rv_I ⟨by decide, by decide, by decide⟩)) rv_I0) ea_nil)) rc_max2) (ea_cons (ev_op (ev_op (ev_op (ev_op (ev_op (ev_var rfl) ev_c (rv_I (by decide))) ev_c rv_I0) (ev_op (ev_op (ev_op ev_c (ev_var rfl) (rv_I (.inl ⟨by decide, by decide⟩))) ev_c rv_I0) ev_c (rv_I ⟨by decide, by decide, by omega⟩)) (rv_I (.inr k3))) ev_c (rv_I (by decide))) ev_c rv_I0) ea_nil)) (by show 2 ≤ 100000; decide)) fun p H3 hp e3 h3 => ?_
    refine kq p H3 (fresh_back (e1.trans e2) hp) ((e1.trans e2).trans e3) ⟨_, _, ⟨?_, ?_, ?_⟩, h3⟩
    · split <;> omega
    · have := fmod_pos (a := (c.fmod 2147483549 + 14327) * (2 * k + 7) ^ (3 : Int).toNat) (show (0 : Int) < 2147483477 by decide)
      omega
    · have := fmod_pos (a := (c.fmod 2147483549 + 14327) * (2 * k + 7) ^ (3 : Int).toNat) (show (0 : Int) < 2147483477 by decide)
      omega
theorem ok_draw {f : Addr} {fd : FuncData} (F : Fun K "_law_draw" "_law_draw" s__law_draw f fd) (T : Txt mg) : FnOk P w K mg base CX0 1 f fd ["_law_pot_here", "_law_many"] sp_draw := by
  refine F.ok sc__law_draw (fun vs H Q E h => ?_) (fun cdv A outer s H vs Q E hr h => ?_)
  · obtain ⟨p, n, rfl, _⟩ := h
    rfl
  · obtain ⟨p, n, rfl, ⟨a, b, ⟨a0, b0, b1⟩, hp⟩, n0, n1, k⟩ := h
    have hq : SqL K H p [.int a, .int b] := sq_of hp
    refine ⟨_, (pss_cons (ps_if (pt_cmpR op_gt (pe_ix (ixL (K := K) rfl) (pv 0) pe_int (fun _ _ => rfl)) pe_int (nomark _)) (pss_cons (ps_asg (pe_callB call_divmod (by rfl) T.b_divmod (by decide +kernel) (pa_cons (pe_ix (ixL (K := K) rfl) (pv 0) pe_int (fun _ _ => rfl)) (pa_cons (pv 1) pa_nil))) (pg_tup (by rfl) (pgs_cons (pg_sub (pv 0) pe_int set_list) (pgs_cons (pg_name (i := 2) sc__law_draw.nd rfl (Or.inl rfl)) pgs_nil)))) (pss_one (ps_ret (pv 2)))) pss_nil) (pss_cons (ps_asg (pe_op op_modN (pe_op op_add (pe_op op_mul (pe_ix (ixL (K := K) rfl) (pv 0) pe_int (fun _ _ => rfl)) pe_int) pe_int) pe_int) (pg_sub (pv 0) pe_int set_list)) (pss_one (ps_ret (pe_op op_modN (pe_op op_fdivN (pe_op op_modN (pe_op op_mul (pe_ix (ixL (K := K) rfl) (pv 0) pe_int (fun _ _ => rfl)) (pe_ix (ixL (K := K) rfl) (pv 0) pe_int (fun _ _ => rfl))) pe_int) pe_int) (pv 1)))))), ?_⟩
    refine q_when (et_test (ev_op (ev_op (ev_var rfl) ev_c (rv_ixL (v := .int a) hq rfl)) ev_c rv_I0)) (fun hb H1 e1 => ?_) (fun hb H1 e1 => ?_)
    · have ha : 0 < a := of_decide_eq_true hb
      refine q_asgG (eu_divmod (ev_op (ev_var rfl) ev_c (rv_ixL (v := .int a) (ex_l e1 hq) rfl)) (ev_var rfl) n0 n1) fun u H2 hu e2 h2 => ?_
      have e3 := e1.trans e2
      have hp2 := e3 p _ hp
      refine ⟨u, _, rfl, st_of h2, rfl, _, _, rfl, .ref p, rfl, ⟨p, [.int a, .int b], 0, 0, rfl, rfl, hp2, rfl, ?_⟩⟩
      refine ⟨_, _, rfl, rfl, ?_⟩
      refine s_ret (ev_var rfl) fun H3 e4 => ?_
      refine k _ H3 (Int.emod_nonneg _ (by omega)) (Int.emod_lt_of_pos _ n0) ((wo_mono e3).trans (wo_upd.trans e4)) ⟨a / n, b, ⟨Int.ediv_nonneg a0 (by omega), b0, b1⟩, e4 p _ upd_same⟩
    · have hq1 := ex_l e1 hq
      have m1 := fmod_pos (a := b * 48271 + 14327) (show (0 : Int) < 2147483587 by decide)
      refine q_setL (xs := [.int a, .int b]) (j := 1) (v := .int ((b * 48271 + 14327).fmod 2147483587)) (e1 p _ hp) (ev_op (ev_op (ev_op (ev_op (ev_var rfl) ev_c (rv_ixL (v := .int b) hq1 rfl)) ev_c (rv_I (.inr ⟨by decide, by decide⟩))) ev_c rv_I0) ev_c (rv_I (by decide))) (ev_var rfl) ev_c (by show 1 < 2; decide) fun H2 e2 => ?_
      generalize hb' : (b * 48271 + 14327).fmod 2147483587 = b' at m1 ⊢
      have hp3 : SqL K (upd H2 p (.lst ([.int a, .int b].set 1 (.int b')))) p [.int a, .int b'] := sq_of upd_same
      have m2 := fmod_pos (a := ((b' * b').fmod 2147483549).fdiv 11) n0
      refine s_ret (ev_op (ev_op (ev_op (ev_op (ev_op (ev_var rfl) ev_c (rv_ixL (v := .int b') hp3 rfl)) (ev_op (ev_var rfl) ev_c (rv_ixL (v := .int b') hp3 rfl)) (rv_I (.inl ⟨by omega, by omega⟩))) ev_c (rv_I (by decide))) ev_c (rv_I ⟨by decide, by decide⟩)) (ev_var rfl) (rv_I (by omega))) fun H3 e3 => ?_
      exact k _ H3 m2.1 m2.2 ((wo_mono (e1.trans e2)).trans (wo_upd.trans e3)) ⟨a, b', ⟨a0, m1.1, by omega⟩, e3 p _ upd_same⟩
theorem ok_pick {f f1 : Addr} {fd fd1 : FuncData} (F : Fun K "_law_pick" "_law_pick" s__law_pick f fd) (T : Txt mg) (c__law_draw : Cal P w K mg base "_law_draw" f1 fd1 ["_law_pot_here", "_law_many"] 1 sp_draw) : FnOk P w K mg base CX0 2 f fd ["_law_pot_here", "_law_some"] (sp_pick K) := by
  refine F.ok sc__law_pick (fun vs H Q E h => ?_) (fun cdv A outer s H vs Q E hr h => ?_)
  · obtain ⟨p, s, xs, rfl, _⟩ := h
    rfl
  · obtain ⟨p, l, xs, rfl, hp, hs, h0, h1, k⟩ := h
    refine ⟨_, (pss_one (ps_ret (pe_ix (ixL (K := K) rfl) (pv 1) (pe_call c__law_draw.ok (hr.mono (by decide)) (by rfl) c__law_draw.mgx c__law_draw.kp c__law_draw.bd .nil pass0 (pa_cons (pv 0) (pa_cons (pe_callB (lenS (K := K) rfl) (by rfl) T.b_len (by decide +kernel) (pa_cons (pv 1) pa_nil)) pa_nil))) (fun _ _ => rfl)))), ?_⟩
    refine ⟨_, rfl, (ea_cons (ev_var rfl) (ea_cons (ev_cb (ea_cons (ev_var rfl) ea_nil) (rc_len (.inl (ex_l wo_ex hs)) rfl)) ea_nil)) H (Ex.refl H) _ fun H1 e1 => ?_⟩
    have hp1 : PotAt H1 p := by obtain ⟨a, b, h, q⟩ := hp; exact ⟨a, b, h, e1 p _ q⟩
    refine ⟨p, (xs.length : Int), rfl, hp1, by omega, by omega, fun d H2 d0 d1 e2 hp2 => ?_⟩
    obtain ⟨i, rfl⟩ : ∃ i : Nat, d = (i : Int) := ⟨d.toNat, by omega⟩
    have hi : i < xs.length := by omega
    have e3 : Ex (wo H p) H2 := (wo_mono e1).trans e2
    exact ⟨l, xs, (i : Int), xs[i], rfl, rfl, ex_l e3 hs, atI_nat (List.getElem?_eq_getElem hi), k i _ H2 (List.getElem?_eq_getElem hi) e3 hp2⟩
end
/-! ### comprehensions that draw -/
section
variable {K : PySem.W.Frag} {σ : L2.St} {H : Hp} {te : TE} {j n : Nat} {vs : List Nat} {p : Addr} {Q : VK}
theorem lcD_k (hn : n ≤ 1000) (hw : ∀ x, wipe ((wipe σ vs).set j (some x)) vs = wipe σ vs) (hp : PotAt H p) (Good : PyData → Prop)
    (step : ∀ (i : Nat) (Dl : Addr) (H' : Hp), i < n → H Dl = none → Dl ≠ p → Rg p H H' → Hd [p, Dl] H' → ∀ Q' : VK, (∀ y e H2, Rg p H' H2 → Dq (hid [p, Dl] H2) y e → Good e → Q' y H2) → te ((wipe σ vs).set j (some (.int (i : Int)))) H' Q')
    (k : ∀ Dl ys es H', H Dl = none → Rg p H H' → H' Dl = some (.lst ys) → DqAll (hid [p, Dl] H') ys es → es.length = n → (∀ e ∈ es, Good e) → Q (.ref Dl) H') : tLc (fun _ H R => R (Itr 0 n) H) (gName j) tYes te vs σ H Q := fun Dl hD => by
  have hne : Dl ≠ p := fun z => by obtain ⟨o, ho⟩ := hp.some; rw [z, ho] at hD; cases hD
  have pZ : p ∈ [p, Dl] := by simp
  refine lc_range (lo := 0) (n := n) (fun i H' => Rg p H H' ∧ ∃ ys es, H' Dl = some (.lst ys) ∧ DqAll (hid [p, Dl] H') ys es ∧ es.length = i ∧ ∀ e ∈ es, Good e) ⟨(Rg.rfl hp).mono (Ex.new hD), [], [], upd_same, .nil, rfl, fun e he => nomatch he⟩ (fun i H' hi pv => ?_) (fun H' pv => ?_)
  · obtain ⟨r, ys, es, h1, h2, h3, h4⟩ := pv
    have e0 : (0 : Int) + (i : Int) = (i : Int) := Int.zero_add _
    have hdd : Hd [p, Dl] H' := fun b hb => by
      rcases List.mem_cons.mp hb with z | z
      · rw [z]; exact r.hp.some
      · rw [List.mem_singleton.mp z]; exact ⟨_, h1⟩
    show wipe ((wipe σ vs).set j (some (.int ((0 : Int) + (i : Int))))) vs = wipe σ vs ∧ tYes ((wipe σ vs).set j (some (.int ((0 : Int) + (i : Int))))) H' _
    rw [e0]
    refine ⟨hw _, lc_yes H' (Ex.refl H') _ fun H3 e3 => ?_⟩
    rw [if_pos rfl]
    refine step i Dl H3 hi hD hne (r.mono e3) (hdd.mono e3) _ fun y e H4 r4 q g => ⟨ys, r4.x _ _ (by rw [wo_ne hne]; exact e3 _ _ h1), sz_lt (by have := h2.len; omega), ?_⟩
    have r4' := (r.mono e3).tr r4
    refine ⟨⟨fun b o hb => ?_, ?_⟩, ys ++ [y], es ++ [e], upd_same, ?_, by rw [List.length_append, h3]; rfl, fun e' he' => ?_⟩
    · have h1 := r4'.x b o hb
      have : b ≠ Dl := fun z => by
        by_cases q : b = p
        · rw [q, wo_at] at hb; cases hb
        · rw [wo_ne q, z, hD] at hb; cases hb
      rw [upd_ne this]; exact h1
    · obtain ⟨a, b, q1, q2⟩ := r4.hp
      exact ⟨a, b, q1, by rw [upd_ne (Ne.symm hne)]; exact q2⟩
    · have x : Ex (hid [p, Dl] H4) (hid [p, Dl] (upd H4 Dl (.lst (ys ++ [y])))) := hid_updE (by simp)
      exact ((((h2.mono (hid_mono e3)).mono (r4.ex pZ)).mono x)).app (.cons (q.mono x) .nil)
    · rcases List.mem_append.mp he' with z | z
      · exact h4 e' z
      · rw [List.mem_singleton.mp z]; exact g
  · obtain ⟨r, ys, es, h1, h2, h3, h4⟩ := pv
    exact k Dl ys es H' hD r h1 h2 h3 h4
theorem lcD_R {tA : TA} {N : Nat} (Pn : Nat → Prop) (hp : PotAt H p) (hA : ∀ R' : List V → Hp → Prop, (∀ (n : Nat) H2, Pn n → n ≤ N → Rg p H H2 → R' [.int (n : Int)] H2) → tA σ H R') (hN : N ≤ 1000) (hw : ∀ x, wipe ((wipe σ vs).set j (some x)) vs = wipe σ vs) (Good : PyData → Prop)
    (step : ∀ (i : Nat) (Dl : Addr) (H' : Hp), i < N → H Dl = none → Dl ≠ p → Rg p H H' → Hd [p, Dl] H' → ∀ Q' : VK, (∀ y e H2, Rg p H' H2 → Dq (hid [p, Dl] H2) y e → Good e → Q' y H2) → te ((wipe σ vs).set j (some (.int (i : Int)))) H' Q')
    (k : ∀ n Dl ys es H', Pn n → n ≤ N → H Dl = none → Rg p H H' → H' Dl = some (.lst ys) → DqAll (hid [p, Dl] H') ys es → es.length = n → (∀ e ∈ es, Good e) → Q (.ref Dl) H') : tLc (iRng1 tA) (gName j) tYes te vs σ H Q := hA _ fun n H1 pn hn r1 => ⟨(n : Int), rfl, by omega, by omega, by
  rw [Int.toNat_natCast]
  have bk : ∀ Dl, H1 Dl = none → Dl ≠ p → H Dl = none := fun Dl h hne => by
    cases q : H Dl with
    | none => rfl
    | some o => have := r1.x Dl o (by rw [wo_ne hne]; exact q); rw [this] at h; cases h
  have ne : ∀ Dl, H1 Dl = none → Dl ≠ p := fun Dl h z => by obtain ⟨o, ho⟩ := r1.hp.some; rw [z, ho] at h; cases h
  exact lcD_k (Q := Q) (te := te) (σ := σ) (j := j) (vs := vs) (n := n) (p := p) (by omega) hw r1.hp Good (fun i Dl H' hi hD hne r hd Q' q' => step i Dl H' (by omega) (bk Dl hD hne) hne (r1.tr r) hd Q' q') fun Dl ys es H' hD r h1 h2 h3 h4 => k n Dl ys es H' pn hn (bk Dl hD (ne Dl hD)) (r1.tr r) h1 h2 h3 h4⟩
theorem q_forRD {tA : TA} {N : Nat} {D : Ends} {tz tu : TS} (Pn : Nat → Prop) (hA : ∀ R' : List V → Hp → Prop, (∀ (n : Nat) H2, Pn n → n ≤ N → Rg p H H2 → R' [.int (n : Int)] H2) → tA σ H R') (hN : N ≤ 1000) (Pv : Nat → L2.St → Hp → Prop) (h0 : ∀ H1, Rg p H H1 → Pv 0 σ H1)
    (hs : ∀ (i : Nat) σ' H', i < N → Pv i σ' H' → tu { D with nx := Pv (i + 1), ct := Pv (i + 1), bk := tz D } (σ'.set j (some (.int (i : Int)))) H') (hd : ∀ n σ' H', Pn n → n ≤ N → Pv n σ' H' → tz D σ' H') : tSeq (tFor (iRng1 tA) (gName j) tu) tz D σ H := hA _ fun n H1 pn hn r1 => ⟨(n : Int), rfl, by omega, by omega, by
  rw [Int.toNat_natCast]
  exact for_range (D := { D with nx := tz D }) (lo := 0) (n := n) Pv (h0 H1 r1) (fun i σ' H' hi p => by
    have e0 : (0 : Int) + (i : Int) = (i : Int) := Int.zero_add _
    show tu { D with nx := Pv (i + 1), ct := Pv (i + 1), bk := tz D } (σ'.set j (some (.int ((0 : Int) + (i : Int))))) H'
    rw [e0]
    exact hs i σ' H' (by omega) p) (fun σ' H' pv => hd n σ' H' pn hn pv)⟩
end
theorem tIfD {σ : L2.St} {H : Hp} {c : TT} {ta tb : TE} {Q : VK} {p : Addr} (Z : V → Hp → Prop) (hc : ∀ Q' : Bool → Hp → Prop, (∀ b H2, Rg p H H2 → Q' b H2) → c σ H Q') (h1 : ∀ H1, Rg p H H1 → ∀ Q' : VK, (∀ v H2, Z v H2 → Q' v H2) → ta σ H1 Q') (h2 : ∀ H1, Rg p H H1 → ∀ Q' : VK, (∀ v H2, Z v H2 → Q' v H2) → tb σ H1 Q') (k : ∀ v H2, Z v H2 → Q v H2) : tIf c ta tb σ H Q := hc _ fun b H1 r => by
  cases b with
  | true => rw [if_pos rfl]; exact h1 H1 r Q k
  | false => rw [if_neg (by decide)]; exact h2 H1 r Q k
theorem ints_of {H : Hp} : ∀ {ys : List V} {es : List PyData}, DqAll H ys es → (∀ e ∈ es, isIntD e = true) → ys = (es.map intOf).map V.int
  | _, _, .nil, _ => rfl
  | _, _, .cons q t, h => by
    obtain ⟨i, rfl, rfl⟩ := int_of q (h _ (List.mem_cons_self ..))
    rw [ints_of t fun e he => h e (List.mem_cons_of_mem _ he)]; rfl
noncomputable def BigM : Int := 100000000000
noncomputable def sp_bounds : Sp := fun vs H Q _ => ∃ (p : Addr) (n : Nat), vs = [.ref p, .int (n : Int)] ∧ PotAt H p ∧ 1 ≤ n ∧ n ≤ 6 ∧
  ∀ a xs (bs : List B) H2, Rg p H H2 → H a = none → H2 a = some (.lst xs) → a ≠ p → DqAll (hid [p, a] H2) xs (bs.map B.d) → bs.length ≤ 10 → fitsB bs n = true → (∀ x ∈ bs, -BigM ≤ x.m ∧ x.m ≤ BigM) → Q (.ref a) H2
section
variable {P : Program} {w : World} {K : PySem.W.Frag} {mg : Str → Option Value} {base : Heap}
theorem ok_bounds {f f1 f2 : Addr} {fd fd1 fd2 : FuncData} (F : Fun K "_law_bounds" "_law_bounds" s__law_bounds f fd) (T : Txt mg) (c__law_draw : Cal P w K mg base "_law_draw" f1 fd1 ["_law_pot_here", "_law_many"] 1 sp_draw) (c__law_pick : Cal P w K mg base "_law_pick" f2 fd2 ["_law_pot_here", "_law_some"] 2 (sp_pick K)) : FnOk P w K mg base CX0 3 f fd ["_law_pot_here", "_law_many"] sp_bounds := by
  refine F.ok sc__law_bounds (fun vs H Q E h => ?_) (fun cdv A outer s H vs Q E hr h => ?_)
  · obtain ⟨p, n, rfl, _⟩ := h
    rfl
  · obtain ⟨p, n, rfl, hp, n1, n6, k⟩ := h
    refine ⟨_, (pss_cons (ps_par (i := 2) (j := 3) (by rfl) sc__law_bounds.nd rfl rfl (by decide) rfl rfl (pa_cons (pe_lc (own := [("_law_k", 9)]) (g := (gName 9)) (by rfl) sc__law_bounds.nd (pi_range1 (by rfl) T.b_range (pa_cons (pv 1) pa_nil)) (blkOk_by (own := [("_law_k", 9)]) (N := ["_law_pot_here", "_law_many", "_law_days", "_law_scale", "_law_found", "_law_turn", "_law_one", "_law_other", "_law_most", "_law_k"]) (sc := defScope s__law_bounds) (by decide +kernel)) (fun _ _ _ _ _ => (pg_name (i := 9) sc__law_bounds.nd rfl (Or.inl rfl))) (fun _ _ _ _ _ => pts_nil) (fun _ _ _ _ _ => (pe_op op_sub (pe_call c__law_draw.ok (hr.mono (by decide)) (by rfl) c__law_draw.mgx c__law_draw.kp c__law_draw.bd .nil pass0 (pa_cons (pv 0) (pa_cons pe_int pa_nil))) pe_int))) (pa_cons (pe_call c__law_pick.ok (hr.mono (by decide)) (by rfl) c__law_pick.mgx c__law_pick.kp c__law_pick.bd .nil pass0 (pa_cons (pv 0) (pa_cons (pe_lst (pa_cons pe_int (pa_cons pe_int (pa_cons pe_int (pa_cons (pe_op op_pow pe_int pe_int) pa_nil))))) pa_nil))) pa_nil)) (by rfl)) (pss_cons (ps_set (i := 4) sc__law_bounds.nd rfl (Or.inl rfl) (pe_lst pa_nil)) (pss_cons (ps_for PassesOwn.never rfl (pi_range1 (by rfl) T.b_range (pa_cons (pe_call c__law_draw.ok (hr.mono (by decide)) (by rfl) c__law_draw.mgx c__law_draw.kp c__law_draw.bd .nil pass0 (pa_cons (pv 0) (pa_cons pe_int pa_nil))) pa_nil)) (pg_name (i := 5) sc__law_bounds.nd rfl (Or.inl rfl)) (pss_cons (ps_par (i := 6) (j := 7) (by rfl) sc__law_bounds.nd rfl rfl (by decide) rfl rfl (pa_cons (pe_call c__law_draw.ok (hr.mono (by decide)) (by rfl) c__law_draw.mgx c__law_draw.kp c__law_draw.bd .nil pass0 (pa_cons (pv 0) (pa_cons (pv 1) pa_nil))) (pa_cons (pe_call c__law_draw.ok (hr.mono (by decide)) (by rfl) c__law_draw.mgx c__law_draw.kp c__law_draw.bd .nil pass0 (pa_cons (pv 0) (pa_cons (pv 1) pa_nil))) pa_nil)) (by rfl)) (pss_cons (ps_set (i := 8) sc__law_bounds.nd rfl (Or.inl rfl) (pe_op op_add (pe_op op_sub (pe_ix (ixL (K := K) rfl) (pv 2) (pv 6) (fun _ _ => rfl)) (pe_ix (ixL (K := K) rfl) (pv 2) (pv 7) (fun _ _ => rfl))) (pe_call c__law_draw.ok (hr.mono (by decide)) (by rfl) c__law_draw.mgx c__law_draw.kp c__law_draw.bd .nil pass0 (pa_cons (pv 0) (pa_cons pe_int pa_nil))))) (pss_one (ps_expr (pe_bm PySem.F.plainAttrs_list PySem.F.slot_list_append PySem.F.type_list_append mt_append (pv 4) (pa_cons (pe_tup (pa_cons (pv 6) (pa_cons (pv 7) (pa_cons (pe_op op_mul (pv 3) (pe_ifExp (pt_cmpR op_gt (pe_call c__law_draw.ok (hr.mono (by decide)) (by rfl) c__law_draw.mgx c__law_draw.kp c__law_draw.bd .nil pass0 (pa_cons (pv 0) (pa_cons pe_int pa_nil))) pe_int (nomark _)) (pv 8) (pe_op op_sub (pe_call c__law_draw.ok (hr.mono (by decide)) (by rfl) c__law_draw.mgx c__law_draw.kp c__law_draw.bd .nil pass0 (pa_cons (pv 0) (pa_cons pe_int pa_nil))) pe_int))) pa_nil)))) pa_nil))))))) (pss_one (ps_ret (pv 4)))))), ?_⟩
    refine par_k (ac_k ?_)
    refine lcD_R (p := p) (N := n) (fun m => m = n) hp (fun R' r' => ac_v (ev_var rfl) fun H1 e1 => ac_nil (r' n H1 rfl (Nat.le_refl _) ((Rg.rfl hp).mono e1))) (by omega) (fun _ => rfl) (fun e => ∃ i, e = .int i ∧ -3 ≤ i ∧ i ≤ 5) (fun i Dl H' hi hD hne r hd Q' q' => op_k (drawC r.hp rfl ev_c (by decide) (by decide) fun d H2 d0 d1 e2 hp2 => v_k ev_c fun H3 e3 => ⟨d, 3, rfl, rfl, q' _ (.int (d - 3)) H3 (((Rg.rfl r.hp).step e2 hp2).mono e3) (.int _) ⟨_, rfl, by omega, by omega⟩⟩)) fun n' dl ys es H1 hn' _ hdl r1 h1 hk1 hes hg => ?_
    rw [hn'] at hes
    have hint : ∀ e ∈ es, isIntD e = true := fun e he => by obtain ⟨i, rfl, _⟩ := hg e he; rfl
    have hys := ints_of hk1 hint
    generalize hns : es.map intOf = ns at hys
    have hnl : ns.length = n := by rw [← hns, List.length_map, hes]
    have hnb : ∀ i, -3 ≤ ns.getD i 0 ∧ ns.getD i 0 ≤ 5 := fun i => by
      rw [List.getD_eq_getElem?_getD]
      cases q : ns[i]? with
      | none => exact ⟨by decide, by decide⟩
      | some x =>
        have hm := List.mem_of_getElem? q
        rw [← hns] at hm
        obtain ⟨e, he, rfl⟩ := List.mem_map.mp hm
        obtain ⟨y, rfl, hy⟩ := hg e he
        exact hy
    subst hys
    have dlp : dl ≠ p := fun z => by obtain ⟨o, ho⟩ := hp.some; rw [z, ho] at hdl; cases hdl
    refine ac_k (call_k (ac_v (ev_var rfl) fun H2 e2 => ac_k (el_lst (ea_cons ev_c (ea_cons ev_c (ea_cons ev_c (ea_cons (ev_op ev_c ev_c (rv_I ⟨by decide, by decide, by decide⟩)) ea_nil)))) (by show 4 ≤ 100000; decide) H2 (Ex.refl H2) _ fun sl H3 hsl e3 h3 => ac_nil ?_)))
    have r3 := (r1.mono e2).mono e3
    have slp : sl ≠ p := fun z => by obtain ⟨o, ho⟩ := (r1.mono e2).hp.some; rw [z, ho] at hsl; cases hsl
    refine ⟨p, sl, _, rfl, r3.hp, sq_of (by rw [wo_ne slp]; exact h3), by decide, by decide, fun m u H4 hu e4 hp4 => ac_nil ⟨_, _, rfl, ?_⟩⟩
    have r4 := r3.step e4 hp4
    obtain ⟨sc, rfl, s0⟩ : ∃ sc : Int, u = .int sc ∧ (sc = 1 ∨ sc = 10000000000) := by
      have := List.mem_of_getElem? hu
      simp only [List.mem_cons, List.not_mem_nil, or_false] at this
      rcases this with z | z | z | z
      · exact ⟨1, z, .inl rfl⟩
      · exact ⟨1, z, .inl rfl⟩
      · exact ⟨1, z, .inl rfl⟩
      · exact ⟨10000000000, z, .inr rfl⟩
    have h4 : H4 dl = some (.lst (ns.map V.int)) := e4 _ _ (by rw [wo_ne dlp]; exact (e2.trans e3) _ _ h1)
    refine q_asgL (el_lst ea_nil (by show 0 ≤ 100000; decide)) fun fo H5 hfo e5 h5 => ?_
    have r5 := r4.mono e5
    have fop : fo ≠ p := fun z => by obtain ⟨o, ho⟩ := r4.hp.some; rw [z, ho] at hfo; cases hfo
    have fodl : fo ≠ dl := fun z => by rw [z, h4] at hfo; cases hfo
    have hfoH : H fo = none := by
      cases q : H fo with
      | none => rfl
      | some o => have := r4.x fo o (by rw [wo_ne fop]; exact q); rw [this] at hfo; cases hfo
    refine q_forRD (p := p) (N := 10) (fun _ => True) (fun R' r' => ac_k (drawC r5.hp rfl ev_c (by decide) (by decide) fun many H6 m0 m1 e6 hp6 => ac_nil (by
      obtain ⟨mm, rfl⟩ : ∃ mm : Nat, many = (mm : Int) := ⟨many.toNat, by omega⟩
      exact r' mm H6 trivial (by omega) ((Rg.rfl r5.hp).step e6 hp6)))) (by decide) (fun i σ' H' => ∃ (o5 o6 o7 o8 : Option V) (us : List V) (bs : List B), σ' = [some (.ref p), some (.int (n : Int)), some (.ref dl), some (.int sc), some (.ref fo), o5, o6, o7, o8, none] ∧ Rg p H H' ∧ H' dl = some (.lst (ns.map V.int)) ∧ H' fo = some (.lst us) ∧ DqAll (hid [p, fo] H') us (bs.map B.d) ∧ bs.length = i ∧ fitsB bs n = true ∧ ∀ x ∈ bs, -BigM ≤ x.m ∧ x.m ≤ BigM)
      (fun H6 r56 => ⟨none, none, none, none, [], [], rfl, r5.tr r56, r56.x _ _ (by rw [wo_ne dlp]; exact e5 _ _ h4), r56.x _ _ (by rw [wo_ne fop]; exact h5), .nil, rfl, rfl, fun x hx => nomatch hx⟩) (fun i σ' H' hi pv => ?_) (fun mm σ' H' _ hmm pv => ?_)
    · obtain ⟨o5, o6, o7, o8, us, bs, rfl, rH, hdl', hfo', kus, hbl, hfit, hm⟩ := pv
      refine par_k (ac_k (drawC rH.hp rfl (ev_var rfl) (by omega) (by omega) fun one H7 a0 a1 e7 hp7 => ac_k (drawC hp7 rfl (ev_var rfl) (by omega) (by omega) fun oth H8 b0 b1 e8 hp8 => ac_nil ⟨_, _, rfl, ?_⟩)))
      obtain ⟨ia, rfl⟩ : ∃ ia : Nat, one = (ia : Int) := ⟨one.toNat, by omega⟩
      obtain ⟨ib, rfl⟩ : ∃ ib : Nat, oth = (ib : Int) := ⟨oth.toNat, by omega⟩
      have r78 : Rg p H' H8 := ((Rg.rfl rH.hp).step e7 hp7).step e8 hp8
      have h8 : H8 dl = some (.lst (ns.map V.int)) := r78.x _ _ (by rw [wo_ne dlp]; exact hdl')
      refine asg_k (op_k (v_k (ev_op (ev_op (ev_var rfl) (ev_var rfl) (rv_ixL (sq_of h8) (atI_int (i := (ia : Int)) (by omega) (by omega)))) (ev_op (ev_var rfl) (ev_var rfl) (rv_ixL (sq_of h8) (atI_int (i := (ib : Int)) (by omega) (by omega)))) rv_I0) fun H9 e9 => drawC (hp8.mono e9) rfl ev_c (by decide) (by decide) fun d3 Ha c0 c1 ea hpa => ⟨_, d3, rfl, rfl, ?_⟩))
      rw [Int.toNat_natCast, Int.toNat_natCast]
      have w1 := hnb ia
      have w2 := hnb ib
      generalize hmost : ns.getD ia 0 - ns.getD ib 0 + d3 = most
      have r8a : Rg p H' Ha := (r78.mono e9).step ea hpa
      -- the tuple
      refine bm_k (v_k (v := .ref fo) (ev_var rfl) fun Hb eb => ⟨Or.inl ⟨rfl, us, sq_of ((r8a.mono eb).x _ _ (by rw [wo_ne fop]; exact hfo'))⟩, ac_k (tup_k (ac_v (ev_var rfl) fun Hc ec => ac_v (ev_var rfl) fun Hd' ed => ac_k (op_k (v_k (ev_var rfl) fun He ee => ?_))))⟩)
      have r8e : Rg p H' He := (((r8a.mono eb).mono ec).mono ed).mono ee
      refine tIfD (fun v Hf => ∃ m : Int, v = .int m ∧ -10 ≤ m ∧ m ≤ 10 ∧ Rg p He Hf) (fun Q' q' => test_k (op_k (drawC r8e.hp rfl ev_c (by decide) (by decide) fun d6 Hf f0 f1 ef hpf => v_k ev_c fun Hg eg => ⟨d6, 0, rfl, rfl, _, rfl, q' _ Hg (((Rg.rfl r8e.hp).step ef hpf).mono eg)⟩))) (fun Hf rf Q' q' => v_k (ev_var rfl) fun Hg eg => q' _ Hg ⟨most, congrArg V.int hmost, by omega, by omega, rf.mono eg⟩) (fun Hf rf Q' q' => op_k (drawC rf.hp rfl ev_c (by decide) (by decide) fun d9 Hg g0 g1 eg hpg => v_k ev_c fun Hh eh => ⟨d9, 5, rfl, rfl, q' _ Hh ⟨d9 - 5, rfl, by omega, by omega, (rf.step eg hpg).mono eh⟩⟩)) ?_
      rintro _ Hf ⟨m, rfl, mm0, mm1, rf⟩
      refine ⟨sc, m, rfl, rfl, .inl ⟨by omega, by omega⟩, ac_nil ⟨sz_of (by show 3 ≤ 100000; decide), fun q hq => ac_nil ?_⟩⟩
      have rall : Rg p H' Hf := r8e.tr rf
      have rnew := rall.mono (Ex.new (o := .tup [.int (ia : Int), .int (ib : Int), .int (sc * m)]) hq)
      have hfo2 := rnew.x fo _ (by rw [wo_ne fop]; exact hfo')
      refine ⟨fo, us, .ref q, rfl, rfl, hfo2, sz_lt (by have := kus.len; rw [List.length_map] at this; omega), ?_⟩
      have qf : fo ≠ q := fun z => by rw [← z] at hq; rw [rall.x fo _ (by rw [wo_ne fop]; exact hfo')] at hq; cases hq
      have qp : q ≠ p := fun z => by obtain ⟨o, ho⟩ := rall.hp.some; rw [← z, hq] at ho; cases ho
      generalize hX : upd Hf q (.tup [.int (ia : Int), .int (ib : Int), .int (sc * m)]) = X at *
      have hXq : X q = some (.tup [.int (ia : Int), .int (ib : Int), .int (sc * m)]) := by rw [← hX]; exact upd_same
      have rtot := rH.tr rnew
      have bnd : -BigM ≤ sc * m ∧ sc * m ≤ BigM := by
        unfold BigM
        rcases s0 with z | z <;> (subst z; omega)
      refine ⟨_, _, _, _, us ++ [.ref q], bs ++ [⟨ia, ib, sc * m⟩], rfl, ⟨fun b o hb => ?_, ?_⟩, ?_, upd_same, ?_, by rw [List.length_append, hbl]; rfl, ?_, ?_⟩
      · have h1 := rtot.x b o hb
        have : b ≠ fo := fun z => by
          by_cases q : b = p
          · rw [q, wo_at] at hb; cases hb
          · rw [wo_ne q, z, hfoH] at hb; cases hb
        rw [upd_ne this]; exact h1
      · obtain ⟨a, b, q1, q2⟩ := rtot.hp
        exact ⟨a, b, q1, by rw [upd_ne (Ne.symm fop)]; exact q2⟩
      · rw [upd_ne (Ne.symm fodl)]
        exact rnew.x dl _ (by rw [wo_ne dlp]; exact hdl')
      · have x : Ex (hid [p, fo] X) (hid [p, fo] (upd X fo (.lst (us ++ [.ref q])))) := hid_updE (by simp)
        rw [List.map_append]
        refine ((kus.mono (rnew.ex (by simp))).mono x).app (.cons (Dq.mono (.tup ?_ (.cons (.int _) (.cons (.int _) (.cons (.int _) .nil)))) x) .nil)
        rw [hid_off (by simp [qp, Ne.symm qf])]; exact hXq
      · unfold fitsB at hfit ⊢
        rw [List.all_append, hfit]
        simp
        omega
      · intro x hx
        rcases List.mem_append.mp hx with z | z
        · exact hm x z
        · rw [List.mem_singleton.mp z]; exact bnd
    · obtain ⟨o5, o6, o7, o8, us, bs, rfl, rH, hdl', hfo', kus, hbl, hfit, hm⟩ := pv
      refine ret_k (v_k (ev_var rfl) fun H7 e7 => k fo us bs H7 (rH.mono e7) hfoH (e7 _ _ hfo') fop (kus.mono (hid_mono e7)) (by omega) hfit hm)
end
end K43
end
section
set_option maxHeartbeats 4000000
namespace K43
open PySem L2 Evl G OW
/-! ### tame data -/
structure Gd (e : PyData) : Prop where
  f : fine e = true
  dp : dep e ≤ 2
  n : nod e ≤ 8
  w : e.hasDict = false
structure Tm (e : PyData) : Prop where
  f : fine e = true
  dp : dep e ≤ 4
  n : nod e ≤ 400
  w : e.hasDict = false ∨ e = .dict []
  k : (items e).length ≤ 1000
  t : ∀ t ∈ items e, (items t).length ≤ 1000
theorem items_le (e : PyData) : (items e).length ≤ nod e := by
  cases e with
  | list ds => have := nods_len ds; show ds.length ≤ nod (.list ds); rw [nod]; omega
  | tuple ds => have := nods_len ds; show ds.length ≤ nod (.tuple ds); rw [nod]; omega
  | _ => exact Nat.zero_le _
theorem nods_gd : ∀ {ds : List PyData}, (∀ e ∈ ds, Gd e) → nods ds ≤ 8 * ds.length ∧ deps ds ≤ 2 ∧ fines ds = true ∧ PyData.hasDictAll ds = false
  | [], _ => by simp [nods, deps, fines, PyData.hasDictAll]
  | d :: ds, h => by
    obtain ⟨a, b, c, e⟩ := nods_gd (ds := ds) fun e he => h e (List.mem_cons_of_mem _ he)
    have g := h d (List.mem_cons_self ..)
    refine ⟨?_, ?_, ?_, ?_⟩
    · have := g.n; simp only [nods, List.length_cons]; omega
    · have := g.dp; simp only [deps]; omega
    · rw [fines, g.f, c]; rfl
    · simp only [PyData.hasDictAll, g.w, e, Bool.or_self]
theorem Tm.lst {ds : List PyData} (h : ∀ e ∈ ds, Gd e) (hl : ds.length ≤ 40) : Tm (.list ds) := by
  obtain ⟨a, b, c, e⟩ := nods_gd h
  exact ⟨by rw [fine]; exact c, by rw [dep]; omega, by rw [nod]; omega, .inl (by rw [PyData.hasDict]; exact e), by show ds.length ≤ 1000; omega, fun t ht => by have := (h t ht).n; have := items_le t; omega⟩
theorem Tm.tup {ds : List PyData} (h : ∀ e ∈ ds, Gd e) (hl : ds.length ≤ 40) : Tm (.tuple ds) := by
  obtain ⟨a, b, c, e⟩ := nods_gd h
  exact ⟨by rw [fine]; exact c, by rw [dep]; omega, by rw [nod]; omega, .inl (by rw [PyData.hasDict]; exact e), by show ds.length ≤ 1000; omega, fun t ht => by have := (h t ht).n; have := items_le t; omega⟩
theorem Gd.int {i : Int} (h : -BIG ≤ i ∧ i ≤ BIG) : Gd (.int i) := ⟨by rw [fine]; exact decide_eq_true h, by simp [dep], by simp [nod], by simp [PyData.hasDict]⟩
theorem Gd.bool (b : Bool) : Gd (.bool b) := ⟨by simp [fine], by simp [dep], by simp [nod], by simp [PyData.hasDict]⟩
theorem Gd.tup {ds : List PyData} (h : ∀ e ∈ ds, ∃ i, e = .int i ∧ -BIG ≤ i ∧ i ≤ BIG ∨ ∃ b, e = .bool b) (hl : ds.length ≤ 5) : Gd (.tuple ds) ∧ Gd (.list ds) := by
  have key : nods ds = ds.length ∧ deps ds = 0 ∧ fines ds = true ∧ PyData.hasDictAll ds = false := by
    clear hl
    induction ds with
    | nil => simp [nods, deps, fines, PyData.hasDictAll]
    | cons d ds ih =>
      obtain ⟨a, b, c, e⟩ := ih fun e he => h e (List.mem_cons_of_mem _ he)
      obtain ⟨i, hi | ⟨b', hb⟩⟩ := h d (List.mem_cons_self ..)
      · obtain ⟨rfl, h1⟩ := hi
        refine ⟨by simp only [nods, nod, a, List.length_cons]; omega, by simp only [deps, dep, b]; rfl, ?_, by simp only [PyData.hasDictAll, PyData.hasDict, e, Bool.or_self]⟩
        rw [fines, c, fine, decide_eq_true h1]; rfl
      · subst hb
        exact ⟨by simp only [nods, nod, a, List.length_cons]; omega, by simp only [deps, dep, b]; rfl, by rw [fines, c, fine]; rfl, by simp only [PyData.hasDictAll, PyData.hasDict, e, Bool.or_self]⟩
  obtain ⟨a, b, c, e⟩ := key
  exact ⟨⟨by rw [fine]; exact c, by rw [dep]; omega, by rw [nod]; omega, by rw [PyData.hasDict]; exact e⟩, ⟨by rw [fine]; exact c, by rw [dep]; omega, by rw [nod]; omega, by rw [PyData.hasDict]; exact e⟩⟩
/-- a row of a drawn value: numbers, or bounds -/
noncomputable def RowOk (es : List PyData) : Prop := (∃ ns : List Int, es = ns.map PyData.int ∧ ∀ i ∈ ns, -BIG < i ∧ i < BIG) ∨ ∃ r : List B, es = r.map B.d ∧ ∀ x ∈ r, x.a ≤ 100 ∧ x.b ≤ 100 ∧ -BIG < x.m ∧ x.m < BIG
theorem Gd.bnd {x : B} (h : x.a ≤ 100 ∧ x.b ≤ 100 ∧ -BIG < x.m ∧ x.m < BIG) : Gd x.d := (Gd.tup (ds := [.int (x.a : Int), .int (x.b : Int), .int x.m]) (fun e he => by
  simp only [List.mem_cons, List.not_mem_nil, or_false] at he
  rcases he with e1 | e1 | e1 <;> subst e1
  · exact ⟨_, .inl ⟨rfl, by unfold BIG; omega, by unfold BIG; omega⟩⟩
  · exact ⟨_, .inl ⟨rfl, by unfold BIG; omega, by unfold BIG; omega⟩⟩
  · exact ⟨_, .inl ⟨rfl, by omega, by omega⟩⟩) (by show 3 ≤ 5; decide)).1
theorem RowOk.gd {es : List PyData} (h : RowOk es) : ∀ e ∈ es, Gd e := by
  rcases h with ⟨ns, rfl, h⟩ | ⟨r, rfl, h⟩ <;> intro e he <;> obtain ⟨x, hx, rfl⟩ := List.mem_map.mp he
  · exact .int (by have := h x hx; omega)
  · exact .bnd (h x hx)
theorem RowOk.lay {es : List PyData} (h : RowOk es) : PyData.canLayAll0 es = true := by
  rcases h with ⟨ns, rfl, h⟩ | ⟨r, rfl, h⟩
  · exact layAll_ints ns
  · exact layAll_d r
theorem RowOk.sh {es : List PyData} (h : RowOk es) : SeqAt.shaped (.list es) = true := by
  rcases h with ⟨ns, rfl, h⟩ | ⟨r, rfl, h⟩
  · exact shaped_ints ns
  · exact shaped_ds r
noncomputable def EvGl (Z : List Addr) (te : TE) (σ : L2.St) (H : Hp) (L : Nat) : Prop := ∀ H1, Ex H H1 → ∀ Q : VK, (∀ a vs ds H2, Ex H1 H2 → hid Z H2 a = some (.lst vs) → DqAll (hid Z H2) vs ds → (∀ e ∈ ds, Gd e) → ds.length ≤ L → Q (.ref a) H2) → te σ H1 Q
noncomputable def EvTm (Z : List Addr) (te : TE) (σ : L2.St) (H : Hp) : Prop := ∀ H1, Ex H H1 → ∀ Q : VK, (∀ v e H2, Ex H1 H2 → Dq (hid Z H2) v e → Tm e → Q v H2) → te σ H1 Q
noncomputable def EvGd (Z : List Addr) (te : TE) (σ : L2.St) (H : Hp) : Prop := ∀ H1, Ex H H1 → ∀ Q : VK, (∀ v e H2, Ex H1 H2 → Dq (hid Z H2) v e → Gd e → Q v H2) → te σ H1 Q
noncomputable def EvAG (G : PyData → Prop) (Z : List Addr) (tA : TA) (σ : L2.St) (H : Hp) (n : Nat) : Prop := ∀ H1, Ex H H1 → ∀ Q : List V → Hp → Prop, (∀ vs ds H2, Ex H1 H2 → DqAll (hid Z H2) vs ds → (∀ e ∈ ds, G e) → ds.length = n → Q vs H2) → tA σ H1 Q
section
variable {K : PySem.W.Frag} {σ : L2.St} {H : Hp} {te ta tb : TE} {tA : TA} {tl th : TO} {v : V} {d e : PyData} {ds : List PyData} {Z : List Addr} {a : Addr} {xs : List V} {m n : Nat} {lo hi : Option Int} {G : PyData → Prop}
theorem gl_ref (h : Ev te σ H (.ref a)) (hx : hid Z H a = some (.lst xs)) (k : DqAll (hid Z H) xs ds) (hg : ∀ e ∈ ds, Gd e) : EvGl Z te σ H ds.length := fun H1 e1 Q q => h H1 e1 Q fun H2 e2 => q a xs ds H2 e2 (hid_mono (e1.trans e2) _ _ hx) (k.mono (hid_mono (e1.trans e2))) hg (Nat.le_refl _)
theorem gl_sl (hz : Hd Z H) (h : Ev ta σ H (.ref a)) (hx : hid Z H a = some (.lst xs)) (k : DqAll (hid Z H) xs ds) (hg : ∀ e ∈ ds, Gd e) (h1 : EvO tl σ H lo) (h2 : EvO th σ H hi) : EvGl Z (tSl (rSlL K) ta tl th) σ H ds.length := fun H1 e1 Q q =>
  h H1 e1 _ fun H2 e2 => h1 H2 (e1.trans e2) _ fun H3 e3 => h2 H3 ((e1.trans e2).trans e3) _ fun H4 e4 => by
    have x4 := ((e1.trans e2).trans e3).trans e4
    refine ⟨a, xs, rfl, sq_of (hid_ex _ _ (hid_mono x4 _ _ hx)), fun p hp => q p _ ((ds.drop (HT.sIx xs.length 0 lo)).take (HT.sIx xs.length xs.length hi - HT.sIx xs.length 0 lo)) _ (((e2.trans e3).trans e4).trans (Ex.new hp)) (by rw [hid_off ((hz.mono x4).new hp)]; exact upd_same) ?_ (fun e he => hg e (List.mem_of_mem_drop (List.mem_of_mem_take he))) ?_⟩
    · unfold cutV
      exact ((k.drop _).take _).mono (hid_mono (x4.trans (Ex.new hp)))
    · rw [List.length_take, List.length_drop]; omega
theorem gl_cat (hz : Hd Z H) (h1 : EvGl Z ta σ H m) (h2 : EvGl Z tb σ H n) (hl : m + n ≤ 1000) : EvGl Z (tOp rCat ta tb) σ H (m + n) := fun H1 e1 Q q =>
  h1 H1 e1 _ fun a vs ds H2 e2 g1 g2 g3 g4 => h2 H2 (e1.trans e2) _ fun b us es H3 e3 f1 f2 f3 f4 => ⟨a, b, vs, us, rfl, rfl, hid_ex _ _ (hid_mono e3 _ _ g1), hid_ex _ _ f1, sz_of (by rw [g2.len, f2.len]; omega), fun p hp => q p _ (ds ++ es) _ ((e2.trans e3).trans (Ex.new hp)) (by rw [hid_off ((hz.mono ((e1.trans e2).trans e3)).new hp)]; exact upd_same) (((g2.mono (hid_mono e3)).app f2).mono (hid_mono (Ex.new hp))) (fun e he => by
    rcases List.mem_append.mp he with z | z
    · exact g3 e z
    · exact f3 e z) (by rw [List.length_append]; omega)⟩
theorem ag_nil : EvAG G Z tNil σ H 0 := fun H1 _ Q q => q [] [] H1 (Ex.refl _) .nil (fun e he => nomatch he) rfl
theorem ag_cons (h : ∀ H1, Ex H H1 → ∀ Q : VK, (∀ v e H2, Ex H1 H2 → Dq (hid Z H2) v e → G e → Q v H2) → te σ H1 Q) (t : EvAG G Z tA σ H n) : EvAG G Z (tCons te tA) σ H (n + 1) := fun H1 e1 Q q =>
  h H1 e1 _ fun v e H2 e2 g1 g2 => t H2 (e1.trans e2) _ fun vs ds H3 e3 f1 f2 f3 => q (v :: vs) (e :: ds) H3 (e2.trans e3) (.cons (g1.mono (hid_mono e3)) f1) (fun x hx => by
    rcases List.mem_cons.mp hx with z | z
    · rw [z]; exact g2
    · exact f2 x z) (by rw [List.length_cons, f3])
theorem gl_lst (hz : Hd Z H) (h : EvAG Gd Z tA σ H n) (hn : n ≤ 1000) : EvGl Z (tLst tA) σ H n := fun H1 e1 Q q =>
  h H1 e1 _ fun vs ds H2 e2 g1 g2 g3 => ⟨sz_of (by rw [g1.len]; omega), fun p hp => q p vs ds _ (e2.trans (Ex.new hp)) (by rw [hid_off ((hz.mono (e1.trans e2)).new hp)]; exact upd_same) (g1.mono (hid_mono (Ex.new hp))) g2 (by omega)⟩
/-- a list of tame things -/
noncomputable def EvTl (Z : List Addr) (te : TE) (σ : L2.St) (H : Hp) (n : Nat) : Prop := ∀ H1, Ex H H1 → ∀ Q : VK, (∀ a vs ds H2, H1 a = none → Ex H1 H2 → H2 a = some (.lst vs) → a ∉ Z → DqAll (hid (a :: Z) H2) vs ds → (∀ e ∈ ds, Tm e) → ds.length = n → Q (.ref a) H2) → te σ H1 Q
theorem hid_newp {Z : List Addr} {H : Hp} {a : Addr} {o : HO} (ha : H a = none) : Ex (hid Z H) (hid (a :: Z) (upd H a o)) := fun b u h => by
  by_cases hb : b ∈ Z
  · rw [hid_at hb] at h; cases h
  · rw [hid_off hb] at h
    have hne : b ≠ a := fun z => by rw [z, ha] at h; cases h
    rw [hid_off (by simp [hb, hne]), upd_ne hne]; exact h
theorem tl_lst (hz : Hd Z H) (h : EvAG Tm Z tA σ H n) (hn : n ≤ 1000) : EvTl Z (tLst tA) σ H n := fun H1 e1 Q q =>
  h H1 e1 _ fun vs ds H2 e2 g1 g2 g3 => ⟨sz_of (by rw [g1.len]; omega), fun p hp => q p vs ds _ (fresh_back e2 hp) (e2.trans (Ex.new hp)) upd_same ((hz.mono (e1.trans e2)).new hp) (g1.mono (hid_newp hp)) g2 g3⟩
theorem tl_cat (hz : Hd Z H) (h : Ev ta σ H (.ref a)) (hx : hid Z H a = some (.lst xs)) (k : DqAll (hid Z H) xs ds) (hg : ∀ e ∈ ds, Tm e) (h2 : EvTl Z tb σ H n) (hl : ds.length + n ≤ 1000) : EvTl Z (tOp rCat ta tb) σ H (ds.length + n) := fun H1 e1 Q q =>
  h H1 e1 _ fun H2 e2 => h2 H2 (e1.trans e2) _ fun b us es H3 _ e3 f1 fb f2 f3 f4 => by
    have x3 := (e1.trans e2).trans e3
    exact ⟨a, b, xs, us, rfl, rfl, hid_ex _ _ (hid_mono x3 _ _ hx), f1, sz_of (by rw [k.len, f2.len]; omega), fun p hp => q p _ (ds ++ es) _ (fresh_back (e2.trans e3) hp) ((e2.trans e3).trans (Ex.new hp)) upd_same ((hz.mono x3).new hp) (((k.mono (hid_mono x3)).app (f2.mono (hid_fit fun b hb => List.mem_cons_of_mem _ hb))).mono (hid_newp hp)) (fun e he => by
      rcases List.mem_append.mp he with z | z
      · exact hg e z
      · exact f3 e z) (by rw [List.length_append, f4])⟩
theorem gl_tm (h : EvGl Z te σ H m) (hm : m ≤ 40) : EvTm Z te σ H := fun H1 e1 Q q => h H1 e1 Q fun a vs ds H2 e2 g1 g2 g3 g4 => q _ (.list ds) H2 e2 (.lst g1 g2) (.lst g3 (by omega))
theorem tm_v (h : Ev te σ H v) (hd : ∀ H1, Dq H1 v e) (ht : Tm e) : EvTm Z te σ H := fun H1 e1 Q q => h H1 e1 Q fun H2 e2 => q v e H2 e2 (hd _) ht
theorem gd_v (h : Ev te σ H v) (hd : ∀ H1, Dq H1 v e) (ht : Gd e) : EvGd Z te σ H := fun H1 e1 Q q => h H1 e1 Q fun H2 e2 => q v e H2 e2 (hd _) ht
theorem gd_ref (h : Ev te σ H v) (hd : Dq (hid Z H) v e) (hg : Gd e) : EvGd Z te σ H := fun H1 e1 Q q => h H1 e1 Q fun H2 e2 => q v e H2 e2 (hd.mono (hid_mono (e1.trans e2))) hg
theorem tm_dnew (hz : Hd Z H) : EvTm Z tDNewK σ H := fun H1 e1 Q q p hp => q _ (.dict []) _ (Ex.new hp) (.dct [] (by rw [hid_off ((hz.mono e1).new hp)]; exact upd_same)) ⟨rfl, by simp [dep], by simp [nod], .inr rfl, Nat.zero_le _, fun t ht => nomatch ht⟩
theorem gd_tup (hz : Hd Z H) (h : EvAG (fun e => ∃ i, e = .int i ∧ -BIG ≤ i ∧ i ≤ BIG ∨ ∃ b, e = .bool b) Z tA σ H n) (hn : n ≤ 5) : EvGd Z (tTup tA) σ H := fun H1 e1 Q q =>
  h H1 e1 _ fun vs ds H2 e2 g1 g2 g3 => ⟨sz_of (by rw [g1.len]; omega), fun p hp => q _ (.tuple ds) _ (e2.trans (Ex.new hp)) (.tup (by rw [hid_off ((hz.mono (e1.trans e2)).new hp)]; exact upd_same) (g1.mono (hid_mono (Ex.new hp)))) (Gd.tup g2 (by omega)).1⟩
theorem gd_lst (hz : Hd Z H) (h : EvAG (fun e => ∃ i, e = .int i ∧ -BIG ≤ i ∧ i ≤ BIG ∨ ∃ b, e = .bool b) Z tA σ H n) (hn : n ≤ 5) : EvGd Z (tLst tA) σ H := fun H1 e1 Q q =>
  h H1 e1 _ fun vs ds H2 e2 g1 g2 g3 => ⟨sz_of (by rw [g1.len]; omega), fun p hp => q _ (.list ds) _ (e2.trans (Ex.new hp)) (.lst (by rw [hid_off ((hz.mono (e1.trans e2)).new hp)]; exact upd_same) (g1.mono (hid_mono (Ex.new hp)))) (Gd.tup g2 (by omega)).2⟩
theorem nb_int {i : Int} (h : Ev te σ H (.int i)) (hi : -BIG ≤ i ∧ i ≤ BIG) (H1 : Hp) (e1 : Ex H H1) (Q : VK) (q : ∀ v e H2, Ex H1 H2 → Dq (hid Z H2) v e → (∃ i, e = .int i ∧ -BIG ≤ i ∧ i ≤ BIG ∨ ∃ b, e = .bool b) → Q v H2) : te σ H1 Q := h H1 e1 Q fun H2 e2 => q _ (.int i) H2 e2 (.int i) ⟨i, .inl ⟨rfl, hi⟩⟩
/-- tuple(rows) -/
theorem tm_tupOf (hz : Hd Z H) (h : Ev te σ H (.ref a)) (hx : hid Z H a = some (.lst xs)) (k : DqAll (hid Z H) xs ds) (hg : ∀ e ∈ ds, Gd e) (hl : ds.length ≤ 40) : EvTm Z (tCB (fun xs H Q => ∃ p ys, xs = [.ref p] ∧ ((SqL K H p ys ∧ ∀ l, H l = none → Q (.ref l) (upd H l (.tup ys))) ∨ (SqT K H p ys ∧ Q (.ref p) H))) (tCons te tNil)) σ H := fun H1 e1 Q q =>
  h H1 e1 _ fun H2 e2 => ⟨a, xs, rfl, .inl ⟨sq_of (hid_ex _ _ (hid_mono (e1.trans e2) _ _ hx)), fun p hp => q _ (.tuple ds) _ (e2.trans (Ex.new hp)) (.tup (by rw [hid_off ((hz.mono (e1.trans e2)).new hp)]; exact upd_same) (k.mono (hid_mono ((e1.trans e2).trans (Ex.new hp))))) (.tup hg hl)⟩⟩
/-- list(bounds) -/
theorem gl_listOf (hz : Hd Z H) (h : Ev te σ H (.ref a)) (hx : hid Z H a = some (.lst xs)) (k : DqAll (hid Z H) xs ds) (hg : ∀ e ∈ ds, Gd e) : EvGl Z (tCB (fun xs H Q => ∃ p ys, xs = [.ref p] ∧ (SqL K H p ys ∨ SqT K H p ys) ∧ ∀ l, H l = none → Q (.ref l) (upd H l (.lst ys))) (tCons te tNil)) σ H ds.length := fun H1 e1 Q q =>
  h H1 e1 _ fun H2 e2 => ⟨a, xs, rfl, .inl (sq_of (hid_ex _ _ (hid_mono (e1.trans e2) _ _ hx))), fun p hp => q p xs ds _ (e2.trans (Ex.new hp)) (by rw [hid_off ((hz.mono (e1.trans e2)).new hp)]; exact upd_same) (k.mono (hid_mono ((e1.trans e2).trans (Ex.new hp)))) hg (Nat.le_refl _)⟩
theorem gl_rev (hz : Hd Z H) (h : Ev te σ H (.ref a)) (hx : hid Z H a = some (.lst xs)) (k : DqAll (hid Z H) xs ds) (hg : ∀ e ∈ ds, Gd e) : EvGl Z (tRevL K te) σ H ds.length := fun H1 e1 Q q =>
  h H1 e1 _ fun H2 e2 => ⟨a, xs, rfl, sq_of (hid_ex _ _ (hid_mono (e1.trans e2) _ _ hx)), fun p hp => q p xs.reverse ds.reverse _ (e2.trans (Ex.new hp)) (by rw [hid_off ((hz.mono (e1.trans e2)).new hp)]; exact upd_same) (k.mono (hid_mono ((e1.trans e2).trans (Ex.new hp)))).rev (fun e he => hg e (List.mem_reverse.mp he)) (by rw [List.length_reverse]; exact Nat.le_refl _)⟩
/-- [.. for one in rows], each a good thing -/
theorem gl_comp {j : Nat} {vs : List Nat} (hz : Hd Z H) (h : Ev ta σ H (.ref a)) (hx : hid Z H a = some (.lst xs)) (k : DqAll (hid Z H) xs ds) (hn : ds.length ≤ 40) (hw : ∀ x, wipe ((wipe σ vs).set j (some x)) vs = wipe σ vs)
    (he : ∀ (x : V) (t : PyData) (Dl : Addr) H1, Ex H H1 → Dq (hid Z H1) x t → t ∈ ds → Hd (Dl :: Z) H1 → ∀ Q : VK, (∀ y e H2, Ex H1 H2 → Dq (hid (Dl :: Z) H2) y e → Gd e → Q y H2) → te ((wipe σ vs).set j (some x)) H1 Q) :
    EvGl Z (tLc (iList K ta) (gName j) tYes te vs) σ H ds.length := fun H0 e0 Q q => h H0 e0 _ fun H1 e1 => ⟨a, rfl, ⟨xs, sq_of (hid_ex _ _ (hid_mono (e0.trans e1) _ _ hx))⟩, fun Dl hD => by
  have x1 := e0.trans e1
  have z1 := hz.mono x1
  have hl : xs.length = ds.length := k.len
  refine lc_list (xs := xs) (fun i H' => H1 Dl = none ∧ Ex H1 H' ∧ ∃ ys es, H' Dl = some (.lst ys) ∧ DqAll (hid (Dl :: Z) H') ys es ∧ es.length = i ∧ ∀ e ∈ es, Gd e) ⟨hD, Ex.new hD, [], [], upd_same, .nil, rfl, fun e he => nomatch he⟩ (fun i H' _ p => sq_of (p.2.1 a _ (hid_ex _ _ (hid_mono x1 _ _ hx)))) (fun i x H' hi p => ?_) (fun H' p => ?_)
  · obtain ⟨pD, pe, ys, es, p1, p2, p3, p4⟩ := p
    obtain ⟨t, hti, hxt⟩ := (k.mono (hid_mono x1)).get hi
    have hm := List.mem_of_getElem? hti
    refine ⟨hw x, lc_yes H' (Ex.refl H') _ fun H3 e3 => ?_⟩
    rw [if_pos rfl]
    have hd3 : Hd (Dl :: Z) H3 := fun b hb => by
      rcases List.mem_cons.mp hb with z | z
      · rw [z]; exact ⟨_, e3 _ _ p1⟩
      · exact (z1.mono (pe.trans e3)) b z
    refine he x t Dl H3 (x1.trans (pe.trans e3)) (hxt.mono (hid_mono (pe.trans e3))) hm hd3 _ fun y e H4 e4 g1 g2 => ⟨ys, e4 _ _ (e3 _ _ p1), sz_lt (by have := p2.len; have := (List.getElem?_eq_some_iff.mp hi).1; omega), pD, ?_, ys ++ [y], es ++ [e], upd_same, ?_, by rw [List.length_append, p3]; rfl, fun e' he' => ?_⟩
    · exact ((pe.trans e3).trans e4).mut pD
    · have xx : Ex (hid (Dl :: Z) H4) (hid (Dl :: Z) (upd H4 Dl (.lst (ys ++ [y])))) := hid_updE (by simp)
      exact ((p2.mono (hid_mono (e3.trans e4))).mono xx).app (.cons (g1.mono xx) .nil)
    · rcases List.mem_append.mp he' with z | z
      · exact p4 e' z
      · rw [List.mem_singleton.mp z]; exact g2
  · obtain ⟨pD, pe, ys, es, p1, p2, p3, p4⟩ := p
    have hnz : Dl ∉ Z := z1.new pD
    exact q Dl ys es H' (e1.trans pe) (by rw [hid_off hnz]; exact p1) (p2.mono (hid_fit fun b hb => List.mem_cons_of_mem _ hb)) p4 (by omega)⟩
end
end K43
end
section
set_option maxHeartbeats 4000000
namespace K43
open PySem L2 Evl G OW
theorem rgn {p so : Addr} {H H2 : Hp} {Z : List Addr} (r : Rg p H H2) (hpz : p ∈ Z) (hs : H so = none) : Ex (hid Z H) (hid (so :: Z) H2) := fun b o h => by
  by_cases hb : b ∈ Z
  · rw [hid_at hb] at h; cases h
  · rw [hid_off hb] at h
    have hne : b ≠ so := fun z => by rw [z, hs] at h; cases h
    have hbp : b ≠ p := fun z => hb (by rw [z]; exact hpz)
    rw [hid_off (by simp [hb, hne])]
    exact r.x b o (by rw [wo_ne hbp]; exact h)
/-- the list that grows -/
structure Grow (p so : Addr) (Z : List Addr) (H0 : Hp) (N : Nat) (H : Hp) : Prop where
  r : Rg p H0 H
  s : ∃ vs ds, H so = some (.lst vs) ∧ DqAll (hid (so :: Z) H) vs ds ∧ (∀ e ∈ ds, Tm e) ∧ 0 < ds.length ∧ ds.length ≤ N
theorem Grow.hd {p so : Addr} {Z : List Addr} {H0 H : Hp} {N : Nat} (g : Grow p so Z H0 N H) (hz : Hd Z H0) : Hd (so :: Z) H := fun b hb => by
  rcases List.mem_cons.mp hb with z | z
  · obtain ⟨vs, _, h, _⟩ := g.s
    exact ⟨_, by rw [z]; exact h⟩
  · exact g.r.hz hz b z
theorem Grow.step {p so : Addr} {Z : List Addr} {H0 H H2 : Hp} {N : Nat} (g : Grow p so Z H0 N H) (hz : Hd Z H0) (hpz : p ∈ Z) (hso : H0 so = none) (r : Rg p H H2) : Grow p so Z H0 N H2 := by
  obtain ⟨vs, ds, h1, h2, h3, h4⟩ := g.s
  have hne : so ≠ p := fun z => by obtain ⟨o, ho⟩ := hz p hpz; rw [← z, hso] at ho; cases ho
  exact ⟨g.r.tr r, vs, ds, r.x _ _ (by rw [wo_ne hne]; exact h1), h2.mono (r.ex (List.mem_cons_of_mem _ hpz)), h3, h4⟩
section
variable {K : PySem.W.Frag} {σ : L2.St} {H H0 : Hp} {te ta tb : TE} {tA : TA} {p so rw' : Addr} {Z : List Addr} {xs : List V} {ds es : List PyData} {D : Ends} {m n N : Nat} {Q : VK} {E : XK} {i : Nat}
theorem app_k {sp : Nat} (hz : Hd Z H0) (hpz : p ∈ Z) (hso : H0 so = none) (g : Grow p so Z H0 N H) (hN : N ≤ 100) (hx : hid Z H0 rw' = some (.lst xs)) (kx : DqAll (hid Z H0) xs es) (hg : ∀ e ∈ es, Gd e) (hl : es.length ≤ 10)
    (v6 : σ[6]? = some (some (.ref so))) (v3 : σ[3]? = some (some (.ref rw'))) (v4 : σ[4]? = some (some (.int (sp : Int))))
    (hX : ∀ H1, Rg p H H1 → ∀ Q' : VK, (∀ v e H2, Rg p H1 H2 → Dq (hid (so :: Z) H2) v e → Gd e → Q' v H2) → te σ H1 Q') (k : ∀ H2, Grow p so Z H0 (N + 1) H2 → D.nx σ H2) :
    tDrop (tBM K "list" rAppend (tVar 6) (tCons (tOp rCat (tOp rCat (tSl (rSlL K) (tVar 3) tNoPart (tPart (tVar 4))) (tLst (tCons te tNil))) (tSl (rSlL K) (tVar 3) (tPart (tOp (rI0 fun i j => V.int (i + j)) (tVar 4) (tC (.int 1)))) tNoPart)) tNil)) D σ H := by
  have hpz' : p ∈ so :: Z := List.mem_cons_of_mem _ hpz
  refine drop_k (bm_k (v_k (v := .ref so) (ev_var v6) fun H1 e1 => ?_))
  have r1 := (Rg.rfl g.r.hp).mono e1
  have g1 := g.step hz hpz hso r1
  refine ⟨Or.inl ⟨rfl, _, sq_of g1.s.choose_spec.choose_spec.1⟩, ac_k (op_k (op_k ?_))⟩
  have x1 := rgn g1.r hpz hso
  refine gl_sl (K := K) (Z := so :: Z) (g1.hd hz) (ev_var v3) (x1 _ _ hx) (kx.mono x1) hg eo_none (eo_some (ev_var v4)) H1 (Ex.refl H1) _ fun a1 vs1 ds1 H2 e2 a2 a3 a4 a5 => ?_
  have r2 := r1.mono e2
  refine lst_k (ac_k (hX H2 r2 _ fun v e H3 r3 b1 b2 => ac_nil ⟨sz_of (by show 1 ≤ 100000; decide), fun q hq => ?_⟩))
  have r23 := r3.mono (Ex.new (o := .lst [v]) hq)
  have g3 := g.step hz hpz hso (r2.tr r23)
  have z3 := g3.hd hz
  have qz : q ∉ so :: Z := ((g.step hz hpz hso (r2.tr r3)).hd hz).new hq
  have aq : hid (so :: Z) (upd H3 q (.lst [v])) a1 = some (.lst vs1) := r23.ex hpz' _ _ a2
  have hl1 : vs1.length ≤ 10 := by rw [a3.len]; omega
  refine ⟨a1, q, vs1, [v], rfl, rfl, hid_ex _ _ aq, upd_same, sz_of (by show vs1.length + 1 ≤ 100000; omega), fun c hc => ?_⟩
  have r4 := (r2.tr r23).mono (Ex.new (o := .lst (vs1 ++ [v])) hc)
  have g4 := g.step hz hpz hso r4
  have cz : c ∉ so :: Z := z3.new hc
  have x4 := rgn g4.r hpz hso
  have mid : DqAll (hid (so :: Z) (upd (upd H3 q (.lst [v])) c (.lst (vs1 ++ [v])))) (vs1 ++ [v]) (ds1 ++ [e]) := ((a3.mono (r23.ex hpz')).mono (hid_mono (Ex.new hc))).app (.cons ((b1.mono (hid_mono (Ex.new hq))).mono (hid_mono (Ex.new hc))) .nil)
  refine gl_sl (K := K) (Z := so :: Z) (lo := some ((sp : Int) + 1)) (hi := none) (g4.hd hz) (ev_var v3) (x4 _ _ hx) (kx.mono x4) hg (eo_some (ev_op (ev_var v4) ev_c rv_I0)) eo_none _ (Ex.refl _) _ fun a6 vs6 ds6 H6 e6 c2 c3 c4 c5 => ?_
  have r6 := r4.mono e6
  have hl6 : vs6.length ≤ 10 := by rw [c3.len]; omega
  have cc : hid (so :: Z) H6 c = some (.lst (vs1 ++ [v])) := hid_mono e6 _ _ (by rw [hid_off cz]; exact upd_same)
  refine ⟨c, a6, vs1 ++ [v], vs6, rfl, rfl, hid_ex _ _ cc, hid_ex _ _ c2, sz_of (by rw [List.length_append]; show vs1.length + 1 + vs6.length ≤ 100000; omega), fun d hd => ac_nil ?_⟩
  have r7 := r6.mono (Ex.new (o := .lst ((vs1 ++ [v]) ++ vs6)) hd)
  have g7 := g.step hz hpz hso r7
  obtain ⟨us, dss, s1, s2, s3, s4, s5⟩ := g7.s
  have dz : d ∉ so :: Z := ((g.step hz hpz hso r6).hd hz).new hd
  have whole : DqAll (hid (so :: Z) (upd H6 d (.lst ((vs1 ++ [v]) ++ vs6)))) ((vs1 ++ [v]) ++ vs6) ((ds1 ++ [e]) ++ ds6) := ((mid.mono (hid_mono e6)).app c3).mono (hid_mono (Ex.new hd))
  have hge : ∀ t ∈ (ds1 ++ [e]) ++ ds6, Gd t := fun t ht => by
    rcases List.mem_append.mp ht with z | z
    · rcases List.mem_append.mp z with z | z
      · exact a4 t z
      · rw [List.mem_singleton.mp z]; exact b2
    · exact c4 t z
  refine ⟨so, us, .ref d, rfl, rfl, s1, sz_lt (by rw [s2.len]; omega), k _ ⟨⟨fun b o hb => ?_, ?_⟩, us ++ [.ref d], dss ++ [.list ((ds1 ++ [e]) ++ ds6)], upd_same, ?_, fun t ht => ?_, by rw [List.length_append]; omega, by rw [List.length_append]; show dss.length + 1 ≤ N + 1; omega⟩⟩
  · have hne : b ≠ so := fun z => by
      by_cases q : b = p
      · rw [q, wo_at] at hb; cases hb
      · rw [wo_ne q, z, hso] at hb; cases hb
    rw [upd_ne hne]; exact g7.r.x b o hb
  · obtain ⟨a, b, q1, q2⟩ := g7.r.hp
    have hne : p ≠ so := fun z => by obtain ⟨o, ho⟩ := hz p hpz; rw [z, hso] at ho; cases ho
    exact ⟨a, b, q1, by rw [upd_ne hne]; exact q2⟩
  · have x : Ex (hid (so :: Z) (upd H6 d (.lst ((vs1 ++ [v]) ++ vs6)))) (hid (so :: Z) (upd (upd H6 d (.lst ((vs1 ++ [v]) ++ vs6))) so (.lst (us ++ [.ref d])))) := hid_updE (by simp)
    refine (s2.mono x).app (.cons (.lst (x _ _ ?_) (whole.mono x)) .nil)
    rw [hid_off dz]; exact upd_same
  · rcases List.mem_append.mp ht with z | z
    · exact s3 t z
    · rw [List.mem_singleton.mp z]
      refine .lst hge ?_
      rw [List.length_append, List.length_append]
      show ds1.length + 1 + ds6.length ≤ 40
      omega
/-- pick(pot, [..] + some) -/
theorem pick_odd (hp : PotAt H p) (hpz : p ∈ Z) (hz : Hd Z H) (hv : σ[i]? = some (some (.ref p))) (h1 : EvAG Gd Z tA σ H n) (h2 : EvGl Z tb σ H m) (h0 : 0 < n) (hl : n + m ≤ 1000) (k : ∀ v e H2, Rg p H H2 → Dq (hid Z H2) v e → Gd e → Q v H2) :
    tCall (sp_pick K) [] E (tCons (tVar i) (tCons (tOp rCat (tLst tA) tb) tNil)) σ H Q := ⟨.ref p, hv, op_k (lst_k (h1 H (Ex.refl H) _ fun vs ds H1 e1 a1 a2 a3 => ⟨sz_of (by rw [a1.len]; omega), fun a ha => by
  have e1' := e1.trans (Ex.new (o := .lst vs) ha)
  refine h2 _ e1' _ fun b us es H2 e2 b1 b2 b3 b4 => ?_
  have e12 := e1'.trans e2
  have haz : a ∉ Z := (hz.mono e1).new ha
  refine ⟨a, b, vs, us, rfl, rfl, e2 _ _ upd_same, hid_ex _ _ b1, sz_of (by rw [a1.len, b2.len]; omega), fun c hc => ?_⟩
  have e3 := e12.trans (Ex.new (o := .lst (vs ++ us)) hc)
  have hp3 := hp.mono e3
  have cz : c ∉ Z := (hz.mono e12).new hc
  have cp : c ≠ p := fun z => cz (by rw [z]; exact hpz)
  have kk : DqAll (hid Z (upd H2 c (.lst (vs ++ us)))) (vs ++ us) (ds ++ es) := ((a1.mono ((hid_mono (Ex.new ha)).trans (hid_mono e2))).app b2).mono (hid_mono (Ex.new hc))
  refine ⟨p, c, vs ++ us, rfl, hp3, sq_of (by rw [wo_ne cp]; exact upd_same), by rw [List.length_append, a1.len]; omega, by rw [List.length_append, a1.len, b2.len]; omega, fun m v H4 hm e4 h4 => ?_⟩
  obtain ⟨d, hd, hq⟩ := kk.get hm
  refine k v d H4 (((Rg.rfl hp).mono e3).step e4 h4) (hq.mono (hid_sub hpz e4)) ?_
  rcases List.mem_append.mp (List.mem_of_getElem? hd) with z | z
  · exact a2 d z
  · exact b3 d z⟩))⟩
/-- x in [0, 1] -/
theorem ev_in01 {x : Int} (h : Ev ta σ H (.int x)) : Ev (tOp (rIn K false) ta (tLst (tCons (tC (.int 0)) (tCons (tC (.int 1)) tNil)))) σ H (.bl (inV (.int x) [.int 0, .int 1])) := fun H1 e1 Q q =>
  h H1 e1 _ fun H2 e2 => ⟨sz_of (by show 2 ≤ 100000; decide), fun p hp => ⟨p, [.int 0, .int 1], rfl, .inl (sq_of upd_same), rfl, rfl, q _ (e2.trans (Ex.new hp))⟩⟩
end
end K43
end
section
set_option maxHeartbeats 4000000
namespace K43
open PySem L2 Evl G OW
theorem Gd.non : Gd .none := ⟨rfl, by simp [dep], by simp [nod], by simp [PyData.hasDict]⟩
theorem Gd.zero : Gd (.str (Str.ofString "0")) := ⟨rfl, by simp [dep], by simp [nod], by simp [PyData.hasDict]⟩
theorem Gd.tm {e : PyData} (h : Gd e) : Tm e := ⟨h.f, by have := h.dp; omega, by have := h.n; omega, .inl h.w, by have := h.n; have := items_le e; omega, fun t ht => by
  have h1 := h.n
  have : nod t ≤ 1000 := by
    cases e with
    | list ds => rw [nod] at h1; have := nods_mem (show t ∈ ds from ht); omega
    | tuple ds => rw [nod] at h1; have := nods_mem (show t ∈ ds from ht); omega
    | _ => cases ht
  have := items_le t
  omega⟩
theorem Tm.empty : Tm (.str (Str.ofString "")) := Gd.tm ⟨rfl, by simp [dep], by simp [nod], by simp [PyData.hasDict]⟩
theorem listK {X : Cx} {K : PySem.W.Frag} (hK : X.K = K) : CallR X (.type "list") (fun xs H Q => ∃ p ys, xs = [.ref p] ∧ (SqL K H p ys ∨ SqT K H p ys) ∧ ∀ l, H l = none → Q (.ref l) (upd H l (.lst ys))) := hK ▸ call_list_of
noncomputable def One (Z : List Addr) (v : V) (H : Hp) : Prop := (∃ i : Int, v = .int i ∧ -BIG < i ∧ i < BIG) ∨ ∃ (x : B) (a : Addr), v = .ref a ∧ (x.a ≤ 100 ∧ x.b ≤ 100 ∧ -BIG < x.m ∧ x.m < BIG) ∧ hid Z H a = some (.tup [.int (x.a : Int), .int (x.b : Int), .int x.m])
section
variable {K : PySem.W.Frag} {σ : L2.St} {H H0 : Hp} {te ta tb : TE} {tA : TA} {p so rw' : Addr} {Z : List Addr} {xs : List V} {ds es : List PyData} {D : Ends} {m n N : Nat} {Q : VK} {E : XK} {i : Nat}
theorem one_k {sp : Nat} {Hb : Hp} (eb : Ex Hb H) (v3 : σ[3]? = some (some (.ref rw'))) (v4 : σ[4]? = some (some (.int (sp : Int)))) (hx : hid Z H rw' = some (.lst xs)) (kx : DqAll (hid Z Hb) xs es) (ho : RowOk es) (hsp : es ≠ [] → sp < es.length) (k : ∀ v H2, Ex H H2 → One Z v Hb → Q v H2) :
    tIf (tTest (tOp (rNeD K) (tVar 3) (tLst tNil))) (tOp (rIxL K) (tVar 3) (tVar 4)) (tC (.int 0)) σ H Q := by
  refine et_test (evd_neD (K := K) (d := .list es) (e := .list []) (fun H1 e1 Q q => ⟨.ref rw', v3, q _ _ (Ex.refl _) (dq_dp _ (by simp [PyData.canLay0, ho.lay]) (.lst (hid_ex _ _ (hid_mono e1 _ _ hx)) ((kx.mono (hid_mono (eb.trans e1))).mono hid_ex)))⟩) (fun H1 e1 Q q => ⟨sz_of (by show 0 ≤ 100000; decide), fun p hp => q _ _ (Ex.new hp) (.lst (sq_of upd_same) .nil)⟩) ho.sh (by rfl)) H (Ex.refl H) _ fun H1 e1 => ?_
  rw [eqv_nilL]
  cases he : es with
  | nil => exact k _ H1 e1 (.inl ⟨0, rfl, by decide, by decide⟩)
  | cons e0 es' =>
    have hs := hsp (by rw [he]; exact List.cons_ne_nil _ _)
    have hl := kx.len
    show tOp (rIxL K) (tVar 3) (tVar 4) σ H1 Q
    have hlt : sp < xs.length := by omega
    obtain ⟨d, hd, hq⟩ := kx.get (List.getElem?_eq_getElem hlt)
    refine ev_op (ev_var v3) (ev_var v4) (rv_ixL (sq_of (hid_ex _ _ (hid_mono e1 _ _ hx))) (atI_nat (List.getElem?_eq_getElem hlt))) H1 (Ex.refl H1) _ fun H2 e2 => k _ H2 (e1.trans e2) ?_
    have hm := List.mem_of_getElem? hd
    have hq2 := hq
    rcases ho with ⟨ns, rfl, h⟩ | ⟨r, rfl, h⟩
    · obtain ⟨y, hy, rfl⟩ := List.mem_map.mp hm
      have := h y hy
      generalize xs[sp] = v at hq2 ⊢
      cases hq2
      exact .inl ⟨y, rfl, this⟩
    · obtain ⟨y, hy, rfl⟩ := List.mem_map.mp hm
      obtain ⟨t, h1, h2⟩ := bd_at hq2
      exact .inr ⟨y, t, h1, h y hy, h2⟩
/-- [list(one) if isinstance(one, tuple) else one for one in rows] -/
theorem row_thaw (hz : Hd Z H) (h : Ev ta σ H (.ref rw')) (hx : hid Z H rw' = some (.lst xs)) (kx : DqAll (hid Z H) xs es) (ho : RowOk es) (hn : es.length ≤ 40) {vs : List Nat} {j : Nat} (hj : ∀ x, (wipe σ vs).set j (some x) = (wipe σ vs).set j (some x) → ((wipe σ vs).set j (some x))[j]? = some (some x)) (hw : ∀ x, wipe ((wipe σ vs).set j (some x)) vs = wipe σ vs) :
    EvGl Z (tLc (iList K ta) (gName j) tYes (tIf (tTest (tCB (rIsi K) (tCons (tVar j) (tCons (tC (.ty "tuple")) tNil)))) (tCB (fun xs H Q => ∃ p ys, xs = [.ref p] ∧ (SqL K H p ys ∨ SqT K H p ys) ∧ ∀ l, H l = none → Q (.ref l) (upd H l (.lst ys))) (tCons (tVar j) tNil)) (tVar j)) vs) σ H es.length :=
  gl_comp hz h hx kx hn hw fun x t Dl H1 e1 hq ht hdd Q q => by
    have hv := hj x rfl
    refine et_test (ev_isiD (K := K) (ev_var hv) (hq.mono hid_ex) (kit_tup t)) H1 (Ex.refl H1) _ fun H2 e2 => ?_
    rcases ho with ⟨ns, rfl, h⟩ | ⟨r, rfl, h⟩
    · obtain ⟨y, hy, rfl⟩ := List.mem_map.mp ht
      rw [if_neg (by show ¬ false = true; decide)]
      have := h y hy
      cases hq
      exact ⟨_, hv, q _ (.int y) H2 e2 (.int y) (.int (by omega))⟩
    · obtain ⟨y, hy, rfl⟩ := List.mem_map.mp ht
      rw [if_pos (by rfl)]
      obtain ⟨a, rfl, h2⟩ := bd_at hq
      have h3 := hid_ex _ _ (hid_mono e2 _ _ h2)
      refine ⟨_, hv, a, _, rfl, .inr (st_of h3), fun l hl => q _ (.list [.int (y.a : Int), .int (y.b : Int), .int y.m]) _ (e2.trans (Ex.new hl)) (.lst (by rw [hid_off ((hdd.mono e2).new hl)]; exact upd_same) (.cons (.int _) (.cons (.int _) (.cons (.int _) .nil)))) ?_⟩
      have hb := h y hy
      exact (Gd.tup (ds := [.int (y.a : Int), .int (y.b : Int), .int y.m]) (fun e he => by
        simp only [List.mem_cons, List.not_mem_nil, or_false] at he
        rcases he with e1 | e1 | e1 <;> subst e1
        · exact ⟨_, .inl ⟨rfl, by unfold BIG; omega, by unfold BIG; omega⟩⟩
        · exact ⟨_, .inl ⟨rfl, by unfold BIG; omega, by unfold BIG; omega⟩⟩
        · exact ⟨_, .inl ⟨rfl, by omega, by omega⟩⟩) (by show 3 ≤ 5; decide)).2
/-- one + pick(pot, [-1, 1]) -/
theorem x_bump {y : Int} (hpz : p ∈ Z) (hv : σ[0]? = some (some (.ref p))) (v7 : σ[7]? = some (some (.int y))) (hy : -BIG < y ∧ y < BIG) (hp : PotAt H p) (Q' : VK) (q : ∀ v e H2, Rg p H H2 → Dq (hid Z H2) v e → Gd e → Q' v H2) :
    tOp (rI0 fun i j => V.int (i + j)) (tVar 7) (tCall (sp_pick K) [] E (tCons (tVar 0) (tCons (tLst (tCons (tUn (rU fun i => .int (-i)) (tC (.int 1))) (tCons (tC (.int 1)) tNil))) tNil))) σ H Q' := by
  refine op_k (v_k (ev_var v7) fun H1 e1 => pickC (K := K) (hp.mono e1) hv (ea_cons (ev_un ev_c ru_neg) (ea_cons ev_c ea_nil)) (by decide) (by decide) fun j v H2 hj e2 hp2 => ?_)
  have r : Rg p H H2 := ((Rg.rfl hp).mono e1).step e2 hp2
  have hm := List.mem_of_getElem? hj
  simp only [List.mem_cons, List.not_mem_nil, or_false] at hm
  rcases hm with z | z
  · subst z
    exact ⟨y, -1, rfl, rfl, q _ (.int (y + -1)) H2 r (.int _) (.int (by omega))⟩
  · subst z
    exact ⟨y, 1, rfl, rfl, q _ (.int (y + 1)) H2 r (.int _) (.int (by omega))⟩
/-- one == 1 if one in [0, 1] else one -/
theorem x_flip {y : Int} (v7 : σ[7]? = some (some (.int y))) (hy : -BIG < y ∧ y < BIG) (hp : PotAt H p) (Q' : VK) (q : ∀ v e H2, Rg p H H2 → Dq (hid Z H2) v e → Gd e → Q' v H2) :
    tIf (tTest (tOp (rIn K false) (tVar 7) (tLst (tCons (tC (.int 0)) (tCons (tC (.int 1)) tNil))))) (tOp rEq (tVar 7) (tC (.int 1))) (tVar 7) σ H Q' := by
  refine et_test (ev_in01 (K := K) (ev_var v7)) H (Ex.refl H) _ fun H1 e1 => ?_
  have r : Rg p H H1 := (Rg.rfl hp).mono e1
  split
  · exact ev_op (ev_var v7) ev_c (rv_eq rfl) H1 (Ex.refl H1) _ fun H2 e2 => q _ (.bool _) H2 (r.mono e2) (.bl _) (.bool _)
  · exact ⟨_, v7, q _ (.int y) H1 r (.int _) (.int (by omega))⟩
/-- one[:2] + (one[2] - 1,) -/
theorem x_less {x : B} {a : Addr} (hz : Hd Z H) (v7 : σ[7]? = some (some (.ref a))) (ha : hid Z H a = some (.tup [.int (x.a : Int), .int (x.b : Int), .int x.m])) (hx : x.a ≤ 100 ∧ x.b ≤ 100 ∧ -BIG < x.m ∧ x.m < BIG) (hp : PotAt H p) (Q' : VK) (q : ∀ v e H2, Rg p H H2 → Dq (hid Z H2) v e → Gd e → Q' v H2) :
    tOp (rCatA K) (tSl (rSlA K) (tVar 7) tNoPart (tPart (tC (.int 2)))) (tTup (tCons (tOp (rI0 fun i j => V.int (i - j)) (tOp (rIxT K) (tVar 7) (tC (.int 2))) (tC (.int 1))) tNil)) σ H Q' := by
  have h1 := hid_ex _ _ ha
  refine op_k (u_k (eu_take (K := K) (k := 2) (ev_var v7) ev_c h1 (by show 2 < 3; decide)) hz fun q1 H2 e2 h2 => u_k (eu_tup (ea_cons (ev_op (ev_at2 (K := K) (ev_var v7) (e2 _ _ h1)) ev_c rv_I0) ea_nil) (by show 1 ≤ 100000; decide)) (hz.mono e2) fun q2 H3 e3 h3 => cat_k (hz.mono (e2.trans e3)) (hid_mono e3 _ _ h2) h3 (by show 3 ≤ 100000; decide) fun q3 H4 e4 h4 => ?_)
  refine q _ (.tuple [.int (x.a : Int), .int (x.b : Int), .int (x.m - 1)]) H4 (((Rg.rfl hp).mono e2).mono (e3.trans e4)) (.tup h4 (.cons (.int _) (.cons (.int _) (.cons (.int _) .nil)))) (Gd.tup (fun e he => ?_) (by show 3 ≤ 5; decide)).1
  simp only [List.mem_cons, List.not_mem_nil, or_false] at he
  rcases he with e1 | e1 | e1 <;> subst e1
  · exact ⟨_, .inl ⟨rfl, by unfold BIG; omega, by unfold BIG; omega⟩⟩
  · exact ⟨_, .inl ⟨rfl, by unfold BIG; omega, by unfold BIG; omega⟩⟩
  · exact ⟨_, .inl ⟨rfl, by omega, by omega⟩⟩
/-- (one[0] == 1 if one[0] < 2 else one[0],) + one[1:] -/
theorem x_bool {x : B} {a : Addr} (hz : Hd Z H) (v7 : σ[7]? = some (some (.ref a))) (ha : hid Z H a = some (.tup [.int (x.a : Int), .int (x.b : Int), .int x.m])) (hx : x.a ≤ 100 ∧ x.b ≤ 100 ∧ -BIG < x.m ∧ x.m < BIG) (hp : PotAt H p) (Q' : VK) (q : ∀ v e H2, Rg p H H2 → Dq (hid Z H2) v e → Gd e → Q' v H2) :
    tOp (rCatA K) (tTup (tCons (tIf (tTest (tOp (rI0 fun i j => V.bl (decide (i < j))) (tOp (rIxT K) (tVar 7) (tC (.int 0))) (tC (.int 2)))) (tOp rEq (tOp (rIxT K) (tVar 7) (tC (.int 0))) (tC (.int 1))) (tOp (rIxT K) (tVar 7) (tC (.int 0)))) tNil)) (tSl (rSlA K) (tVar 7) (tPart (tC (.int 1))) tNoPart) σ H Q' := by
  have h1 := hid_ex _ _ ha
  have key : ∃ (v : V) (e : PyData), (∀ H1, Ex H H1 → Dq H1 v e) ∧ (∀ Y H1, Dq (hid Y H1) v e) ∧ (∃ i, e = .int i ∧ -BIG ≤ i ∧ i ≤ BIG ∨ ∃ b, e = .bool b) ∧ Ev (tIf (tTest (tOp (rI0 fun i j => V.bl (decide (i < j))) (tOp (rIxT K) (tVar 7) (tC (.int 0))) (tC (.int 2)))) (tOp rEq (tOp (rIxT K) (tVar 7) (tC (.int 0))) (tC (.int 1))) (tOp (rIxT K) (tVar 7) (tC (.int 0)))) σ H v := by
    by_cases hb : (x.a : Int) < 2
    · refine ⟨.bl (decide (V.int (x.a : Int) = V.int 1)), .bool _, fun _ _ => .bl _, fun _ _ => .bl _, ⟨0, .inr ⟨_, rfl⟩⟩, fun H1 e1 Q q => ?_⟩
      refine et_test (ev_op (ev_at0 (K := K) (ev_var v7) h1) ev_c rv_I0) H1 e1 _ fun H2 e2 => ?_
      rw [if_pos (decide_eq_true hb)]
      exact ev_op (ev_at0 (K := K) (ev_var v7) h1) ev_c (rv_eq rfl) H2 (e1.trans e2) _ fun H3 e3 => q H3 (e2.trans e3)
    · refine ⟨.int (x.a : Int), .int _, fun _ _ => .int _, fun _ _ => .int _, ⟨_, .inl ⟨rfl, by unfold BIG; omega, by unfold BIG; omega⟩⟩, fun H1 e1 Q q => ?_⟩
      refine et_test (ev_op (ev_at0 (K := K) (ev_var v7) h1) ev_c rv_I0) H1 e1 _ fun H2 e2 => ?_
      rw [if_neg (by rw [decide_eq_true_iff]; exact hb)]
      exact ev_at0 (K := K) (ev_var v7) h1 H2 (e1.trans e2) _ fun H3 e3 => q H3 (e2.trans e3)
  obtain ⟨v, e, -, d2, hg, hev⟩ := key
  refine op_k (u_k (eu_tup (ea_cons hev ea_nil) (by show 1 ≤ 100000; decide)) hz fun q1 H2 e2 h2 => u_k (eu_drop (K := K) (k := 0) (ev_var v7) ev_c (e2 _ _ h1) (by show 0 < 3; decide)) (hz.mono e2) fun q2 H3 e3 h3 => cat_k (hz.mono (e2.trans e3)) (hid_mono e3 _ _ h2) h3 (by show 3 ≤ 100000; decide) fun q3 H4 e4 h4 => ?_)
  refine q _ (.tuple [e, .int (x.b : Int), .int x.m]) H4 (((Rg.rfl hp).mono e2).mono (e3.trans e4)) (.tup h4 (.cons (d2 _ _) (.cons (.int _) (.cons (.int _) .nil)))) (Gd.tup (fun e he => ?_) (by show 3 ≤ 5; decide)).1
  simp only [List.mem_cons, List.not_mem_nil, or_false] at he
  rcases he with e1 | e1 | e1 <;> subst e1
  · exact hg
  · exact ⟨_, .inl ⟨rfl, by unfold BIG; omega, by unfold BIG; omega⟩⟩
  · exact ⟨_, .inl ⟨rfl, by omega, by omega⟩⟩
end
end K43
end
section
set_option maxHeartbeats 8000000
namespace K43
open PySem L2 Evl G OW
noncomputable def sp_bent : Sp := fun vs H Q _ => ∃ (p rv bv : Addr) (Z : List Addr) (xs us : List V) (es bs : List PyData), vs = [.ref p, .ref rv, .ref bv] ∧ PotAt H p ∧ p ∈ Z ∧ Hd Z H ∧ (hid Z H rv = some (.lst xs) ∧ DqAll (hid Z H) xs es ∧ RowOk es ∧ es.length ≤ 10) ∧ (hid Z H bv = some (.lst us) ∧ DqAll (hid Z H) us bs ∧ RowOk bs ∧ bs.length ≤ 10) ∧ ∀ v e H2, Rg p H H2 → Dq (hid Z H2) v e → Tm e → Q v H2
section
variable {P : Program} {w : World} {K : PySem.W.Frag} {mg : Str → Option Value} {base : Heap}
theorem ok_bent {f f1 f2 f3 : Addr} {fd fd1 fd2 fd3 : FuncData} (F : Fun K "_law_bent" "_law_bent" s__law_bent f fd) (T : Txt mg) (c__law_draw : Cal P w K mg base "_law_draw" f1 fd1 ["_law_pot_here", "_law_many"] 1 sp_draw) (c__law_pick : Cal P w K mg base "_law_pick" f2 fd2 ["_law_pot_here", "_law_some"] 2 (sp_pick K)) (c__law_is_int : Cal P w K mg base "_law_is_int" f3 fd3 ["_law_value"] 1 (sp_e isIntD)) : FnOk P w K mg base CX0 3 f fd ["_law_pot_here", "_law_value", "_law_bounds_here"] sp_bent := by
  refine F.ok sc__law_bent (fun vs H Q E h => ?_) (fun cdv A outer s H vs Q E hr h => ?_)
  · obtain ⟨p, rv, bv, Z, xs, us, es, bs, rfl, _⟩ := h
    rfl
  · obtain ⟨p, rv, bv, Z, xs, us, es, bs, rfl, hp, hpz, hz, ⟨hrv, kxs, hro, hle⟩, ⟨hbv, kus, hbo, hlb⟩, k⟩ := h
    refine ⟨_, (pss_cons (ps_par (i := 3) (j := 4) (by rfl) sc__law_bent.nd rfl rfl (by decide) rfl rfl (pa_cons (pe_callTy (listK (K := K) rfl) (by rfl) T.b_list (by decide +kernel) (pa_cons (pv 1) pa_nil)) (pa_cons (pe_call c__law_draw.ok (hr.mono (by decide)) (by rfl) c__law_draw.mgx c__law_draw.kp c__law_draw.bd .nil pass0 (pa_cons (pv 0) (pa_cons (pe_callB (call_max2 rfl) (by rfl) T.b_max (by decide +kernel) (pa_cons pe_int (pa_cons (pe_callB (lenS (K := K) rfl) (by rfl) T.b_len (by decide +kernel) (pa_cons (pv 1) pa_nil)) pa_nil))) pa_nil))) pa_nil)) (by rfl)) (pss_cons (ps_set (i := 5) sc__law_bent.nd rfl (Or.inl rfl) (pe_call c__law_pick.ok (hr.mono (by decide)) (by rfl) c__law_pick.mgx c__law_pick.kp c__law_pick.bd .nil pass0 (pa_cons (pv 0) (pa_cons (pe_op op_cat (pe_lst (pa_cons pe_non (pa_cons pe_bl (pa_cons pe_bl (pa_cons pe_int (pa_cons (pe_un un_neg pe_int) (pa_cons pe_int (pa_cons pe_str (pa_cons (pe_lst (pa_cons pe_int pa_nil)) (pa_cons (pe_tup (pa_cons pe_int (pa_cons pe_int (pa_cons (pe_un un_neg pe_int) pa_nil)))) (pa_cons (pe_tup (pa_cons pe_int (pa_cons pe_int pa_nil))) (pa_cons (pe_tup (pa_cons pe_int (pa_cons pe_int (pa_cons pe_int (pa_cons pe_int pa_nil))))) pa_nil)))))))))))) (pe_callTy (listK (K := K) rfl) (by rfl) T.b_list (by decide +kernel) (pa_cons (pv 2) pa_nil))) pa_nil)))) (pss_cons (ps_set (i := 6) sc__law_bent.nd rfl (Or.inl rfl) (pe_lst (pa_cons (pe_op op_cat (pe_op op_cat (pe_slice sl_list (pv 3) po_none (po_some (pv 4))) (pe_lst (pa_cons (pv 5) pa_nil))) (pe_slice sl_list (pv 3) (po_some (pe_op op_add (pv 4) pe_int)) po_none)) (pa_cons (pe_op op_cat (pe_slice sl_list (pv 3) po_none (po_some (pv 4))) (pe_slice sl_list (pv 3) (po_some (pe_op op_add (pv 4) pe_int)) po_none)) (pa_cons (pe_op op_cat (pv 3) (pe_lst (pa_cons (pv 5) pa_nil))) (pa_cons (pe_callTy call_tuple_of (by rfl) T.b_tuple (by decide +kernel) (pa_cons (pv 3) pa_nil)) (pa_cons (pe_op op_cat (pv 3) (pv 3)) pa_nil))))))) (pss_cons (ps_set (i := 6) sc__law_bent.nd rfl (Or.inl rfl) (pe_op op_cat (pv 6) (pe_lst (pa_cons (pe_op op_cat (pe_slice sl_list (pv 3) (po_some pe_int) po_none) (pe_slice sl_list (pv 3) po_none (po_some pe_int))) (pa_cons (pe_revL (pv 3)) (pa_cons pe_non (pa_cons pe_dnewK (pa_cons pe_str (pa_cons pe_int (pa_cons (pe_lc (own := [("_law_one", 7)]) (g := (gName 7)) (by rfl) sc__law_bent.nd (piL (K := K) rfl (pv 3)) (blkOk_by (own := [("_law_one", 7)]) (N := ["_law_pot_here", "_law_value", "_law_bounds_here", "_law_rows", "_law_spot", "_law_odd", "_law_some", "_law_one"]) (sc := defScope s__law_bent) (by decide +kernel)) (fun _ _ _ _ _ => (pg_name (i := 7) sc__law_bent.nd rfl (Or.inl rfl))) (fun _ _ _ _ _ => pts_nil) (fun _ _ _ _ _ => (pe_ifExp (pt_val (pe_callB (isiS (K := K) rfl) (by rfl) T.b_isinstance (by decide +kernel) (pa_cons (pv 7) (pa_cons (pe_bltn (v := .ty "tuple") (u := .type "tuple") (by rfl) T.b_tuple (by decide +kernel) rfl) pa_nil)))) (pe_callTy (listK (K := K) rfl) (by rfl) T.b_list (by decide +kernel) (pa_cons (pv 7) pa_nil)) (pv 7)))) pa_nil)))))))))) (pss_cons (ps_set (i := 7) sc__law_bent.nd rfl (Or.inl rfl) (pe_ifExp (pt_cmpR (neD (K := K) rfl hr.units) (pv 3) (pe_lst pa_nil) (nomark _)) (pe_ix (ixL (K := K) rfl) (pv 3) (pv 4) (fun _ _ => rfl)) pe_int)) (pss_cons (ps_if (pt_val (pe_call c__law_is_int.ok (hr.mono (by decide)) (by rfl) c__law_is_int.mgx c__law_is_int.kp c__law_is_int.bd .nil pass0 (pa_cons (pv 7) pa_nil))) (pss_cons (ps_expr (pe_bm PySem.F.plainAttrs_list PySem.F.slot_list_append PySem.F.type_list_append mt_append (pv 6) (pa_cons (pe_op op_cat (pe_op op_cat (pe_slice sl_list (pv 3) po_none (po_some (pv 4))) (pe_lst (pa_cons (pe_op op_add (pv 7) (pe_call c__law_pick.ok (hr.mono (by decide)) (by rfl) c__law_pick.mgx c__law_pick.kp c__law_pick.bd .nil pass0 (pa_cons (pv 0) (pa_cons (pe_lst (pa_cons (pe_un un_neg pe_int) (pa_cons pe_int pa_nil))) pa_nil)))) pa_nil))) (pe_slice sl_list (pv 3) (po_some (pe_op op_add (pv 4) pe_int)) po_none)) pa_nil))) (pss_one (ps_expr (pe_bm PySem.F.plainAttrs_list PySem.F.slot_list_append PySem.F.type_list_append mt_append (pv 6) (pa_cons (pe_op op_cat (pe_op op_cat (pe_slice sl_list (pv 3) po_none (po_some (pv 4))) (pe_lst (pa_cons (pe_ifExp (pt_cmpR (inS (K := K) rfl) (pv 7) (pe_lst (pa_cons pe_int (pa_cons pe_int pa_nil))) (by rfl)) (pe_cmpR op_eq (pv 7) pe_int (nomark _)) (pv 7)) pa_nil))) (pe_slice sl_list (pv 3) (po_some (pe_op op_add (pv 4) pe_int)) po_none)) pa_nil))))) (pss_one (ps_if (pt_val (pe_callB (isiS (K := K) rfl) (by rfl) T.b_isinstance (by decide +kernel) (pa_cons (pv 7) (pa_cons (pe_bltn (v := .ty "tuple") (u := .type "tuple") (by rfl) T.b_tuple (by decide +kernel) rfl) pa_nil)))) (pss_cons (ps_expr (pe_bm PySem.F.plainAttrs_list PySem.F.slot_list_append PySem.F.type_list_append mt_append (pv 6) (pa_cons (pe_op op_cat (pe_op op_cat (pe_slice sl_list (pv 3) po_none (po_some (pv 4))) (pe_lst (pa_cons (pe_op (catA (K := K) rfl) (pe_slice (slA (K := K) rfl) (pv 7) po_none (po_some pe_int)) (pe_tup (pa_cons (pe_op op_sub (pe_ix (ixT (K := K) rfl) (pv 7) pe_int (fun _ _ => rfl)) pe_int) pa_nil))) pa_nil))) (pe_slice sl_list (pv 3) (po_some (pe_op op_add (pv 4) pe_int)) po_none)) pa_nil))) (pss_one (ps_expr (pe_bm PySem.F.plainAttrs_list PySem.F.slot_list_append PySem.F.type_list_append mt_append (pv 6) (pa_cons (pe_op op_cat (pe_op op_cat (pe_slice sl_list (pv 3) po_none (po_some (pv 4))) (pe_lst (pa_cons (pe_op (catA (K := K) rfl) (pe_tup (pa_cons (pe_ifExp (pt_cmpR op_lt (pe_ix (ixT (K := K) rfl) (pv 7) pe_int (fun _ _ => rfl)) pe_int (nomark _)) (pe_cmpR op_eq (pe_ix (ixT (K := K) rfl) (pv 7) pe_int (fun _ _ => rfl)) pe_int (nomark _)) (pe_ix (ixT (K := K) rfl) (pv 7) pe_int (fun _ _ => rfl))) pa_nil)) (pe_slice (slA (K := K) rfl) (pv 7) (po_some pe_int) po_none)) pa_nil))) (pe_slice sl_list (pv 3) (po_some (pe_op op_add (pv 4) pe_int)) po_none)) pa_nil))))) pss_nil))) (pss_one (ps_ret (pe_call c__law_pick.ok (hr.mono (by decide)) (by rfl) c__law_pick.mgx c__law_pick.kp c__law_pick.bd .nil pass0 (pa_cons (pv 0) (pa_cons (pv 6) pa_nil))))))))))), ?_⟩
    have hxl := kxs.len
    refine par_k (ac_k (cb_k (ac_v (ev_var rfl) fun H1 e1 => ac_nil ⟨rv, xs, rfl, .inl (sq_of (hid_ex _ _ (hid_mono e1 _ _ hrv))), fun rw' hrw => ac_k ?_⟩)))
    have e1' := e1.trans (Ex.new (o := .lst xs) hrw)
    have rwz : rw' ∉ Z := (hz.mono e1).new hrw
    have hn : ∃ n : Int, n = (if (xs.length : Int) > 1 then (xs.length : Int) else 1) := ⟨_, rfl⟩
    obtain ⟨n, hn⟩ := hn
    have hn1 : 0 < n ∧ n < 1000 ∧ (xs ≠ [] → n = (xs.length : Int)) := by
      subst hn
      refine ⟨by split <;> omega, by split <;> omega, fun h => ?_⟩
      have : xs.length ≠ 0 := fun z => h (List.length_eq_zero_iff.mp z)
      split <;> omega
    refine drawC (hp.mono e1') rfl (n := n) (by rw [hn]; exact ev_cb (ea_cons ev_c (ea_cons (ev_cb (ea_cons (ev_var rfl) ea_nil) (rc_len (.inl (sq_of (hid_wo hpz _ _ (hid_mono e1' _ _ hrv)))) rfl)) ea_nil)) rc_max2) hn1.1 (by omega) fun spi H3 s0 s1 e2 hp3 => ac_nil ⟨_, _, rfl, ?_⟩
    obtain ⟨sp, rfl⟩ : ∃ sp : Nat, spi = (sp : Int) := ⟨spi.toNat, by omega⟩
    have r3 : Rg p H H3 := ((Rg.rfl hp).mono e1').step e2 hp3
    have hrw3 : hid Z H3 rw' = some (.lst xs) := hid_sub hpz e2 _ _ (by rw [hid_off rwz]; exact upd_same)
    have kx3 : DqAll (hid Z H3) xs es := kxs.mono (r3.ex hpz)
    have z3 := r3.hz hz
    refine asg_k (pick_odd (K := K) hp3 hpz z3 rfl (ag_cons (gd_v ev_c (fun _ => .non) .non) (ag_cons (gd_v ev_c (fun _ => .bl _) (.bool _)) (ag_cons (gd_v ev_c (fun _ => .bl _) (.bool _)) (ag_cons (gd_v ev_c (fun _ => .int _) (.int (by decide))) (ag_cons (gd_v (ev_un ev_c ru_neg) (fun _ => .int _) (.int (by decide))) (ag_cons (gd_v ev_c (fun _ => .int _) (.int (by decide))) (ag_cons (gd_v ev_c (fun _ => .str _) .zero)
      (ag_cons (gd_lst z3 (ag_cons (nb_int ev_c (by decide)) ag_nil) (by decide)) (ag_cons (gd_tup z3 (ag_cons (nb_int ev_c (by decide)) (ag_cons (nb_int ev_c (by decide)) (ag_cons (nb_int (ev_un ev_c ru_neg) (by decide)) ag_nil))) (by decide)) (ag_cons (gd_tup z3 (ag_cons (nb_int ev_c (by decide)) (ag_cons (nb_int ev_c (by decide)) ag_nil)) (by decide)) (ag_cons (gd_tup z3 (ag_cons (nb_int ev_c (by decide)) (ag_cons (nb_int ev_c (by decide)) (ag_cons (nb_int ev_c (by decide)) (ag_cons (nb_int ev_c (by decide)) ag_nil)))) (by decide)) ag_nil)))))))))))
      (gl_listOf z3 (ev_var rfl) (r3.ex hpz _ _ hbv) (kus.mono (r3.ex hpz)) hbo.gd) (by decide) (by omega) fun odd eo H4 r34 qo go => ?_)
    have r4 := r3.tr r34
    have z4 := r4.hz hz
    have hrw4 := r34.ex hpz _ _ hrw3
    have kx4 := kx3.mono (r34.ex hpz)
    have hgd := hro.gd
    refine asg_k (tl_lst z4 (ag_cons (gl_tm (gl_cat z4 (gl_cat z4 (gl_sl (K := K) z4 (ev_var rfl) hrw4 kx4 hgd eo_none (eo_some (ev_var rfl))) (gl_lst z4 (ag_cons (gd_ref (ev_var rfl) qo go) ag_nil) (by decide)) (by omega)) (gl_sl (K := K) z4 (ev_var rfl) hrw4 kx4 hgd (eo_some (ev_op (ev_var rfl) ev_c rv_I0)) eo_none) (by omega)) (by omega))
      (ag_cons (gl_tm (gl_cat z4 (gl_sl (K := K) z4 (ev_var rfl) hrw4 kx4 hgd eo_none (eo_some (ev_var rfl))) (gl_sl (K := K) z4 (ev_var rfl) hrw4 kx4 hgd (eo_some (ev_op (ev_var rfl) ev_c rv_I0)) eo_none) (by omega)) (by omega))
      (ag_cons (gl_tm (gl_cat z4 (gl_ref (ev_var rfl) hrw4 kx4 hgd) (gl_lst z4 (ag_cons (gd_ref (ev_var rfl) qo go) ag_nil) (by decide)) (by omega)) (by omega))
      (ag_cons (tm_tupOf (K := K) z4 (ev_var rfl) hrw4 kx4 hgd (by omega)) (ag_cons (gl_tm (gl_cat z4 (gl_ref (ev_var rfl) hrw4 kx4 hgd) (gl_ref (ev_var rfl) hrw4 kx4 hgd) (by omega)) (by omega)) ag_nil))))) (by decide) H4 (Ex.refl H4) _ fun s1 vs1 ds1 H5 hs1 e5 h5 nz1 k5 t5 l5 => ?_)
    have z5 := z4.mono e5
    have hrw5 := hid_mono e5 _ _ hrw4
    have kx5 := kx4.mono (hid_mono e5)
    refine asg_k (tl_cat (n := 7) z5 (ev_var rfl) (by rw [hid_off nz1]; exact h5) (k5.mono (hid_fit fun b hb => List.mem_cons_of_mem _ hb)) t5 (tl_lst z5 (ag_cons (gl_tm (gl_cat z5 (gl_sl (K := K) z5 (ev_var rfl) hrw5 kx5 hgd (eo_some ev_c) eo_none) (gl_sl (K := K) z5 (ev_var rfl) hrw5 kx5 hgd eo_none (eo_some ev_c)) (by omega)) (by omega))
      (ag_cons (gl_tm (gl_rev (K := K) z5 (ev_var rfl) hrw5 kx5 hgd) (by omega)) (ag_cons (tm_v ev_c (fun _ => .non) Gd.non.tm) (ag_cons (tm_dnew z5) (ag_cons (tm_v ev_c (fun _ => .str _) .empty) (ag_cons (tm_v ev_c (fun _ => .int _) (Gd.int (by decide)).tm) (ag_cons (gl_tm (row_thaw (K := K) z5 (ev_var rfl) hrw5 kx5 hro (by omega) (fun _ _ => rfl) (fun _ => rfl)) (by omega)) ag_nil))))))) (by decide)) (by omega) H5 (Ex.refl H5) _ fun s2 vs2 ds2 H6 hs2 e6 h6 nz2 k6 t6 l6 => ?_)
    have z6 := z5.mono e6
    have hrw6 := hid_mono e6 _ _ hrw5
    have kx6 := kx5.mono (hid_mono e6)
    have r5 : Rg p H H5 := r4.mono e5
    have g6 : Grow p s2 Z H5 12 H6 := ⟨(Rg.rfl r5.hp).mono e6, vs2, ds2, h6, k6, t6, by omega, by omega⟩
    refine asg_k (one_k (K := K) (es := es) (sp := sp) e6 rfl rfl hrw6 kx5 hro (fun h => by
      have : xs ≠ [] := fun z => h (by rw [z] at hxl; exact List.length_eq_zero_iff.mp hxl.symm)
      have := hn1.2.2 this
      omega) fun o7 H7 e7 ho7 => ?_)
    have g7 := g6.step z5 hpz hs2 ((Rg.rfl g6.r.hp).mono e7)
    have rest : ∀ H8, Grow p s2 Z H5 14 H8 → ∀ (E' : XK) (D : Ends), D.rt = Q → tRet (tCall (sp_pick K) [] E' (tCons (tVar 0) (tCons (tVar 6) tNil))) D [some (.ref p), some (.ref rv), some (.ref bv), some (.ref rw'), some (.int (sp : Int)), some odd, some (.ref s2), some o7] H8 := fun H8 g8 E' D hD => by
      obtain ⟨vs8, ds8, q1, q2, q3, q4, q5⟩ := g8.s
      have hne : s2 ≠ p := fun z => nz2 (by rw [z]; exact hpz)
      refine ret_k ⟨.ref p, rfl, .ref s2, rfl, p, s2, vs8, rfl, g8.r.hp, sq_of (by rw [wo_ne hne]; exact q1), by rw [q2.len]; exact q4, by rw [q2.len]; omega, fun m v H9 hm e9 h9 => ?_⟩
      obtain ⟨d, hd, a⟩ := q2.get hm
      rw [hD]
      exact k v d H9 (r5.tr (g8.r.step e9 h9)) ((a.mono (hid_sub (List.mem_cons_of_mem _ hpz) e9)).mono (hid_fit fun b hb => List.mem_cons_of_mem _ hb)) (q3 d (List.mem_of_getElem? hd))
    have g7z := g7.hd z5
    have up : ∀ {H8 : Hp} {N : Nat}, Grow p s2 Z H5 N H8 → N ≤ 14 → Grow p s2 Z H5 14 H8 := fun g hN => by
      obtain ⟨r, vs, ds, a, b, c, d, e⟩ := g
      exact ⟨r, vs, ds, a, b, c, d, by omega⟩
    rcases ho7 with ⟨y, rfl, hy⟩ | ⟨x, a, rfl, hx, ha⟩
    · refine et_test (ev_call (ea_cons (ev_var rfl) ea_nil) (spv_e (d := .int y) (.int y))) H7 (Ex.refl H7) _ fun H8 e8 => ?_
      rw [if_pos (by rfl)]
      have g8 := g7.step z5 hpz hs2 ((Rg.rfl g7.r.hp).mono e8)
      refine app_k (K := K) z5 hpz hs2 g8 (by decide) hrw5 kx5 hgd hle rfl rfl rfl (fun H9 r9 Q' q' => x_bump (K := K) (Z := s2 :: Z) (List.mem_cons_of_mem _ hpz) rfl rfl hy r9.hp Q' q') fun H9 g9 => ?_
      refine app_k (K := K) z5 hpz hs2 g9 (by decide) hrw5 kx5 hgd hle rfl rfl rfl (fun H10 r10 Q' q' => x_flip (K := K) (Z := s2 :: Z) rfl hy r10.hp Q' q') fun H10 g10 => ?_
      exact rest H10 (up g10 (by decide)) _ _ rfl
    · have hxd : Dq (hid Z H7) (.ref a) x.d := .tup (hid_mono (e6.trans e7) _ _ ha) (.cons (.int _) (.cons (.int _) (.cons (.int _) .nil)))
      refine et_test (ev_call (ea_cons (ev_var rfl) ea_nil) (spv_e (hxd.mono hid_ex))) H7 (Ex.refl H7) _ fun H8 e8 => ?_
      rw [if_neg (by show ¬ false = true; decide)]
      refine et_test (ev_isiD (K := K) (ev_var rfl) ((hxd.mono hid_ex).mono e8) (kit_tup _)) H8 (Ex.refl H8) _ fun H9 e9 => ?_
      rw [if_pos (by rfl)]
      have g9 := g7.step z5 hpz hs2 ((Rg.rfl g7.r.hp).mono (e8.trans e9))
      refine app_k (K := K) z5 hpz hs2 g9 (by decide) hrw5 kx5 hgd hle rfl rfl rfl (fun H10 r10 Q' q' => x_less (K := K) (Z := s2 :: Z) (r10.hz (g9.hd z5)) rfl (r10.ex (List.mem_cons_of_mem _ hpz) _ _ (rgn g9.r hpz hs2 _ _ ha)) hx r10.hp Q' q') fun H10 g10 => ?_
      refine app_k (K := K) z5 hpz hs2 g10 (by decide) hrw5 kx5 hgd hle rfl rfl rfl (fun H11 r11 Q' q' => x_bool (K := K) (Z := s2 :: Z) (r11.hz (g10.hd z5)) rfl (r11.ex (List.mem_cons_of_mem _ hpz) _ _ (rgn g10.r hpz hs2 _ _ ha)) hx r11.hp Q' q') fun H11 g11 => ?_
      exact rest H11 (up g11 (by decide)) _ _ rfl
end
end K43
end
section
set_option maxHeartbeats 4000000
namespace K43
open PySem L2 Evl G OW
/-! ### how far days are raised -/
theorem set_or (l : List Int) (b : Nat) (v : Int) (i : Nat) : (l.set b v).getD i 0 = v ∨ (l.set b v).getD i 0 = l.getD i 0 := by
  by_cases h : b < l.length
  · rw [getD_set l b i v 0 h]
    by_cases q : i = b
    · rw [if_pos q]; exact .inl rfl
    · rw [if_neg q]; exact .inr rfl
  · rw [List.set_eq_of_length_le (by omega)]; exact .inr rfl
noncomputable def Low (s : S) (t : Nat) : Prop := ∀ i, 0 ≤ s.ds.getD i 0 ∧ s.ds.getD i 0 ≤ (t : Int) * BigM
theorem Low.up {s : S} {t : Nat} (h : Low s t) : Low s (t + 1) := fun i => ⟨(h i).1, by
  have := (h i).2
  have e : ((t + 1 : Nat) : Int) * BigM = (t : Int) * BigM + BigM := by rw [Int.natCast_succ, Int.add_mul, Int.one_mul]
  rw [e]
  have : (0 : Int) ≤ BigM := by decide
  omega⟩
theorem Low.relax {s : S} {t i : Nat} {x : B} (h : Low s t) (hx : -BigM ≤ x.m ∧ x.m ≤ BigM) : Low (relax s i x) (t + 1) := by
  unfold K43.relax
  split
  · rename_i hv
    intro j
    have h1 := h x.a
    have h2 := h x.b
    have e : ((t + 1 : Nat) : Int) * BigM = (t : Int) * BigM + BigM := by rw [Int.natCast_succ, Int.add_mul, Int.one_mul]
    rcases set_or s.ds x.b (s.ds.getD x.a 0 - x.m) j with q | q
    · show 0 ≤ (s.ds.set x.b (s.ds.getD x.a 0 - x.m)).getD j 0 ∧ (s.ds.set x.b (s.ds.getD x.a 0 - x.m)).getD j 0 ≤ _
      rw [q, e]
      omega
    · show 0 ≤ (s.ds.set x.b (s.ds.getD x.a 0 - x.m)).getD j 0 ∧ (s.ds.set x.b (s.ds.getD x.a 0 - x.m)).getD j 0 ≤ _
      rw [q]
      exact h.up j
  · exact h.up
theorem Low.pass {bs : List B} (hb : ∀ x ∈ bs, -BigM ≤ x.m ∧ x.m ≤ BigM) {s : S} {t : Nat} (h : Low s t) : ∀ i, i ≤ bs.length → Low (passTo bs s i) (t + i)
  | 0, _ => h
  | i + 1, hi => (Low.pass hb h i (by omega)).relax (by
    rw [List.getD_eq_getElem?_getD, List.getElem?_eq_getElem (show i < bs.length by omega)]
    exact hb _ (List.getElem_mem _))
theorem Low.run {bs : List B} (hb : ∀ x ∈ bs, -BigM ≤ x.m ∧ x.m ≤ BigM) (n : Nat) : ∀ k, Low (runTo bs n k) (k * bs.length)
  | 0 => fun i => by
    have : (List.replicate n (0 : Int)).getD i 0 = 0 := by
      rw [List.getD_eq_getElem?_getD]
      cases q : (List.replicate n (0 : Int))[i]? with
      | none => rfl
      | some x => exact List.eq_of_mem_replicate (List.mem_of_getElem? q)
    show 0 ≤ (List.replicate n (0 : Int)).getD i 0 ∧ (List.replicate n (0 : Int)).getD i 0 ≤ _
    rw [this]; simp
  | k + 1 => by
    have := Low.pass hb (Low.run hb n k) bs.length (Nat.le_refl _)
    rw [Nat.succ_mul]; exact this
theorem fin_low {bs : List B} {n : Nat} {s : S} (hb : ∀ x ∈ bs, -BigM ≤ x.m ∧ x.m ≤ BigM) (hl : bs.length ≤ 10) (hn : n ≤ 100) (h : Fin bs n s) : ∀ i, 0 ≤ s.ds.getD i 0 ∧ s.ds.getD i 0 ≤ 1010 * BigM := by
  have key : ∀ k, k ≤ 101 → ∀ i, 0 ≤ (runTo bs n k).ds.getD i 0 ∧ (runTo bs n k).ds.getD i 0 ≤ 1010 * BigM := fun k hk i => by
    have := Low.run hb n k i
    have h1 : k * bs.length ≤ 101 * 10 := Nat.mul_le_mul hk hl
    refine ⟨this.1, Int.le_trans this.2 (Int.mul_le_mul_of_nonneg_right (by omega) (by decide))⟩
  rcases h with ⟨i, hi, e, _⟩ | ⟨e, _⟩
  · rw [e]; exact key _ (by omega)
  · rw [e]; exact key _ (by omega)
theorem least_row {bs : List B} {n : Nat} {s : S} {ds : List Int} (hb : ∀ x ∈ bs, -BigM ≤ x.m ∧ x.m ≤ BigM) (hl : bs.length ≤ 10) (hn : n ≤ 100) (h : Fin bs n s) (e : leastOf s = some ds) : ds.length = n ∧ ∀ i ∈ ds, -BIG < i ∧ i < BIG := by
  unfold leastOf at e
  split at e
  · cases e
    have lo := fin_low hb hl hn h
    refine ⟨by rw [List.length_map]; exact (Fin_len h).1, fun i hi => ?_⟩
    obtain ⟨y, hy, rfl⟩ := List.mem_map.mp hi
    obtain ⟨k, hk, rfl⟩ := List.mem_iff_getElem.mp hy
    have h1 := lo k
    have h0 := lo 0
    rw [List.getD_eq_getElem?_getD, List.getElem?_eq_getElem hk] at h1
    have h1' : 0 ≤ s.ds[k] ∧ s.ds[k] ≤ 1010 * BigM := h1
    have hB : BigM = 100000000000 := rfl
    have hG : BIG = 100000000000000000 := rfl
    omega
  · cases e
/-- what least_days tells -/
noncomputable def Lst (s : S) : PyData := match leastOf s with
  | none => .none
  | some ds => .list (ds.map PyData.int)
/-! ### rings found are rings -/
theorem eqv_d (x : B) : PyData.eqv x.d x.d = true := by simp [B.d, PyData.eqv, PyData.eqvAll]
theorem ring_good {bs ring : List B} (h : RingOk bs ring) {d : PyData} (hs : isSeqD d = true) (hi : items d = ring.map B.d) : ringD bs d = true := by
  have ne : (ring.map B.d).isEmpty = false := by
    cases q : ring with
    | nil => exact absurd q h.ne
    | cons _ _ => rfl
  have hb : ((ring.map B.d).all isBnd) = true := by rw [List.all_map]; exact List.all_eq_true.mpr fun x _ => isBnd_d x
  have hm : (ring.map B.d).map toB = ring := by rw [List.map_map]; exact (List.map_congr_left fun x _ => toB_of x).trans (List.map_id _)
  have hmem : (ring.map B.d).all (memB bs) = true := by
    rw [List.all_map]
    refine List.all_eq_true.mpr fun x hx => ?_
    obtain ⟨i, hib, rfl⟩ := h.mem x hx
    show (bs.map B.d).any (fun z => PyData.eqv z (bs.getD i B0).d) = true
    rw [List.any_map]
    refine List.any_eq_true.mpr ⟨bs.getD i B0, ?_, eqv_d _⟩
    rw [List.getD_eq_getElem?_getD, List.getElem?_eq_getElem hib]
    exact List.getElem_mem _
  unfold ringD ringForm areB
  rw [hi, hs, hb, ne, hm, h.join, decide_eq_true h.neg, hmem]
  rfl
/-! ### what can be shown -/
structure Rp (d : PyData) : Prop where
  f : fine d = true
  dp : dep d ≤ 20
  n : nod d ≤ 3000
  w : d.hasDict = false ∨ d = .dict []
theorem Tm.rp {d : PyData} (h : Tm d) : Rp d := ⟨h.f, by have := h.dp; omega, by have := h.n; omega, h.w⟩
theorem slK {X : Cx} {K : PySem.W.Frag} (hK : X.K = K) : SlR X (rSlL K) := hK ▸ sl_list
mutual
theorem depth_le : ∀ d : PyData, fine d = true → d.depth ≤ dep d + 1
  | .none, _ => by simp [PyData.depth]
  | .bool _, _ => by simp [PyData.depth]
  | .int _, _ => by simp [PyData.depth]
  | .str _, _ => by simp [PyData.depth]
  | .list ds, h => by
    have := depthAll_le ds (by rw [fine] at h; exact h)
    simp only [PyData.depth, dep]; omega
  | .tuple ds, h => by
    have := depthAll_le ds (by rw [fine] at h; exact h)
    simp only [PyData.depth, dep]; omega
  | .dict kvs, h => by
    rw [fine] at h
    cases kvs with
    | nil => simp [PyData.depth, PyData.depthKv]
    | cons _ _ => cases h
theorem depthAll_le : ∀ ds : List PyData, fines ds = true → PyData.depthAll ds ≤ deps ds + 1
  | [], _ => by simp [PyData.depthAll]
  | d :: ds, h => by
    rw [fines, Bool.and_eq_true] at h
    have h1 := depth_le d h.1
    have h2 := depthAll_le ds h.2
    simp only [PyData.depthAll, deps]; omega
end
section
variable {K : PySem.W.Frag} {σ : L2.St} {H : Hp} {p a b : Addr} {i j : Nat} {te tc ta tb : TE} {c : TT} {Q : VK} {E : XK} {D : Ends} {tz ts : TS} {v u : V} {d e : PyData} {Z : List Addr}
theorem ev_rp (h : Ev te σ H v) (hd : Dq H v d) (hr : Rp d) : Ev (tCB rReprQ (tCons te tNil)) σ H (.str d.shown) := fun H1 e Q q => h H1 e _ fun H2 e2 => by
  obtain ⟨s1, s2⟩ := shown_le d hr.f
  have s3 := depth_le d hr.f
  have s4 := hr.n
  have s5 := hr.dp
  exact ⟨v, d, rfl, hd.mono (e.trans e2), s2, by omega, sz_of (by omega), hr.w, q H2 e2⟩
/-- repr(x) != repr(y), shown alike -/
theorem et_reprNe (h1 : Ev ta σ H (.str d.shown)) (h2 : Ev tb σ H (.str d.shown)) : EvT (tTest (tOp rNe ta tb)) σ H false := et_is (et_test (ev_op h1 h2 (fun H1 e1 Q q => ⟨rfl, q H1 (Ex.refl H1)⟩))) (by rw [decide_eq_true (rfl : V.str d.shown = V.str d.shown)]; rfl)
end
theorem rp_none : Rp .none := ⟨rfl, by simp [dep], by simp [nod], .inl (by simp [PyData.hasDict])⟩
theorem RowOk.tm {es : List PyData} (h : RowOk es) (hl : es.length ≤ 40) : Tm (.list es) := .lst h.gd hl
theorem bnds_row {bs : List B} {n : Nat} (hf : fitsB bs n = true) (hn : n ≤ 100) (hm : ∀ x ∈ bs, -BigM ≤ x.m ∧ x.m ≤ BigM) : RowOk (bs.map B.d) := .inr ⟨bs, rfl, fun x hx => by
  have := of_decide_eq_true (List.all_eq_true.mp hf x hx)
  have h2 := hm x hx
  have hB : BigM = 100000000000 := rfl
  have hG : BIG = 100000000000000000 := rfl
  omega⟩
theorem ring_row {bs ring : List B} {n : Nat} (h : RingOk bs ring) (hf : fitsB bs n = true) (hn : n ≤ 100) (hm : ∀ x ∈ bs, -BigM ≤ x.m ∧ x.m ≤ BigM) : RowOk (ring.map B.d) := .inr ⟨ring, rfl, fun x hx => by
  obtain ⟨i, hi, rfl⟩ := h.mem x hx
  have hmem : bs.getD i B0 ∈ bs := by rw [List.getD_eq_getElem?_getD, List.getElem?_eq_getElem hi]; exact List.getElem_mem _
  have := of_decide_eq_true (List.all_eq_true.mp hf _ hmem)
  have h2 := hm _ hmem
  have hB : BigM = 100000000000 := rfl
  have hG : BIG = 100000000000000000 := rfl
  omega⟩
end K43
end
section
set_option maxHeartbeats 4000000
namespace K43
open PySem L2 Evl G OW
theorem dq_intsK {H : Hp} : ∀ ns : List Int, DqAll H (ns.map V.int) (ns.map PyData.int)
  | [] => .nil
  | n :: ns => .cons (.int n) (dq_intsK ns)
/-- what least_days told, new since H0 -/
noncomputable def TL (s : S) (v : V) (H0 H : Hp) : Prop := match leastOf s with
  | none => v = .non
  | some ds => ∃ a, v = .ref a ∧ H0 a = none ∧ H a = some (.lst (ds.map V.int))
theorem TL.dq {s : S} {v : V} {H0 H : Hp} (h : TL s v H0 H) : Dq H v (Lst s) := by
  unfold TL at h
  unfold Lst
  cases q : leastOf s with
  | none => rw [q] at h; cases h; exact .non
  | some ds => rw [q] at h; obtain ⟨a, rfl, _, h2⟩ := h; exact .lst h2 (dq_intsK ds)
theorem TL.mono {s : S} {v : V} {H0 H H2 : Hp} (h : TL s v H0 H) (e : Ex H H2) : TL s v H0 H2 := by
  unfold TL at h ⊢
  cases q : leastOf s with
  | none => rw [q] at h; exact h
  | some ds => rw [q] at h; obtain ⟨a, h1, h2, h3⟩ := h; exact ⟨a, h1, h2, e _ _ h3⟩
theorem TL.back {s : S} {v : V} {H0 H1 H : Hp} (h : TL s v H1 H) (e : Ex H0 H1) : TL s v H0 H := by
  unfold TL at h ⊢
  cases q : leastOf s with
  | none => rw [q] at h; exact h
  | some ds => rw [q] at h; obtain ⟨a, h1, h2, h3⟩ := h; exact ⟨a, h1, fresh_back e h2, h3⟩
section
variable {K : PySem.W.Frag} {σ : L2.St} {H : Hp} {p a b : Addr} {i j : Nat} {te tc ta tb c1 c2 : TE} {c : TT} {Q : VK} {E : XK} {D : Ends} {tz ts : TS} {v u vl : V} {d e : PyData} {Z : List Addr} {s : S}
theorem set6 {o o' : Option V} : (σ.set 6 o).set 6 o' = σ.set 6 o' := List.set_set ..
theorem at6 {x : V} (hl : 6 < σ.length) : (σ.set 6 (some x))[6]? = some (some x) := by rw [List.getElem?_set]; simp [hl]
theorem off6 {o : Option V} {j : Nat} (hj : j ≠ 6) : (σ.set 6 o)[j]? = σ[j]? := by rw [List.getElem?_set, if_neg (Ne.symm hj)]
theorem get2 {v1 v2 v : V} {m : Nat} (h : [v1, v2][m]? = some v) : (m = 0 ∧ v = v1) ∨ (m = 1 ∧ v = v2) := by
  rcases m with _ | _ | m
  · simp at h; exact .inl ⟨rfl, h.symm⟩
  · simp at h; exact .inr ⟨rfl, h.symm⟩
  · simp at h
theorem told1 (v3 : σ[3]? = some (some vl)) (h6 : σ.set 6 none = σ) (hl : 6 < σ.length) (dl : Dq H vl (Lst s)) (rl : Rp (Lst s))
    (h1 : ∀ H1, Ex H H1 → ∀ Q : VK, (∀ v H2, Ex H1 H2 → TL s v H1 H2 → Q v H2) → c1 σ H1 Q) (h2 : ∀ H1, Ex H H1 → ∀ Q : VK, (∀ v H2, Ex H1 H2 → TL s v H1 H2 → Q v H2) → c2 σ H1 Q)
    (k : ∀ o H', Ex H H' → tz D (σ.set 6 o) H') :
    tSeq (tFor (iList K (tLst (tCons c1 (tCons c2 tNil)))) (gName 6) (tSeq (tIfS (tTest (tOp rNe (tCB rReprQ (tCons (tVar 6) tNil)) (tCB rReprQ (tCons (tVar 3) tNil)))) (tRet (tC (.bl false))) tNext)
      (tIfS (tTest (tOp (fun x y H Q => y = V.non ∧ Q (V.bl !decide (x = V.non)) H) (tVar 6) (tC .non))) (tDrop (tBM K "list" rAppend (tVar 6) (tCons (tC (.int 0)) tNil))) tNext))) tz D σ H := by
  refine h1 H (Ex.refl H) _ fun v1 H1 e1 t1 => h2 H1 e1 _ fun v2 H2 e2 t2 => ⟨sz_of (by show 2 ≤ 100000; decide), fun r hr => ⟨r, rfl, ⟨[v1, v2], sq_of upd_same⟩, ?_⟩⟩
  have e3 : Ex H2 (upd H2 r (.lst [v1, v2])) := Ex.new hr
  have hrH : H r = none := fresh_back (e1.trans e2) hr
  -- whose lists
  have own : ∀ m v, [v1, v2][m]? = some v → ∀ a, v = V.ref a → (leastOf s).isSome = true → a ≠ r ∧ ∀ m' v', [v1, v2][m']? = some v' → m' ≠ m → v' ≠ V.ref a := fun m v hm a hv hs => by
    obtain ⟨ds, hds⟩ := Option.isSome_iff_exists.mp hs
    unfold TL at t1 t2
    rw [hds] at t1 t2
    obtain ⟨a1, r1, f1, g1⟩ := t1
    obtain ⟨a2, r2, f2, g2⟩ := t2
    have n12 : a1 ≠ a2 := fun z => by rw [z, f2] at g1; cases g1
    have n1 : a1 ≠ r := fun z => by have := e2 _ _ g1; rw [z, hr] at this; cases this
    have n2 : a2 ≠ r := fun z => by rw [z, hr] at g2; cases g2
    subst r1 r2
    rcases get2 hm with ⟨rfl, rfl⟩ | ⟨rfl, rfl⟩
    · cases hv
      refine ⟨n1, fun m' v' hm' hne => ?_⟩
      rcases get2 hm' with ⟨rfl, rfl⟩ | ⟨rfl, rfl⟩
      · exact absurd rfl hne
      · exact fun z => n12 (by cases z; rfl)
    · cases hv
      refine ⟨n2, fun m' v' hm' hne => ?_⟩
      rcases get2 hm' with ⟨rfl, rfl⟩ | ⟨rfl, rfl⟩
      · exact fun z => n12 (by cases z; rfl)
      · exact absurd rfl hne
  refine for_list (K := K) (a := r) (xs := [v1, v2]) (D := { D with nx := tz D }) (fun i σ' H' => (∃ o, σ' = σ.set 6 o) ∧ Ex H H' ∧ H' r = some (.lst [v1, v2]) ∧ ∀ m v, i ≤ m → [v1, v2][m]? = some v → TL s v H H')
    ⟨⟨none, h6.symm⟩, (e1.trans e2).trans e3, upd_same, fun m v _ hm => ?_⟩ (fun i σ' H' _ pv => sq_of pv.2.2.1) (fun i x σ' H' hx pv => ?_) (fun σ' H' pv => ?_)
  · rcases get2 hm with ⟨_, rfl⟩ | ⟨_, rfl⟩
    · exact t1.mono (e2.trans e3)
    · exact (t2.back e1).mono e3
  · obtain ⟨⟨o, rfl⟩, eH, hr', hall⟩ := pv
    have tx := hall i x (Nat.le_refl _) hx
    show tSeq _ _ _ ((σ.set 6 o).set 6 (some x)) H'
    rw [set6]
    refine q_when (b := false) (et_reprNe (ev_rp (ev_var (at6 hl)) tx.dq rl) (ev_rp (ev_var (by rw [off6 (by decide)]; exact v3)) (dl.mono eH) rl)) (fun z => nomatch z) fun _ H3 e3 => ?_
    have keep : ∀ H4, Ex H H4 → Ex H' H4 → ∃ o, σ.set 6 (some x) = σ.set 6 o := fun _ _ _ => ⟨_, rfl⟩
    cases hs : leastOf s with
    | none =>
      have hx0 : x = .non := by unfold TL at tx; rw [hs] at tx; exact tx
      refine s_when (b := false) (et_is (et_test (ev_op (ev_var (at6 hl)) ev_c rv_notN)) (by rw [hx0]; rfl)) (fun z => nomatch z) fun _ H4 e4 => ⟨⟨_, rfl⟩, (eH.trans e3).trans e4, e4 _ _ (e3 _ _ hr'), fun m v hm hv => (hall m v (by omega) hv).mono (e3.trans e4)⟩
    | some ds =>
      have tx' := tx
      unfold TL at tx'
      rw [hs] at tx'
      obtain ⟨a, rfl, fa, ga⟩ := tx'
      obtain ⟨nr, oth⟩ := own i (.ref a) hx a rfl (by rw [hs]; rfl)
      refine s_when (b := true) (et_is (et_test (ev_op (ev_var (at6 hl)) ev_c rv_notN)) (by rfl)) (fun _ H4 e4 => ?_) (fun z => nomatch z)
      refine drop_k (bm_k (v_k (ev_var (at6 hl)) fun H5 e5 => ?_))
      have e35 : Ex H' H5 := (e3.trans e4).trans e5
      have ga5 := e35 _ _ ga
      refine ⟨Or.inl ⟨rfl, _, sq_of ga5⟩, ac_v ev_c fun H6 e6 => ac_nil ⟨a, _, .int 0, rfl, rfl, e6 _ _ ga5, ?_, ⟨⟨_, rfl⟩, (eH.trans (e35.trans e6)).mut fa, ?_, fun m v hm hv => ?_⟩⟩⟩
      · have h1 := rl.n
        unfold Lst at h1
        rw [hs] at h1
        have h2 : nod (.list (ds.map PyData.int)) = nods (ds.map PyData.int) + 1 := by rw [nod]
        have h3 := nods_len (ds.map PyData.int)
        rw [List.length_map] at h3
        refine sz_lt ?_
        rw [List.length_map]
        have h4 : nod (.list (ds.map PyData.int)) ≤ 3000 := h1
        omega
      · rw [upd_ne (Ne.symm nr)]; exact e6 _ _ (e35 _ _ hr')
      · have t := (hall m v (by omega) hv).mono (e35.trans e6)
        have hne := oth m v hv (by omega)
        unfold TL at t ⊢
        rw [hs] at t ⊢
        obtain ⟨b, rfl, fb, gb⟩ := t
        exact ⟨b, rfl, fb, by rw [upd_ne (fun z => hne (by rw [z]))]; exact gb⟩
  · obtain ⟨⟨o, rfl⟩, eH, _⟩ := pv
    exact k o H' eH
end
end K43
end
section
set_option maxHeartbeats 4000000
namespace K43
open PySem L2 Evl G OW
noncomputable def RL (e : PyData) : Prop := ∃ es, e = .list es ∧ RowOk es ∧ es.length ≤ 10
theorem RL.tm {e : PyData} (h : RL e) : Tm e := by obtain ⟨es, rfl, h, hl⟩ := h; exact h.tm (by omega)
/-- the things to be judged: the first two any, the others rows -/
noncomputable def Th (Z : List Addr) (T : Addr) (N : Nat) (H : Hp) : Prop := ∃ tv e1 e2 rest, H T = some (.lst tv) ∧ DqAll (hid Z H) tv (e1 :: e2 :: rest) ∧ Tm e1 ∧ Tm e2 ∧ (∀ e ∈ rest, RL e) ∧ 0 < rest.length ∧ rest.length ≤ N
/-- what ring_of told -/
noncomputable def RT (s : S) (bs : List B) (n : Nat) (v : V) (H0 H : Hp) : Prop := (s.r = none ∧ v = .non) ∨ (s.r ≠ none ∧ ∃ p rs ring, v = .ref p ∧ H0 p = none ∧ H p = some (.lst rs) ∧ DqAll H rs (ring.map B.d) ∧ RingOk bs ring ∧ ring.length ≤ n)
theorem RT.mono {s : S} {bs : List B} {n : Nat} {v : V} {H0 H H2 : Hp} (h : RT s bs n v H0 H) (e : Ex H H2) : RT s bs n v H0 H2 := by
  rcases h with h | ⟨h, p, rs, ring, h1, h2, h3, h4, h5⟩
  · exact .inl h
  · exact .inr ⟨h, p, rs, ring, h1, h2, e _ _ h3, h4.mono e, h5⟩
theorem RT.back {s : S} {bs : List B} {n : Nat} {v : V} {H0 H1 H : Hp} (h : RT s bs n v H1 H) (e : Ex H0 H1) : RT s bs n v H0 H := by
  rcases h with h | ⟨h, p, rs, ring, h1, h2, h3⟩
  · exact .inl h
  · exact .inr ⟨h, p, rs, ring, h1, fresh_back e h2, h3⟩
theorem dq_hidD {H : Hp} {Z : List Addr} (hZ : ∀ b ∈ Z, ∀ u, H b ≠ some (.tup u)) : ∀ (ring : List B) {rs : List V}, DqAll H rs (ring.map B.d) → DqAll (hid Z H) rs (ring.map B.d)
  | [], _, h => by cases h; exact .nil
  | x :: ring, _, h => by
    rw [List.map_cons] at h ⊢
    cases h with
    | cons q t =>
      obtain ⟨a, rfl, ha⟩ := bd_at q
      exact .cons (.tup (by rw [hid_off fun z => hZ a z _ ha]; exact ha) (.cons (.int _) (.cons (.int _) (.cons (.int _) .nil)))) (dq_hidD hZ ring t)
theorem dq_keepD {H : Hp} {a : Addr} {o : HO} (ha : ∀ u, H a ≠ some (.tup u)) {ring : List B} {rs : List V} (h : DqAll H rs (ring.map B.d)) : DqAll (upd H a o) rs (ring.map B.d) :=
  ((dq_hidD (Z := [a]) (fun b hb u => by rw [List.mem_singleton.mp hb]; exact ha u) ring h).mono (hid_updE (by simp))).mono hid_ex
noncomputable def ad : V → List Addr
  | .ref a => [a]
  | _ => []
section
variable {K : PySem.W.Frag} {σ : L2.St} {H H0 : Hp} {p a b T : Addr} {i j : Nat} {te tc ta tb c1 c2 : TE} {tA : TA} {c : TT} {Q : VK} {E E1 E2 E3 : XK} {D : Ends} {tz ts : TS} {v u vl : V} {d e : PyData} {Z : List Addr} {s : S} {bs : List B} {n N : Nat} {bl : Addr} {ns : List Int}
theorem rl_ev (hz : Hd Z H) (h : EvL te σ H (ns.map V.int)) (hn : ns.length ≤ 10) (hb : ∀ i ∈ ns, -BIG < i ∧ i < BIG) (H1 : Hp) (e1 : Ex H H1) (Q : VK) (q : ∀ v e H2, Ex H1 H2 → Dq (hid Z H2) v e → RL e → Q v H2) : te σ H1 Q :=
  h H1 e1 _ fun a H2 ha e2 h2 => q _ (.list (ns.map PyData.int)) H2 e2 (.lst (by rw [hid_off ((hz.mono e1).new ha)]; exact h2) (dq_intsK ns)) ⟨_, rfl, .inl ⟨ns, rfl, hb⟩, by rw [List.length_map]; exact hn⟩
noncomputable def EvAP (Gs : List PyData → Prop) (Z : List Addr) (tA : TA) (σ : L2.St) (H : Hp) : Prop := ∀ H1, Ex H H1 → ∀ Q : List V → Hp → Prop, (∀ vs ds H2, Ex H1 H2 → DqAll (hid Z H2) vs ds → Gs ds → Q vs H2) → tA σ H1 Q
theorem ap_nil : EvAP (fun ds => ds = []) Z tNil σ H := fun H1 _ Q q => q [] [] H1 (Ex.refl _) .nil rfl
theorem ap_cons {G : PyData → Prop} {Gs : List PyData → Prop} (h : ∀ H1, Ex H H1 → ∀ Q : VK, (∀ v e H2, Ex H1 H2 → Dq (hid Z H2) v e → G e → Q v H2) → te σ H1 Q) (t : EvAP Gs Z tA σ H) : EvAP (fun ds => ∃ e es, ds = e :: es ∧ G e ∧ Gs es) Z (tCons te tA) σ H := fun H1 e1 Q q =>
  h H1 e1 _ fun v e H2 e2 g1 g2 => t H2 (e1.trans e2) _ fun vs ds H3 e3 f1 f2 => q (v :: vs) (e :: ds) H3 (e2.trans e3) (.cons (g1.mono (hid_mono e3)) f1) ⟨e, ds, rfl, g2, f2⟩
theorem el_rg1 {m : Int} (ha : Ev ta σ H (.int m)) (hr : RgOk 0 m) : EvL (tLstRg (tRg1 ta)) σ H (rgV 0 m) := fun H1 e Q q =>
  ha H1 e _ fun H2 e2 => ⟨m, rfl, hr, fun p hp => q p _ (fresh_back e2 hp) (e2.trans (Ex.new hp)) upd_same⟩
theorem rv_neV {x y : V} (h : scal x y = true) : RV rNe x y H (.bl (!decide (x = y))) := fun H1 e1 Q q => ⟨h, q H1 (Ex.refl H1)⟩
theorem dropSeq_k (h : te σ H fun _ H1 => tz D σ H1) : tSeq (tDrop te) tz D σ H := h
theorem bm0_k {Tn : String} {rm : V → List V → Hp → VK → Prop} {to : TE} (h : to σ H fun x H1 => tyV K Tn x H1 ∧ rm x [] H1 Q) : tBM0 K Tn rm to σ H Q := h
theorem told2 (v2 : σ[2]? = some (some (.ref bl))) (v3 : σ[3]? = some (some vl)) (v7 : σ[7]? = some (some (.ref T))) {o0 : Option V} (h6 : σ.set 6 o0 = σ) (hl : 6 < σ.length) (hvl : decide (vl = .non) = s.r.isSome)
    (hBL : ∀ H', Ex H0 H' → BL H' (.ref bl) bs) (hn : n ≤ 6) (hrow : ∀ ring, RingOk bs ring → RowOk (ring.map B.d)) (hp : PotAt H0 p) (e0 : Ex H0 H) (hT : H0 T = none) (th : Th [p, T] T N H) (hN : N ≤ 100)
    (h1 : ∀ H1, Ex H H1 → ∀ Q : VK, (∀ v H2, Ex H1 H2 → RT s bs n v H1 H2 → Q v H2) → c1 σ H1 Q) (h2 : ∀ H1, Ex H H1 → ∀ Q : VK, (∀ v H2, Ex H1 H2 → RT s bs n v H1 H2 → Q v H2) → c2 σ H1 Q)
    (k : ∀ o H', Ex H0 H' → Th [p, T] T (N + 2) H' → tz D (σ.set 6 o) H') :
    tSeq (tFor (iList K (tLst (tCons c1 (tCons c2 tNil)))) (gName 6)
      (tSeq (tIfS (tOr (tTest (tOp rNe (tOp (fun x y H Q => y = V.non ∧ Q (V.bl (decide (x = V.non))) H) (tVar 6) (tC .non)) (tOp (fun x y H Q => y = V.non ∧ Q (V.bl !decide (x = V.non)) H) (tVar 3) (tC .non))))
          (tAnd (tTest (tOp (fun x y H Q => y = V.non ∧ Q (V.bl !decide (x = V.non)) H) (tVar 6) (tC .non))) (tNot (tB (tCB (rIsi K) (tCons (tVar 6) (tCons (tC (.ty "list")) tNil))))))) (tRet (tC (.bl false))) tNext)
        (tIfS (tTest (tOp (fun x y H Q => y = V.non ∧ Q (V.bl !decide (x = V.non)) H) (tVar 6) (tC .non)))
          (tSeq (tIfS (tOr (tNot (tB (tCall sp_lring [] E1 (tCons (tVar 2) (tCons (tVar 6) tNil)))))
              (tOr (tTest (tOp rNotB (tCall sp_isring [] E2 (tCons (tVar 2) (tCons (tCB (fun xs H Q => ∃ p ys, xs = [.ref p] ∧ (SqL K H p ys ∨ SqT K H p ys) ∧ ∀ l, H l = none → Q (.ref l) (upd H l (.lst ys))) (tCons (tVar 6) tNil)) tNil))) (tC (.bl true))))
                (tTest (tOp rNotB (tCall sp_isring [] E3 (tCons (tVar 2) (tCons (tCB (fun xs H Q => ∃ p ys, xs = [.ref p] ∧ ((SqL K H p ys ∧ ∀ l, H l = none → Q (.ref l) (upd H l (.tup ys))) ∨ (SqT K H p ys ∧ Q (.ref p) H))) (tCons (tVar 6) tNil)) tNil))) (tC (.bl true)))))) (tRet (tC (.bl false))) tNext)
            (tSeq (tDrop (tBM K "list" rAppend (tVar 7) (tCons (tCB (fun xs H Q => ∃ p ys, xs = [.ref p] ∧ (SqL K H p ys ∨ SqT K H p ys) ∧ ∀ l, H l = none → Q (.ref l) (upd H l (.lst ys))) (tCons (tVar 6) tNil)) tNil)))
              (tDrop (tBM0 K "list" rClear (tVar 6))))) tNext))) tz D σ H := by
  refine h1 H (Ex.refl H) _ fun v1 H1 e1 t1 => h2 H1 e1 _ fun v2' H2 e2 t2 => ⟨sz_of (by show 2 ≤ 100000; decide), fun r hr => ⟨r, rfl, ⟨[v1, v2'], sq_of upd_same⟩, ?_⟩⟩
  have e3 : Ex H2 (upd H2 r (.lst [v1, v2'])) := Ex.new hr
  have hTH : ∃ o, H T = some o := by obtain ⟨tv, _, _, _, h, _⟩ := th; exact ⟨_, h⟩
  obtain ⟨oT, hoT⟩ := hTH
  have hrH : H r = none := fresh_back (e1.trans e2) hr
  have hrT : r ≠ T := fun z => by rw [z, hoT] at hrH; cases hrH
  have hpT : p ≠ T := fun z => by obtain ⟨o, ho⟩ := hp.some; rw [z, hT] at ho; cases ho
  -- what lies where
  have f1 : ∀ q, v1 = V.ref q → H q = none ∧ q ≠ r ∧ v2' ≠ V.ref q := fun q hq => by
    rcases t1 with ⟨_, h⟩ | ⟨_, p1, rs, ring, h, g1, g2, _⟩
    · rw [h] at hq; cases hq
    · rw [h] at hq; cases hq
      refine ⟨fresh_back (Ex.refl H) g1, (fun z => by have := e2 _ _ g2; rw [z, hr] at this; cases this), fun z => ?_⟩
      rcases t2 with ⟨_, h'⟩ | ⟨_, p2, _, _, h', g1', _⟩
      · rw [h'] at z; cases z
      · rw [h'] at z; cases z; rw [g2] at g1'; cases g1'
  have f2 : ∀ q, v2' = V.ref q → H q = none ∧ q ≠ r ∧ v1 ≠ V.ref q := fun q hq => by
    rcases t2 with ⟨_, h⟩ | ⟨_, p1, rs, ring, h, g1, g2, _⟩
    · rw [h] at hq; cases hq
    · rw [h] at hq; cases hq
      exact ⟨fresh_back e1 g1, (fun z => by rw [z, hr] at g2; cases g2), fun z => (f1 _ z).2.2 h⟩
  have own : ∀ m v, [v1, v2'][m]? = some v → ∀ q, v = V.ref q → H q = none ∧ q ≠ r ∧ ∀ m' v', [v1, v2'][m']? = some v' → m' ≠ m → v' ≠ V.ref q := fun m v hm q hv => by
    rcases get2 hm with ⟨rfl, rfl⟩ | ⟨rfl, rfl⟩
    · obtain ⟨a1, a2, a3⟩ := f1 q hv
      refine ⟨a1, a2, fun m' v' hm' hne => ?_⟩
      rcases get2 hm' with ⟨rfl, rfl⟩ | ⟨rfl, rfl⟩
      · exact absurd rfl hne
      · exact a3
    · obtain ⟨a1, a2, a3⟩ := f2 q hv
      refine ⟨a1, a2, fun m' v' hm' hne => ?_⟩
      rcases get2 hm' with ⟨rfl, rfl⟩ | ⟨rfl, rfl⟩
      · exact a3
      · exact absurd rfl hne
  have hY : ∀ b, b ∈ ad v1 ++ ad v2' → H b = none := fun b hb => by
    rcases List.mem_append.mp hb with z | z
    · cases v1 <;> first | exact absurd z (List.not_mem_nil) | (rw [List.mem_singleton.mp z]; exact (f1 _ rfl).1)
    · cases v2' <;> first | exact absurd z (List.not_mem_nil) | (rw [List.mem_singleton.mp z]; exact (f2 _ rfl).1)
  generalize hZ3 : p :: T :: (ad v1 ++ ad v2') = Z3
  have zp : p ∈ Z3 := by rw [← hZ3]; simp
  have zT : T ∈ Z3 := by rw [← hZ3]; simp
  have zq : ∀ m q, [v1, v2'][m]? = some (V.ref q) → q ∈ Z3 := fun m q hm => by
    rw [← hZ3]
    rcases get2 hm with ⟨_, h⟩ | ⟨_, h⟩
    · rw [← h]; simp [ad]
    · rw [← h]; simp [ad]
  have x03 : ∀ H', Ex H H' → Ex (hid [p, T] H) (hid Z3 H') := fun H' e b o hb => by
    by_cases hin : b ∈ [p, T]
    · rw [hid_at hin] at hb; cases hb
    · rw [hid_off hin] at hb
      have : b ∉ Z3 := fun z => by
        rw [← hZ3] at z
        rcases List.mem_cons.mp z with z | z
        · exact hin (by rw [z]; simp)
        · rcases List.mem_cons.mp z with z | z
          · exact hin (by rw [z]; simp)
          · rw [hY b z] at hb; cases hb
      rw [hid_off this]; exact e b o hb
  refine for_list (K := K) (a := r) (xs := [v1, v2']) (D := { D with nx := tz D }) (fun i σ' H' => (∃ o, σ' = σ.set 6 o) ∧ Ex H0 H' ∧ H' r = some (.lst [v1, v2']) ∧ Th Z3 T (N + i) H' ∧ (∀ b ∈ Z3, ∃ u, H' b = some (.lst u)) ∧ ∀ m v, i ≤ m → [v1, v2'][m]? = some v → RT s bs n v H H')
    ⟨⟨o0, h6.symm⟩, e0.trans ((e1.trans e2).trans e3), upd_same, ?_, ?_, fun m v _ hm => ?_⟩ (fun i σ' H' _ pv => sq_of pv.2.2.1) (fun i x σ' H' hx pv => ?_) (fun σ' H' pv => ?_)
  · obtain ⟨tv, d1, d2, rest, g1, g2, g3⟩ := th
    exact ⟨tv, d1, d2, rest, e3 _ _ (e2 _ _ (e1 _ _ g1)), g2.mono (x03 _ ((e1.trans e2).trans e3)), g3⟩
  · intro b hb
    rw [← hZ3] at hb
    have up : ∀ {H'} {v : V}, RT s bs n v H' H2 → b ∈ ad v → ∃ u, upd H2 r (.lst [v1, v2']) b = some (.lst u) := fun t hb => by
      rcases t with ⟨_, rfl⟩ | ⟨_, q, rs, ring, rfl, _, g, _⟩
      · cases hb
      · rw [List.mem_singleton.mp hb]; exact ⟨_, e3 _ _ g⟩
    rcases List.mem_cons.mp hb with z | z
    · obtain ⟨x, y, _, h⟩ := hp
      rw [z]; exact ⟨_, (e0.trans ((e1.trans e2).trans e3)) _ _ h⟩
    · rcases List.mem_cons.mp z with z | z
      · obtain ⟨tv, _, _, _, h, _⟩ := th
        rw [z]; exact ⟨_, e3 _ _ (e2 _ _ (e1 _ _ h))⟩
      · rcases List.mem_append.mp z with z | z
        · exact up (t1.mono e2) z
        · exact up t2 z
  · rcases get2 hm with ⟨_, rfl⟩ | ⟨_, rfl⟩
    · exact t1.mono (e2.trans e3)
    · exact (t2.back e1).mono e3
  · obtain ⟨⟨o, rfl⟩, eH, hr', th', hup, hall⟩ := pv
    have tx := hall i x (Nat.le_refl _) hx
    show tSeq _ _ _ ((σ.set 6 o).set 6 (some x)) H'
    rw [set6]
    have w6 : (σ.set 6 (some x))[6]? = some (some x) := at6 hl
    have w2 : (σ.set 6 (some x))[2]? = some (some (.ref bl)) := by rw [off6 (by decide)]; exact v2
    have w3 : (σ.set 6 (some x))[3]? = some (some vl) := by rw [off6 (by decide)]; exact v3
    have w7 : (σ.set 6 (some x))[7]? = some (some (.ref T)) := by rw [off6 (by decide)]; exact v7
    rcases tx with ⟨hsr, hx0⟩ | ⟨hsr, q, rs, ring, hxq, fq, gq, kq, ok, hlr⟩
    · subst hx0
      have hv : decide (vl = V.non) = false := by rw [hvl, hsr]; rfl
      refine q_when (b := false) (et_is (et_or (a := false) (b := false) (et_is (et_test (ev_op (ev_op (ev_var w6) ev_c rv_isN) (ev_op (ev_var w3) ev_c rv_notN) (rv_neV rfl))) (by rw [hv]; rfl)) fun _ => et_is (et_and (a := false) (b := false) (et_is (et_test (ev_op (ev_var w6) ev_c rv_notN)) rfl) fun z => nomatch z) rfl) rfl) (fun z => nomatch z) fun _ H3 e3' => ?_
      refine s_when (b := false) (et_is (et_test (ev_op (ev_var w6) ev_c rv_notN)) rfl) (fun z => nomatch z) fun _ H4 e4 => ⟨⟨_, rfl⟩, (eH.trans e3').trans e4, e4 _ _ (e3' _ _ hr'), ?_, ?_, fun m v hm hv => (hall m v (by omega) hv).mono (e3'.trans e4)⟩
      · obtain ⟨tv, d1, d2, rest, g1, g2, g3, g4, g5, g6, g7⟩ := th'
        exact ⟨tv, d1, d2, rest, e4 _ _ (e3' _ _ g1), g2.mono (hid_mono (e3'.trans e4)), g3, g4, g5, g6, by omega⟩
      · exact fun b hb => let ⟨u, h⟩ := hup b hb; ⟨u, e4 _ _ (e3' _ _ h)⟩
    · subst hxq
      have hv : decide (vl = V.non) = true := by rw [hvl]; cases q : s.r with | none => exact absurd q hsr | some _ => rfl
      have hdq : Dq H' (.ref q) (.list (ring.map B.d)) := .lst gq kq
      refine q_when (b := false) (et_is (et_or (a := false) (b := false) (et_is (et_test (ev_op (ev_op (ev_var w6) ev_c rv_isN) (ev_op (ev_var w3) ev_c rv_notN) (rv_neV rfl))) (by rw [hv]; rfl)) fun _ => et_is (et_and (a := true) (b := false) (et_is (et_test (ev_op (ev_var w6) ev_c rv_notN)) rfl) fun _ => et_is (et_not (et_B (ev_isiD (K := K) (ev_var w6) hdq (kit_list _)))) rfl) rfl) rfl) (fun z => nomatch z) fun _ H3 e3' => ?_
      refine s_when (b := true) (et_is (et_test (ev_op (ev_var w6) ev_c rv_notN)) rfl) (fun _ H4 e4 => ?_) (fun z => nomatch z)
      have e34 := e3'.trans e4
      have gq4 := e34 _ _ gq
      have kq4 := kq.mono e34
      have eH4 := eH.trans e34
      have hlen : (ring.map B.d).length ≤ 30000 := by rw [List.length_map]; omega
      have hsmall : ∀ t ∈ ring.map B.d, (items t).length ≤ 30000 := fun t ht => by
        obtain ⟨x, _, rfl⟩ := List.mem_map.mp ht
        show 3 ≤ 30000
        decide
      -- three judgements
      refine q_when (b := false) (et_is (et_or (a := false) (b := false) (et_is (et_not (et_B (ev_call (z := .bl true) (ea_cons (ev_var w2) (ea_cons (ev_var w6) ea_nil)) (fun H5 e5 Q' q' E' => ⟨.ref bl, bs, .ref q, .list (ring.map B.d), rfl, hBL _ (eH4.trans e5), .lst (e5 _ _ gq4) (kq4.mono e5), hlen, hsmall, by rw [ring_good ok rfl rfl]; exact q'⟩)))) rfl) fun _ =>
        et_or (a := false) (b := false) (et_is (et_test (ev_op (x := .bl true) (y := .bl true) (fun H5 e5 Q' q' => call_k (ac_v (ev_var w2) fun H6 e6 => ac_k (cb_k (ac_v (ev_var w6) fun H7 e7 => ac_nil ⟨q, rs, rfl, .inl (sq_of (((e5.trans e6).trans e7) _ _ gq4)), fun c hc => ac_nil ⟨.ref bl, bs, .ref c, .list (ring.map B.d), rfl, ?_, .lst upd_same ((kq4.mono ((e5.trans e6).trans e7)).mono (Ex.new hc)), hlen, by rw [ring_good ok rfl rfl]; exact fun H9 e9 => q' H9 (((e6.trans e7).trans (Ex.new hc)).trans e9)⟩⟩)))) ev_c (fun H5 e5 Q' q' => ⟨true, true, rfl, rfl, q' H5 (Ex.refl H5)⟩))) rfl) fun _ =>
          et_is (et_test (ev_op (x := .bl true) (y := .bl true) (fun H5 e5 Q' q' => call_k (ac_v (ev_var w2) fun H6 e6 => ac_k (cb_k (ac_v (ev_var w6) fun H7 e7 => ac_nil ⟨q, rs, rfl, .inl ⟨sq_of (((e5.trans e6).trans e7) _ _ gq4), fun c hc => ac_nil ⟨.ref bl, bs, .ref c, .tuple (ring.map B.d), rfl, ?_, .tup upd_same ((kq4.mono ((e5.trans e6).trans e7)).mono (Ex.new hc)), hlen, by rw [ring_good ok rfl rfl]; exact fun H9 e9 => q' H9 (((e6.trans e7).trans (Ex.new hc)).trans e9)⟩⟩⟩)))) ev_c (fun H5 e5 Q' q' => ⟨true, true, rfl, rfl, q' H5 (Ex.refl H5)⟩))) rfl) rfl) (fun z => nomatch z) fun _ H5 e5 => ?_
      · exact hBL _ ((eH4.trans ((e5.trans e6).trans e7)).trans (Ex.new hc))
      · exact hBL _ ((eH4.trans ((e5.trans e6).trans e7)).trans (Ex.new hc))
      obtain ⟨tv, d1, d2, rest, g1, g2, g3, g4, g5, g6, g7⟩ := th'
      refine dropSeq_k (bm_k (v_k (ev_var w7) fun H6 e6 => ?_))
      have x6 := (e34.trans e5).trans e6
      refine ⟨Or.inl ⟨rfl, tv, sq_of (x6 _ _ g1)⟩, ac_k (cb_k (ac_v (ev_var w6) fun H7 e7 => ac_nil ⟨q, rs, rfl, .inl (sq_of ((x6.trans e7) _ _ gq)), fun c hc => ac_nil ?_⟩))⟩
      have x7 := x6.trans e7
      have xc : Ex H' (upd H7 c (.lst rs)) := x7.trans (Ex.new hc)
      have cz : c ∉ Z3 := fun z => by obtain ⟨u, hu⟩ := hup c z; rw [x7 _ _ hu] at hc; cases hc
      have fqH := (own i _ hx q rfl).1
      have qr := (own i _ hx q rfl).2.1
      have oth := (own i _ hx q rfl).2.2
      have qT : q ≠ T := fun z => by rw [z, hoT] at fqH; cases fqH
      have rc : r ≠ c := fun z => by rw [← z, x7 _ _ hr'] at hc; cases hc
      have lenT : tv.length ≤ 200 := by rw [g2.len]; simp only [List.length_cons]; have := (get2 hx); omega
      refine ⟨T, tv, .ref c, rfl, rfl, xc _ _ g1, sz_lt (by omega), ?_⟩
      refine drop_k (bm0_k (v_k (ev_var w6) fun H8 e8 => ?_))
      have gq8 : H8 q = some (.lst rs) := e8 _ _ (by rw [upd_ne qT]; exact xc _ _ gq)
      have gT8 : H8 T = some (.lst (tv ++ [.ref c])) := e8 _ _ upd_same
      refine ⟨Or.inl ⟨rfl, rs, sq_of gq8⟩, q, rs, rfl, rfl, gq8, ⟨_, rfl⟩, ?_, ?_, ?_, ?_, ?_⟩
      · exact (((eH.trans xc).mut hT).trans e8).mut (fresh_back e0 fqH)
      · rw [upd_ne (Ne.symm qr)]
        refine e8 _ _ ?_
        rw [upd_ne hrT]; exact xc _ _ hr'
      · have qz : q ∈ Z3 := zq i q hx
        have xT : Ex (hid Z3 (upd H7 c (.lst rs))) (hid Z3 (upd (upd H7 c (.lst rs)) T (.lst (tv ++ [.ref c])))) := hid_updE zT
        have xq : Ex (hid Z3 H8) (hid Z3 (upd H8 q (.lst []))) := hid_updE qz
        have xx := (xT.trans (hid_mono e8)).trans xq
        refine ⟨tv ++ [.ref c], d1, d2, rest ++ [.list (ring.map B.d)], by rw [upd_ne (Ne.symm qT)]; exact gT8, ?_, g3, g4, fun e he => ?_, by rw [List.length_append]; omega, by rw [List.length_append]; show rest.length + 1 ≤ N + (i + 1); omega⟩
        · have h1 := ((g2.mono (hid_mono xc)).mono xx).app (.cons (Dq.mono (.lst (by rw [hid_off cz]; exact upd_same) ((dq_hidD (Z := Z3) (fun b hb u => by obtain ⟨u', hu'⟩ := hup b hb; rw [hu']; exact fun z => nomatch z) ring kq).mono (hid_mono xc))) xx) .nil)
          exact h1
        · rcases List.mem_append.mp he with z | z
          · exact g5 e z
          · rw [List.mem_singleton.mp z]
            exact ⟨_, rfl, hrow ring ok, by rw [List.length_map]; omega⟩
      · intro b hb
        by_cases bq : b = q
        · rw [bq]; exact ⟨_, upd_same⟩
        · rw [upd_ne bq]
          by_cases bT : b = T
          · rw [bT]; exact ⟨_, gT8⟩
          · obtain ⟨u, hu⟩ := hup b hb
            exact ⟨u, e8 _ _ (by rw [upd_ne bT]; exact xc _ _ hu)⟩
      · intro m v hm hv
        have hne := oth m v hv (by omega)
        rcases hall m v (by omega) hv with h | ⟨h, q2, rs2, ring2, rfl, k2, k3, k4, k5⟩
        · exact .inl h
        · have n1 : q2 ≠ q := fun z => hne (by rw [z])
          have n2 : q2 ≠ T := fun z => by rw [z, hoT] at k2; cases k2
          refine .inr ⟨h, q2, rs2, ring2, rfl, k2, ?_, ?_, k5⟩
          · rw [upd_ne n1]
            refine e8 _ _ ?_
            rw [upd_ne n2]; exact xc _ _ k3
          · refine dq_keepD (fun u => by rw [gq8]; exact fun z => nomatch z) (DqAll.mono (dq_keepD (fun u => by rw [xc _ _ g1]; exact fun z => nomatch z) (k4.mono xc)) e8)
  · obtain ⟨⟨o, rfl⟩, eH, _, th', _⟩ := pv
    obtain ⟨tv, d1, d2, rest, g1, g2, g3⟩ := th'
    refine k o H' eH ⟨tv, d1, d2, rest, g1, g2.mono (hid_fit fun b hb => ?_), g3⟩
    rcases List.mem_cons.mp hb with z | z
    · rw [z]; exact zp
    · rw [List.mem_singleton.mp z]; exact zT
end
end K43
end
section
set_option maxHeartbeats 4000000
namespace K43
open PySem L2 Evl G OW
section
variable {K : PySem.W.Frag} {σ : L2.St} {H H0 : Hp} {p a b T : Addr} {i j : Nat} {te tc ta tb c1 c2 : TE} {tA : TA} {c : TT} {Q : VK} {E E1 E2 E3 : XK} {D : Ends} {tz ts : TS} {v u vl : V} {d e : PyData} {Z : List Addr} {s : S} {bs : List B} {n N : Nat} {bl : Addr} {ns : List Int}
theorem tail_k (v3 : σ[3]? = some (some vl)) (hz : Hd Z H) (hv : vl = .non ∨ (vl ≠ .non ∧ Dq (hid Z H) vl e ∧ RL e)) (k : ∀ b us es H2, Ex H H2 → H2 b = some (.lst us) → DqAll (hid Z H2) us es → (∀ e ∈ es, RL e) → es.length ≤ 1 → Q (.ref b) H2) :
    tIf (tTest (tOp (fun x y H Q => y = V.non ∧ Q (V.bl !decide (x = V.non)) H) (tVar 3) (tC .non))) (tLst (tCons (tVar 3) tNil)) (tLst tNil) σ H Q := by
  refine et_test (ev_op (ev_var v3) ev_c rv_notN) H (Ex.refl H) _ fun H1 e1 => ?_
  rcases hv with rfl | ⟨hne, hd, hr⟩
  · exact ⟨sz_of (by show 0 ≤ 100000; decide), fun q hq => k q [] [] _ (e1.trans (Ex.new hq)) upd_same .nil (fun e he => nomatch he) (Nat.zero_le _)⟩
  · rw [if_pos (by rw [decide_eq_false hne]; rfl)]
    refine lst_k (ac_v (ev_var v3) fun H2 e2 => ac_nil ⟨sz_of (by show 1 ≤ 100000; decide), fun q hq => k q [vl] [e] _ ((e1.trans e2).trans (Ex.new hq)) upd_same (.cons (hd.mono (hid_mono ((e1.trans e2).trans (Ex.new hq)))) .nil) (fun x hx => by rw [List.mem_singleton.mp hx]; exact hr) (Nat.le_refl _)⟩)
theorem things_k (v1 : σ[1]? = some (some (.int (n : Int)))) (v3 : σ[3]? = some (some vl)) (hz : Hd [p] H) (n6 : n ≤ 6) (hv : vl = .non ∨ (vl ≠ .non ∧ Dq (hid [p] H) vl e ∧ RL e)) (k : ∀ T H2, H T = none → Ex H H2 → Th [p, T] T 4 H2 → Q (.ref T) H2) :
    tOp rCat (tLst (tCons (tC .non) (tCons (tLst (tCons (tTup tNil) tNil)) (tCons (tLst tNil) (tCons (tOp rRep (tLst (tCons (tC (.int 0)) tNil)) (tVar 1)) (tCons (tLstRg (tRg1 (tVar 1))) tNil))))))
      (tIf (tTest (tOp (fun x y H Q => y = V.non ∧ Q (V.bl !decide (x = V.non)) H) (tVar 3) (tC .non))) (tLst (tCons (tVar 3) tNil)) (tLst tNil)) σ H Q := by
  refine op_k (lst_k ?_)
  refine ap_cons (Z := [p]) (tm_v ev_c (fun _ => .non) Gd.non.tm) (ap_cons (gl_tm (gl_lst hz (ag_cons (gd_tup hz ag_nil (by decide)) ag_nil) (by decide)) (by decide)) (ap_cons (rl_ev hz (ns := []) (el_lst ea_nil (by show 0 ≤ 100000; decide)) (by decide) (fun i hi => nomatch hi))
    (ap_cons (rl_ev hz (ns := List.replicate n 0) (el_eq (el_rep1 (n := n) ev_c (ev_var v1) (by omega)) (by rw [List.map_replicate])) (by rw [List.length_replicate]; omega) (fun i hi => by rw [List.eq_of_mem_replicate hi]; decide))
      (ap_cons (rl_ev hz (ns := (List.range n).map fun (i : Nat) => (0 : Int) + (i : Int)) (el_eq (el_rg1 (ev_var v1) ⟨by decide, by decide, by omega, by omega, by omega⟩) (by unfold rgV; rw [List.map_map, show ((n : Int) - 0).toNat = n by omega]; rfl)) (by rw [List.length_map, List.length_range]; omega) (fun i hi => by
        obtain ⟨m, hm, rfl⟩ := List.mem_map.mp hi
        have := List.mem_range.mp hm
        unfold BIG
        omega)) ap_nil)))) H (Ex.refl H) _ fun vs ds H1 e1 kds g => ?_
  obtain ⟨x1, _, rfl, t1, x2, _, rfl, t2, x3, _, rfl, t3, x4, _, rfl, t4, x5, _, rfl, t5, rfl⟩ := g
  have hl := kds.len
  refine ⟨sz_of (by rw [hl]; show 5 ≤ 100000; decide), fun w hw => ?_⟩
  have ew := Ex.new (o := .lst vs) hw
  refine tail_k (Z := [p]) v3 (hz.mono (e1.trans ew)) (by
    rcases hv with h | ⟨h1, h2, h3⟩
    · exact .inl h
    · exact .inr ⟨h1, h2.mono (hid_mono (e1.trans ew)), h3⟩) fun b us es H2 e2 hb kes hes les => ?_
  have hlu := kes.len
  refine ⟨w, b, vs, us, rfl, rfl, e2 _ _ upd_same, hb, sz_of (by rw [hl, hlu]; show 5 + es.length ≤ 100000; omega), fun T hT => ?_⟩
  refine k T _ (fresh_back ((e1.trans ew).trans e2) hT) (((e1.trans ew).trans e2).trans (Ex.new hT)) ⟨vs ++ us, x1, x2, [x3, x4, x5] ++ es, upd_same, ?_, t1, t2, fun e he => ?_, by simp, by rw [List.length_append]; show 3 + es.length ≤ 4; omega⟩
  · exact ((((kds.mono (hid_mono (ew.trans e2))).app kes).mono (hid_newp hT))).mono (hid_fit fun b hb => by simp at hb ⊢; rcases hb with h | h; exact .inr h; exact .inl h)
  · rcases List.mem_append.mp he with z | z
    · simp only [List.mem_cons, List.not_mem_nil, or_false] at z
      rcases z with z | z | z <;> subst z
      · exact t3
      · exact t4
      · exact t5
    · exact hes e z
/-- things + six bent rows -/
theorem bents_k {us : List V} {vs : List Nat} (v0 : ∀ x, ((wipe σ vs).set 11 x)[0]? = some (some (.ref p))) (v2 : ∀ x, ((wipe σ vs).set 11 x)[2]? = some (some (.ref bl))) (v7 : ∀ x, ((wipe σ vs).set 11 x)[7]? = some (some (.ref T))) (u7 : σ[7]? = some (some (.ref T))) (hw : ∀ x, wipe ((wipe σ vs).set 11 (some x)) vs = wipe σ vs)
    (hp : PotAt H p) (hbl : hid [p] H bl = some (.lst us)) (kus : DqAll (hid [p] H) us (bs.map B.d)) (hbo : RowOk (bs.map B.d)) (hlb : bs.length ≤ 10) (th : Th [p, T] T N H) (hN : N ≤ 20) (hTp : T ≠ p)
    (k : ∀ T2 tv ds H2, H T2 = none → Rg p H H2 → H2 T2 = some (.lst tv) → DqAll (hid [p, T2] H2) tv ds → (∀ e ∈ ds, Tm e) → ds.length ≤ N + 8 → Q (.ref T2) H2) :
    tOp rCat (tVar 7) (tLc (iRng1 (tCons (tC (.int 6)) tNil)) (gName 11) tYes (tCall sp_bent [] E1 (tCons (tVar 0) (tCons (tCall (sp_pick K) [] E2 (tCons (tVar 0) (tCons (tSl (rSlL K) (tVar 7) (tPart (tC (.int 2))) tNoPart) tNil))) (tCons (tVar 2) tNil)))) vs) σ H Q := by
  obtain ⟨tv, d1, d2, rest, g1, g2, g3, g4, g5, g6, g7⟩ := th
  have g2p : DqAll (hid [p] H) tv (d1 :: d2 :: rest) := g2.mono (hid_fit fun b hb => by simp at hb; simp [hb])
  have hTn : T ∉ [p] := by simpa using hTp
  have hlt := g2.len
  refine op_k (v_k (ev_var u7) fun H1 e1 => ?_)
  have hp1 := hp.mono e1
  have rH1 : Rg p H H1 := (Rg.rfl hp).mono e1
  refine lcD_R (p := p) (N := 6) (fun m => m = 6) hp1 (fun R' r' => ac_v ev_c fun H2 e2 => ac_nil (r' 6 H2 rfl (Nat.le_refl _) ((Rg.rfl hp1).mono e2))) (by decide) hw Tm (fun i Dl H' hi hD hne r hd Q' q' => ?_) fun n' Dl ys es H2 hn' _ hdl r1 h1 hk1 hes hg => ?_
  · have x := rgn (Z := [p]) r (by simp) hD
    have fitD : ∀ {X : Hp}, Ex (hid [Dl, p] X) (hid [p, Dl] X) := hid_fit fun b hb => by simp at hb ⊢; rcases hb with h | h; exact .inr h; exact .inl h
    have xx : Ex (hid [p] H) (hid [p, Dl] H') := ((hid_mono e1).trans x).trans fitD
    have hT' : H' T = some (.lst tv) := hid_ex _ _ (xx _ _ (by rw [hid_off hTn]; exact g1))
    refine call_k (ac_v (ev_var (v0 _)) fun H3 e3 => ac_k ?_)
    refine call_k (ac_v (ev_var (v0 _)) fun H4 e4 => ac_k ?_)
    have e34 := e3.trans e4
    refine ev_var (v7 _) H4 (Ex.refl H4) _ fun H5 e5 => eo_some ev_c H5 (Ex.refl H5) _ fun H6 e6 => eo_none H6 (Ex.refl H6) _ fun H7 e7 => ?_
    have e37 := ((e34.trans e5).trans e6).trans e7
    refine ⟨T, tv, rfl, sq_of (e37 _ _ hT'), fun sl hsl => ac_nil ?_⟩
    have ec : cutV tv (some 2) none = tv.drop 2 := cut_drop (k := 2)
    rw [ec]
    have es7 := e37.trans (Ex.new (o := .lst (tv.drop 2)) hsl)
    have slp : sl ≠ p := fun z => by obtain ⟨o, ho⟩ := (r.mono e37).hp.some; rw [z, ho] at hsl; cases hsl
    have hr := r.hp.mono es7
    have kd : DqAll (hid [p] H) (tv.drop 2) rest := g2p.drop 2
    have hlr := kd.len
    refine ⟨p, sl, tv.drop 2, rfl, hr, sq_of (by rw [wo_ne slp]; exact upd_same), by omega, by omega, fun m v H8 hm e8 hp8 => ac_v (ev_var (v2 _)) fun H9 e9 => ac_nil ?_⟩
    have r9 : Rg p H' H9 := (((Rg.rfl r.hp).mono es7).step e8 hp8).mono e9
    have x9 : Ex (hid [p] H) (hid [p, Dl] H9) := xx.trans (r9.ex (by simp))
    obtain ⟨d, hd', hq⟩ := (kd.mono x9).get hm
    obtain ⟨es, rfl, ho, hle⟩ := g5 d (List.mem_of_getElem? hd')
    cases hq with
    | lst ha hk => exact ⟨p, _, bl, [p, Dl], _, us, es, bs.map B.d, rfl, r9.hp, by simp, r9.hz hd, ⟨ha, hk, ho, hle⟩, ⟨x9 _ _ hbl, kus.mono x9, hbo, by rw [List.length_map]; exact hlb⟩, fun v e H10 r10 h1 h2 => q' v e H10 (r9.tr r10) h1 h2⟩
  · rw [hn'] at hes
    have rH2 := rH1.tr r1
    have hDT : Dl ≠ T := fun z => by rw [z, e1 _ _ g1] at hdl; cases hdl
    have hly := hk1.len
    have hT2 : H2 T = some (.lst tv) := rH2.x _ _ (by rw [wo_ne hTp]; exact g1)
    refine ⟨T, Dl, tv, ys, rfl, rfl, hT2, h1, sz_of (by rw [hly, hes, hlt]; simp only [List.length_cons]; omega), fun T2 hT2 => ?_⟩
    have rX := rH2.mono (Ex.new (o := .lst (tv ++ ys)) hT2)
    have fr : H T2 = none := by
      cases q : H T2 with
      | none => rfl
      | some o =>
        have hne : T2 ≠ p := fun z => by obtain ⟨o', ho⟩ := rH2.hp.some; rw [z, ho] at hT2; cases hT2
        have := rH2.x T2 o (by rw [wo_ne hne]; exact q)
        rw [this] at hT2; cases hT2
    have fit : ∀ {X : Hp}, Ex (hid [T2, p] X) (hid [p, T2] X) := hid_fit fun b hb => by simp at hb ⊢; rcases hb with h | h; exact .inr h; exact .inl h
    refine k T2 (tv ++ ys) ((d1 :: d2 :: rest) ++ es) _ fr rX upd_same ?_ (fun e he => ?_) (by rw [List.length_append]; simp only [List.length_cons]; omega)
    · exact (((g2p.mono (rH2.ex (by simp))).app (hk1.mono (hid_fit fun b hb => by simp at hb; simp [hb]))).mono (hid_newp hT2)).mono fit
    · rcases List.mem_append.mp he with z | z
      · rcases List.mem_cons.mp z with z | z
        · rw [z]; exact g3
        · rcases List.mem_cons.mp z with z | z
          · rw [z]; exact g4
          · exact (g5 e z).tm
      · exact hg e z
/-- some drawn bounds -/
theorem last_k {us : List V} {vs : List Nat} (v0 : ∀ x, ((wipe σ vs).set 11 x)[0]? = some (some (.ref p))) (v2 : ∀ x, ((wipe σ vs).set 11 x)[2]? = some (some (.ref bl))) (u0 : σ[0]? = some (some (.ref p))) (u2 : σ[2]? = some (some (.ref bl))) (hw : ∀ x, wipe ((wipe σ vs).set 11 (some x)) vs = wipe σ vs)
    (hp : PotAt H p) (hbl : hid [p] H bl = some (.lst us)) (kus : DqAll (hid [p] H) us (bs.map B.d)) (hlb : bs.length ≤ 10)
    (k : ∀ c ys (ring : List B) H2, Rg p H H2 → H c = none → H2 c = some (.lst ys) → DqAll H2 ys (ring.map B.d) → (∀ x ∈ ring, x ∈ bs) → ring.length ≤ 3 → Q (.ref c) H2) :
    tIf (tTest (tOp (rNeD K) (tVar 2) (tLst tNil))) (tLc (iRng1 (tCons (tOp (rI0 fun i j => V.int (i + j)) (tC (.int 1)) (tCall sp_draw [] E1 (tCons (tVar 0) (tCons (tC (.int 3)) tNil)))) tNil)) (gName 11) tYes (tCall (sp_pick K) [] E2 (tCons (tVar 0) (tCons (tVar 2) tNil))) vs) (tLst tNil) σ H Q := by
  have hlu := kus.len
  rw [List.length_map] at hlu
  refine et_test (evd_neD (K := K) (d := .list (bs.map B.d)) (e := .list []) (fun H1 e1 Q q => ⟨.ref bl, u2, q _ _ (Ex.refl _) (dq_dp _ (by rw [PyData.canLay0]; exact layAll_d bs) (.lst (hid_ex _ _ (hid_mono e1 _ _ hbl)) ((kus.mono (hid_mono e1)).mono hid_ex)))⟩) (fun H1 e1 Q q => ⟨sz_of (by show 0 ≤ 100000; decide), fun p hp => q _ _ (Ex.new hp) (.lst (sq_of upd_same) .nil)⟩) (shaped_ds bs) (by rfl)) H (Ex.refl H) _ fun H1 e1 => ?_
  rw [eqv_nilL]
  have hp1 := hp.mono e1
  cases hb : bs with
  | nil => exact ⟨sz_of (by show 0 ≤ 100000; decide), fun c hc => k c [] [] _ (((Rg.rfl hp).mono e1).mono (Ex.new hc)) (fresh_back e1 hc) upd_same .nil (fun x hx => nomatch hx) (by decide)⟩
  | cons b0 bs' =>
    rw [← hb]
    have hb0 : 0 < bs.length := by rw [hb]; exact Nat.succ_pos _
    rw [if_pos (by rw [hb]; rfl)]
    refine lcD_R (p := p) (N := 3) (fun m => True) hp1 (fun R' r' => ac_k (op_k (v_k ev_c fun H2 e2 => drawC (hp1.mono e2) u0 ev_c (by decide) (by decide) fun d H3 d0 d1 e3 hp3 => ?_))) (by decide) hw (fun e => ∃ x ∈ bs, e = x.d) (fun i Dl H' hi hD hne r hd Q' q' => ?_) fun n' Dl ys es H2 _ hn3 hdl r1 h1 hk1 hes hg => ?_
    · obtain ⟨m, rfl⟩ : ∃ m : Nat, d = (m : Int) := ⟨d.toNat, by omega⟩
      refine ⟨1, (m : Int), rfl, rfl, ac_nil ?_⟩
      have := r' (1 + m) H3 trivial (by omega) (((Rg.rfl hp1).mono e2).step e3 hp3)
      rw [show (((1 + m : Nat)) : Int) = 1 + (m : Int) by omega] at this
      exact this
    · have x := ((hid_mono e1).trans (rgn (Z := [p]) r (by simp) hD)).trans (hid_fit (Z' := [p, Dl]) fun b hb => by simp at hb ⊢; rcases hb with h | h; exact .inr h; exact .inl h)
      refine pickQ (K := K) (Z := [p, Dl]) r.hp (by simp) (v0 _) (v2 _) (x _ _ hbl) (kus.mono x) (by rw [List.length_map]; exact hb0) (by rw [List.length_map]; omega) fun v d H2 hd' e2 hp2 hq => q' v d H2 ((Rg.rfl r.hp).step e2 hp2) hq ?_
      obtain ⟨y, hy, rfl⟩ := List.mem_map.mp hd'
      exact ⟨y, hy, rfl⟩
    · have hm : es = (es.map toB).map B.d := by
        rw [List.map_map]
        conv => lhs; rw [← List.map_id es]
        refine List.map_congr_left fun e he => ?_
        obtain ⟨x, _, rfl⟩ := hg e he
        show x.d = (toB x.d).d
        rw [toB_of]
      rw [hm] at hk1
      refine k Dl ys (es.map toB) H2 (((Rg.rfl hp).mono e1).tr r1) (fresh_back e1 hdl) h1 (hk1.mono hid_ex) (fun x hx => ?_) (by rw [List.length_map]; omega)
      obtain ⟨e, he, rfl⟩ := List.mem_map.mp hx
      obtain ⟨y, hy, rfl⟩ := hg e he
      rw [toB_of]; exact hy
end
end K43
end
section
set_option maxHeartbeats 4000000
namespace K43
open PySem L2 Evl G OW
section
variable {K : PySem.W.Frag} {σ : L2.St} {H H0 : Hp} {p a b T : Addr} {i j : Nat} {te tc ta tb c1 c2 : TE} {tA : TA} {c : TT} {Q : VK} {E E1 E2 E3 E4 E5 E6 : XK} {D : Ends} {tz ts : TS} {v u vl : V} {d e : PyData} {Z : List Addr} {s : S} {bs : List B} {n N : Nat} {bl ga : Addr} {ns : List Int} {xs ys : List V}
theorem rpk (hd : Dq H v d) (hr : Rp d) (k : Q (.str d.shown) H) : rReprQ [v] H Q := by
  obtain ⟨s1, s2⟩ := shown_le d hr.f
  have s3 := depth_le d hr.f
  have s4 := hr.n
  have s5 := hr.dp
  exact ⟨v, d, rfl, hd, s2, by omega, sz_of (by omega), hr.w, k⟩
theorem el_catK (ha : EvL ta σ H xs) (hb : EvL tb σ H ys) (hz : xs.length + ys.length ≤ 100000) : EvL (tOp rCat ta tb) σ H (xs ++ ys) := fun H1 e Q q =>
  ha H1 e _ fun a H2 na e2 h2 => hb H2 (e.trans e2) _ fun b H3 nb e3 h3 => ⟨a, b, xs, ys, rfl, rfl, e3 a _ h2, h3, sz_of hz, fun p hp => q p _ (fresh_back (e2.trans e3) hp) ((e2.trans e3).trans (Ex.new hp)) upd_same⟩
theorem ev_rpL {ds : List PyData} (h : EvL te σ H xs) (hd : ∀ H1, DqAll H1 xs ds) (hr : Rp (.list ds)) : Ev (tCB rReprQ (tCons te tNil)) σ H (.str (PyData.list ds).shown) := fun H1 e Q q => h H1 e _ fun a H2 _ e2 h2 => rpk (.lst h2 (hd _)) hr (q H2 e2)
theorem rp4 (k r : Bool) : Rp (.list [.bool k, .bool k, .bool r, .bool r]) := ⟨by simp [fine, fines], by simp [dep, deps], by simp [nod, nods], .inl (by simp [PyData.hasDict, PyData.hasDictAll])⟩
theorem dq4 (k r : Bool) (H : Hp) : DqAll H [.bl k, .bl k, .bl r, .bl r] [.bool k, .bool k, .bool r, .bool r] := .cons (.bl _) (.cons (.bl _) (.cons (.bl _) (.cons (.bl _) .nil)))
theorem q_forV {tl : TE} {tu : TS} (h : Ev tl σ H (.ref a)) (hx : H a = some (.lst xs)) (Pv : Nat → L2.St → Hp → Prop) (h0 : ∀ H1, Ex H H1 → Pv 0 σ H1) (hl : ∀ i σ' H', i ≤ xs.length → Pv i σ' H' → H' a = some (.lst xs)) (hs : ∀ i x σ' H', xs[i]? = some x → Pv i σ' H' → tu { D with nx := Pv (i + 1), ct := Pv (i + 1), bk := tz D } (σ'.set j (some x)) H') (hd : ∀ σ' H', Pv xs.length σ' H' → tz D σ' H') : tSeq (tFor (iList K tl) (gName j) tu) tz D σ H :=
  h H (Ex.refl H) _ fun H1 e => ⟨a, rfl, ⟨xs, sq_of (e _ _ hx)⟩, for_list (D := { D with nx := tz D }) Pv (h0 H1 e) (fun i σ' H' hi pv => sq_of (hl i σ' H' hi pv)) hs hd⟩
theorem judge_k {tv : List V} {ds : List PyData} {w0 w1 w3 w4 o6 o8 o9 o10 o11 : Option V} (hT : H T = some (.lst tv)) (kds : DqAll H tv ds) (tds : ∀ e ∈ ds, Tm e)
    (hBL : ∀ H', Ex H H' → BL H' (.ref bl) bs) (hBs : ∀ H', Ex H H' → Bs H' (.ref ga) bs)
    (k : ∀ o8 o9 o10 H', Ex H H' → tz D [w0, w1, some (.ref bl), w3, w4, some (.ref ga), o6, some (.ref T), o8, o9, o10, o11] H') :
    tSeq (tFor (iList K (tVar 7)) (gName 8) (tSeq (tAsg (tCB rReprQ (tCons (tVar 8) tNil)) (gName 9)) (tSeq (tAsg (tLst
        (tCons (tCall sp_kept [] E1 (tCons (tVar 2) (tCons (tVar 8) tNil)))
          (tCons (tCallN0 [Str.ofString "value", Str.ofString "bounds"].length sp_kept (fun vs zs => vs ++ zs.reverse) E2 (tCons (tVar 8) (tCons (tVar 5) tNil)))
            (tCons (tCall sp_isring [] E3 (tCons (tVar 2) (tCons (tVar 8) tNil)))
              (tCons (tCallN0 [Str.ofString "value", Str.ofString "bounds"].length sp_isring (fun vs zs => vs ++ zs.reverse) E4 (tCons (tVar 8) (tCons (tVar 2) tNil))) tNil))))) (gName 10))
        (tIfS (tOr (tTest (tOp rNe (tCB rReprQ (tCons (tVar 10) tNil)) (tCB rReprQ (tCons (tOp rCat
              (tOp rRep (tLst (tCons (tCall sp_ldays [] E5 (tCons (tVar 2) (tCons (tVar 8) tNil))) tNil)) (tC (.int 2)))
              (tOp rRep (tLst (tCons (tCall sp_lring [] E6 (tCons (tVar 2) (tCons (tVar 8) tNil))) tNil)) (tC (.int 2)))) tNil))))
            (tTest (tOp rNe (tCB rReprQ (tCons (tVar 8) tNil)) (tVar 9)))) (tRet (tC (.bl false))) tNext)))) tz D [w0, w1, some (.ref bl), w3, w4, some (.ref ga), o6, some (.ref T), o8, o9, o10, o11] H := by
  refine q_forV (K := K) (a := T) (xs := tv) (ev_var rfl) hT (fun i σ' H' => (∃ o8 o9 o10, σ' = [w0, w1, some (.ref bl), w3, w4, some (.ref ga), o6, some (.ref T), o8, o9, o10, o11]) ∧ Ex H H')
    (fun H1 e1 => ⟨⟨_, _, _, rfl⟩, e1⟩) (fun i σ' H' _ pv => pv.2 _ _ hT) (fun i x σ' H' hx pv => ?_) (fun σ' H' pv => ?_)
  · obtain ⟨⟨o8, o9, o10, rfl⟩, eH⟩ := pv
    obtain ⟨d, hd, hq⟩ := kds.get hx
    have td := tds d (List.mem_of_getElem? hd)
    have l1 : (items d).length ≤ 30000 := by have := td.k; omega
    have l2 : ∀ t ∈ items d, (items t).length ≤ 30000 := fun t ht => by have := td.t t ht; omega
    have hq' := hq.mono eH
    refine asg_k (v_k (ev_rp (ev_var rfl) hq' td.rp) fun H2 e2 => ?_)
    have e2' := eH.trans e2
    refine asg_k (el_lst (vs := [.bl (keptD bs d), .bl (keptD bs d), .bl (ringD bs d), .bl (ringD bs d)])
      (ea_cons (ev_call (ea_cons (ev_var rfl) (ea_cons (ev_var rfl) ea_nil)) fun H5 e5 Q' q' E' => ⟨.ref bl, bs, x, d, rfl, (hBL _ (e2'.trans e5)).bs, hq'.mono (e2.trans e5), l1, q'⟩)
        (ea_cons (ev_callN0 (ea_cons (ev_var rfl) (ea_cons (ev_var rfl) ea_nil)) rfl fun H5 e5 Q' q' E' => ⟨.ref ga, bs, x, d, rfl, hBs _ (e2'.trans e5), hq'.mono (e2.trans e5), l1, q'⟩)
          (ea_cons (ev_call (ea_cons (ev_var rfl) (ea_cons (ev_var rfl) ea_nil)) fun H5 e5 Q' q' E' => ⟨.ref bl, bs, x, d, rfl, hBL _ (e2'.trans e5), hq'.mono (e2.trans e5), l1, q'⟩)
            (ea_cons (ev_callN0 (ea_cons (ev_var rfl) (ea_cons (ev_var rfl) ea_nil)) rfl fun H5 e5 Q' q' E' => ⟨.ref bl, bs, x, d, rfl, hBL _ (e2'.trans e5), hq'.mono (e2.trans e5), l1, q'⟩) ea_nil))))
      (by show 4 ≤ 100000; decide) H2 (Ex.refl H2) _ fun sl H3 hsl e3 h3 => ?_)
    have e3' := e2'.trans e3
    have e23 := e2.trans e3
    refine s_when (b := false) (et_is (et_or (a := false) (b := false) (et_reprNe (d := .list [.bool (keptD bs d), .bool (keptD bs d), .bool (ringD bs d), .bool (ringD bs d)]) (ev_rp (ev_var rfl) (.lst h3 (dq4 _ _ _)) (rp4 _ _))
        (ev_rpL (el_catK (xs := [.bl (keptD bs d), .bl (keptD bs d)]) (ys := [.bl (ringD bs d), .bl (ringD bs d)])
          (el_rep1 (n := 2) (ev_call (ea_cons (ev_var rfl) (ea_cons (ev_var rfl) ea_nil)) fun H5 e5 Q' q' E' => ⟨.ref bl, bs, x, d, rfl, hBL _ (e3'.trans e5), hq'.mono (e23.trans e5), l1, q'⟩) ev_c (by decide))
          (el_rep1 (n := 2) (ev_call (ea_cons (ev_var rfl) (ea_cons (ev_var rfl) ea_nil)) fun H5 e5 Q' q' E' => ⟨.ref bl, bs, x, d, rfl, hBL _ (e3'.trans e5), hq'.mono (e23.trans e5), l1, l2, q'⟩) ev_c (by decide)) (by show 4 ≤ 100000; decide)) (fun _ => dq4 _ _ _) (rp4 _ _)))
      fun _ => et_reprNe (ev_rp (ev_var rfl) (hq'.mono e23) td.rp) (ev_var rfl)) rfl) (fun z => nomatch z) fun _ H4 e4 => ⟨⟨_, _, _, rfl⟩, e3'.trans e4⟩
  · obtain ⟨⟨o8, o9, o10, rfl⟩, eH⟩ := pv
    exact k o8 o9 o10 H' eH
end
end K43
end
section
set_option maxHeartbeats 8000000
namespace K43
open PySem L2 Evl G OW
section
variable {σ : L2.St} {H : Hp} {tk : TA} {j : Nat} {sp : Sp} {gV : List V → List V → List V} {E : XK} {Q : VK} {c : TT} {tu tz : TS} {D : Ends} {v : V} {d : PyData}
theorem callN_k (h : tk σ H fun zs H1 => zs.length = j ∧ sp (gV [] zs) H1 Q E) : tCallN0 j sp gV E tk σ H Q := h
theorem q_whenK (h : c σ H fun b H' => if b = true then tu { D with nx := tz D } σ H' else tz D σ H') : tSeq (tIfS c tu tNext) tz D σ H := h
theorem rp_k (hd : Dq H v d) (hr : Rp d) (k : Q (.str d.shown) H) : rReprQ [v] H Q := by
  obtain ⟨s1, s2⟩ := shown_le d hr.f
  have s3 := depth_le d hr.f
  have s4 := hr.n
  have s5 := hr.dp
  exact ⟨v, d, rfl, hd, s2, by omega, sz_of (by omega), hr.w, k⟩
end
noncomputable def sp_bright : Sp := fun vs H Q _ => ∃ (p bl : Addr) (n : Nat) (us : List V) (bs : List B), vs = [.ref p, .int (n : Int), .ref bl] ∧ PotAt H p ∧ 1 ≤ n ∧ n ≤ 6 ∧ hid [p] H bl = some (.lst us) ∧ DqAll (hid [p] H) us (bs.map B.d) ∧ bs.length ≤ 10 ∧ fitsB bs n = true ∧ (∀ x ∈ bs, -BigM ≤ x.m ∧ x.m ≤ BigM) ∧ ∀ H2, Rg p H H2 → Q (.bl true) H2
section
variable {P : Program} {w : World} {K : PySem.W.Frag} {mg : Str → Option Value} {base : Heap}
theorem ok_bright {f f1 f2 f3 f4 f5 f6 f7 f8 f9 fa : Addr} {fd fd1 fd2 fd3 fd4 fd5 fd6 fd7 fd8 fd9 fda : FuncData} (F : Fun K "_law_bounds_right" "_law_bounds_right" s__law_bounds_right f fd) (T : Txt mg)
    (c__law_least : Cal P w K mg base "_law_least" f1 fd1 ["_law_many", "_law_bounds_here"] 1 sp_lleast) (c__law_draw : Cal P w K mg base "_law_draw" f2 fd2 ["_law_pot_here", "_law_many"] 1 sp_draw) (c__law_pick : Cal P w K mg base "_law_pick" f3 fd3 ["_law_pot_here", "_law_some"] 2 (sp_pick K))
    (c__law_bent : Cal P w K mg base "_law_bent" f4 fd4 ["_law_pot_here", "_law_value", "_law_bounds_here"] 3 sp_bent) (c__law_are_days : Cal P w K mg base "_law_are_days" f5 fd5 ["_law_bounds_here", "_law_value"] 2 sp_ldays) (c__law_is_ring : Cal P w K mg base "_law_is_ring" f6 fd6 ["_law_bounds_here", "_law_value"] 2 sp_lring)
    (c_least_days : Cal P w K mg base "least_days" f7 fd7 ["many", "bounds"] 7 sp_least) (c_ring_of : Cal P w K mg base "ring_of" f8 fd8 ["many", "bounds"] 7 sp_ring) (c_are_kept : Cal P w K mg base "are_kept" f9 fd9 ["bounds", "value"] 6 sp_kept) (c_is_ring : Cal P w K mg base "is_ring" fa fda ["bounds", "value"] 6 sp_isring)
    (kb_least_days_bounds_many : KBn K fd7 ["many", "bounds"] 0 ["bounds", "many"] (fun us ws => us ++ ws.reverse) (fun vs zs => vs ++ zs.reverse)) (kb_ring_of_bounds_many : KBn K fd8 ["many", "bounds"] 0 ["bounds", "many"] (fun us ws => us ++ ws.reverse) (fun vs zs => vs ++ zs.reverse))
    (kb_are_kept_value_bounds : KBn K fd9 ["bounds", "value"] 0 ["value", "bounds"] (fun us ws => us ++ ws.reverse) (fun vs zs => vs ++ zs.reverse)) (kb_is_ring_value_bounds : KBn K fda ["bounds", "value"] 0 ["value", "bounds"] (fun us ws => us ++ ws.reverse) (fun vs zs => vs ++ zs.reverse)) :
    FnG P w K mg base CX0 20 f fd ["_law_pot_here", "_law_many", "_law_bounds_here"] sp_bright := by
  refine okG F sc__law_bounds_right (fun vs H Q E h => ?_) (fun cdv A outer s H vs Q E hg hr h => ?_)
  · obtain ⟨p, bl, n, us, bs, rfl, _⟩ := h
    rfl
  · obtain ⟨p, bl, n, us, bs, rfl, hp, n1, n6, hbl, kus, hlen, hf, hm, k⟩ := h
    have hu := hr.units
    refine ⟨_, (pss_cons (ps_par (i := 3) (j := 4) (by rfl) sc__law_bounds_right.nd rfl rfl (by decide) rfl rfl (pa_cons (pe_call c__law_least.ok (hr.mono (by decide)) (by rfl) c__law_least.mgx c__law_least.kp c__law_least.bd .nil pass0 (pa_cons (pv 1) (pa_cons (pv 2) pa_nil))) (pa_cons (pe_callB (OW.call_reprQ hg hu) (by rfl) T.b_repr (by decide +kernel) (pa_cons (pv 2) pa_nil)) pa_nil)) (by rfl)) (pss_cons (ps_set (i := 5) sc__law_bounds_right.nd rfl (Or.inl rfl) (pe_ifExp (pt_cmpR op_eq (pe_call c__law_draw.ok (hr.mono (by decide)) (by rfl) c__law_draw.mgx c__law_draw.kp c__law_draw.bd .nil pass0 (pa_cons (pv 0) (pa_cons pe_int pa_nil))) pe_int (nomark _)) (pe_callTy call_tuple_of (by rfl) T.b_tuple (by decide +kernel) (pa_cons (pv 2) pa_nil)) (pe_callTy call_list_of (by rfl) T.b_list (by decide +kernel) (pa_cons (pv 2) pa_nil)))) (pss_cons (ps_for PassesOwn.never rfl (piL (K := K) rfl (pe_lst (pa_cons (pe_call c_least_days.ok (hr.mono (by decide)) (by rfl) c_least_days.mgx c_least_days.kp c_least_days.bd .nil pass0 (pa_cons (pv 1) (pa_cons (pv 2) pa_nil))) (pa_cons (pe_callN0 c_least_days.ok (hr.mono (by decide)) (by rfl) c_least_days.mgx c_least_days.kp kb_least_days_bounds_many pass0 (pk_cons (pv 5) (pk_cons (pv 1) pk_nil))) pa_nil)))) (pg_name (i := 6) sc__law_bounds_right.nd rfl (Or.inl rfl)) (pss_cons (ps_if (pt_cmpR op_ne (pe_callB (OW.call_reprQ hg hu) (by rfl) T.b_repr (by decide +kernel) (pa_cons (pv 6) pa_nil)) (pe_callB (OW.call_reprQ hg hu) (by rfl) T.b_repr (by decide +kernel) (pa_cons (pv 3) pa_nil)) (nomark _)) (pss_one (ps_ret pe_bl)) pss_nil) (pss_one (ps_if (pt_cmpR op_notN (pv 6) pe_non (nomark _)) (pss_one (ps_expr (pe_bm PySem.F.plainAttrs_list PySem.F.slot_list_append PySem.F.type_list_append mt_append (pv 6) (pa_cons pe_int pa_nil)))) pss_nil)))) (pss_cons (ps_if (pt_cmpR op_ne (pe_callB (OW.call_reprQ hg hu) (by rfl) T.b_repr (by decide +kernel) (pa_cons (pe_call c_least_days.ok (hr.mono (by decide)) (by rfl) c_least_days.mgx c_least_days.kp c_least_days.bd .nil pass0 (pa_cons (pv 1) (pa_cons (pv 2) pa_nil))) pa_nil)) (pe_callB (OW.call_reprQ hg hu) (by rfl) T.b_repr (by decide +kernel) (pa_cons (pv 3) pa_nil)) (nomark _)) (pss_one (ps_ret pe_bl)) pss_nil) (pss_cons (ps_set (i := 7) sc__law_bounds_right.nd rfl (Or.inr rfl) (pe_op op_cat (pe_lst (pa_cons pe_non (pa_cons (pe_lst (pa_cons (pe_tup pa_nil) pa_nil)) (pa_cons (pe_lst pa_nil) (pa_cons (pe_op op_rep (pe_lst (pa_cons pe_int pa_nil)) (pv 1)) (pa_cons (pe_listRg rfl (by rfl) T.b_list (prg_1 (by rfl) T.b_range (pv 1))) pa_nil)))))) (pe_ifExp (pt_cmpR op_notN (pv 3) pe_non (nomark _)) (pe_lst (pa_cons (pv 3) pa_nil)) (pe_lst pa_nil)))) (pss_cons (ps_for PassesOwn.never rfl (piL (K := K) rfl (pe_lst (pa_cons (pe_call c_ring_of.ok (hr.mono (by decide)) (by rfl) c_ring_of.mgx c_ring_of.kp c_ring_of.bd .nil pass0 (pa_cons (pv 1) (pa_cons (pv 2) pa_nil))) (pa_cons (pe_callN0 c_ring_of.ok (hr.mono (by decide)) (by rfl) c_ring_of.mgx c_ring_of.kp kb_ring_of_bounds_many pass0 (pk_cons (pv 5) (pk_cons (pv 1) pk_nil))) pa_nil)))) (pg_name (i := 6) sc__law_bounds_right.nd rfl (Or.inl rfl)) (pss_cons (ps_if (PW.pt (pw_or (pt_cmpR op_ne (pe_cmpR op_isN (pv 6) pe_non (nomark _)) (pe_cmpR op_notN (pv 3) pe_non (nomark _)) (nomark _)) (pw_or1 (PW.pt (pw_and (pt_cmpR op_notN (pv 6) pe_non (nomark _)) (pw_and1 (pt_not (pt_val (pe_callB (isiS (K := K) rfl) (by rfl) T.b_isinstance (by decide +kernel) (pa_cons (pv 6) (pa_cons (pe_bltn (v := .ty "list") (u := .type "list") (by rfl) T.b_list (by decide +kernel) rfl) pa_nil))))))))))) (pss_one (ps_ret pe_bl)) pss_nil) (pss_one (ps_if (pt_cmpR op_notN (pv 6) pe_non (nomark _)) (pss_cons (ps_if (PW.pt (pw_or (pt_not (pt_val (pe_call c__law_is_ring.ok (hr.mono (by decide)) (by rfl) c__law_is_ring.mgx c__law_is_ring.kp c__law_is_ring.bd .nil pass0 (pa_cons (pv 2) (pa_cons (pv 6) pa_nil))))) (pw_or (pt_cmpR op_notBl (pe_call c_is_ring.ok (hr.mono (by decide)) (by rfl) c_is_ring.mgx c_is_ring.kp c_is_ring.bd .nil pass0 (pa_cons (pv 2) (pa_cons (pe_callTy call_list_of (by rfl) T.b_list (by decide +kernel) (pa_cons (pv 6) pa_nil)) pa_nil))) pe_bl (nomark _)) (pw_or1 (pt_cmpR op_notBl (pe_call c_is_ring.ok (hr.mono (by decide)) (by rfl) c_is_ring.mgx c_is_ring.kp c_is_ring.bd .nil pass0 (pa_cons (pv 2) (pa_cons (pe_callTy call_tuple_of (by rfl) T.b_tuple (by decide +kernel) (pa_cons (pv 6) pa_nil)) pa_nil))) pe_bl (nomark _)))))) (pss_one (ps_ret pe_bl)) pss_nil) (pss_cons (ps_expr (pe_bm PySem.F.plainAttrs_list PySem.F.slot_list_append PySem.F.type_list_append mt_append (pv 7) (pa_cons (pe_callTy call_list_of (by rfl) T.b_list (by decide +kernel) (pa_cons (pv 6) pa_nil)) pa_nil))) (pss_one (ps_expr (pe_bm0 PySem.F.plainAttrs_list PySem.F.slot_list_clear PySem.F.type_list_clear mt_clear (pv 6)))))) pss_nil)))) (pss_cons (ps_set (i := 7) sc__law_bounds_right.nd rfl (Or.inr rfl) (pe_op op_cat (pv 7) (pe_lc (own := [("_law_turn", 11)]) (g := (gName 11)) (by rfl) sc__law_bounds_right.nd (pi_range1 (by rfl) T.b_range (pa_cons pe_int pa_nil)) (blkOk_by (own := [("_law_turn", 11)]) (N := ["_law_pot_here", "_law_many", "_law_bounds_here", "_law_least_here", "_law_shown", "_law_given", "_law_told", "_law_things", "_law_thing", "_law_kept", "_law_some", "_law_turn"]) (sc := defScope s__law_bounds_right) (by decide +kernel)) (fun _ _ _ _ _ => (pg_name (i := 11) sc__law_bounds_right.nd rfl (Or.inl rfl))) (fun _ _ _ _ _ => pts_nil) (fun _ _ _ _ _ => (pe_call c__law_bent.ok (hr.mono (by decide)) (by rfl) c__law_bent.mgx c__law_bent.kp c__law_bent.bd .nil pass0 (pa_cons (pv 0) (pa_cons (pe_call c__law_pick.ok (hr.mono (by decide)) (by rfl) c__law_pick.mgx c__law_pick.kp c__law_pick.bd .nil pass0 (pa_cons (pv 0) (pa_cons (pe_slice (slK (K := K) rfl) (pv 7) (po_some pe_int) po_none) pa_nil))) (pa_cons (pv 2) pa_nil)))))))) (pss_cons (ps_expr (pe_bm PySem.F.plainAttrs_list PySem.F.slot_list_append PySem.F.type_list_append mt_append (pv 7) (pa_cons (pe_ifExp (pt_cmpR (neD (K := K) rfl hr.units) (pv 2) (pe_lst pa_nil) (nomark _)) (pe_lc (own := [("_law_turn", 11)]) (g := (gName 11)) (by rfl) sc__law_bounds_right.nd (pi_range1 (by rfl) T.b_range (pa_cons (pe_op op_add pe_int (pe_call c__law_draw.ok (hr.mono (by decide)) (by rfl) c__law_draw.mgx c__law_draw.kp c__law_draw.bd .nil pass0 (pa_cons (pv 0) (pa_cons pe_int pa_nil)))) pa_nil)) (blkOk_by (own := [("_law_turn", 11)]) (N := ["_law_pot_here", "_law_many", "_law_bounds_here", "_law_least_here", "_law_shown", "_law_given", "_law_told", "_law_things", "_law_thing", "_law_kept", "_law_some", "_law_turn"]) (sc := defScope s__law_bounds_right) (by decide +kernel)) (fun _ _ _ _ _ => (pg_name (i := 11) sc__law_bounds_right.nd rfl (Or.inl rfl))) (fun _ _ _ _ _ => pts_nil) (fun _ _ _ _ _ => (pe_call c__law_pick.ok (hr.mono (by decide)) (by rfl) c__law_pick.mgx c__law_pick.kp c__law_pick.bd .nil pass0 (pa_cons (pv 0) (pa_cons (pv 2) pa_nil))))) (pe_lst pa_nil)) pa_nil))) (pss_cons (ps_for PassesOwn.never rfl (piL (K := K) rfl (pv 7)) (pg_name (i := 8) sc__law_bounds_right.nd rfl (Or.inl rfl)) (pss_cons (ps_set (i := 9) sc__law_bounds_right.nd rfl (Or.inl rfl) (pe_callB (OW.call_reprQ hg hu) (by rfl) T.b_repr (by decide +kernel) (pa_cons (pv 8) pa_nil))) (pss_cons (ps_set (i := 10) sc__law_bounds_right.nd rfl (Or.inl rfl) (pe_lst (pa_cons (pe_call c_are_kept.ok (hr.mono (by decide)) (by rfl) c_are_kept.mgx c_are_kept.kp c_are_kept.bd .nil pass0 (pa_cons (pv 2) (pa_cons (pv 8) pa_nil))) (pa_cons (pe_callN0 c_are_kept.ok (hr.mono (by decide)) (by rfl) c_are_kept.mgx c_are_kept.kp kb_are_kept_value_bounds pass0 (pk_cons (pv 8) (pk_cons (pv 5) pk_nil))) (pa_cons (pe_call c_is_ring.ok (hr.mono (by decide)) (by rfl) c_is_ring.mgx c_is_ring.kp c_is_ring.bd .nil pass0 (pa_cons (pv 2) (pa_cons (pv 8) pa_nil))) (pa_cons (pe_callN0 c_is_ring.ok (hr.mono (by decide)) (by rfl) c_is_ring.mgx c_is_ring.kp kb_is_ring_value_bounds pass0 (pk_cons (pv 8) (pk_cons (pv 2) pk_nil))) pa_nil)))))) (pss_one (ps_if (PW.pt (pw_or (pt_cmpR op_ne (pe_callB (OW.call_reprQ hg hu) (by rfl) T.b_repr (by decide +kernel) (pa_cons (pv 10) pa_nil)) (pe_callB (OW.call_reprQ hg hu) (by rfl) T.b_repr (by decide +kernel) (pa_cons (pe_op op_cat (pe_op op_rep (pe_lst (pa_cons (pe_call c__law_are_days.ok (hr.mono (by decide)) (by rfl) c__law_are_days.mgx c__law_are_days.kp c__law_are_days.bd .nil pass0 (pa_cons (pv 2) (pa_cons (pv 8) pa_nil))) pa_nil)) pe_int) (pe_op op_rep (pe_lst (pa_cons (pe_call c__law_is_ring.ok (hr.mono (by decide)) (by rfl) c__law_is_ring.mgx c__law_is_ring.kp c__law_is_ring.bd .nil pass0 (pa_cons (pv 2) (pa_cons (pv 8) pa_nil))) pa_nil)) pe_int)) pa_nil)) (nomark _)) (pw_or1 (pt_cmpR op_ne (pe_callB (OW.call_reprQ hg hu) (by rfl) T.b_repr (by decide +kernel) (pa_cons (pv 8) pa_nil)) (pv 9) (nomark _))))) (pss_one (ps_ret pe_bl)) pss_nil))))) (pss_one (ps_ret (pe_cmpR op_eq (pe_callB (OW.call_reprQ hg hu) (by rfl) T.b_repr (by decide +kernel) (pa_cons (pv 2) pa_nil)) (pv 4) (nomark _))))))))))))), ?_⟩
    have hz := hp.hd
    have pz : p ∈ [p] := by simp
    have hlu : (bs.map B.d).length ≤ 10 := by rw [List.length_map]; exact hlen
    have hbo := bnds_row hf (by omega) hm
    have BLof : ∀ {H' : Hp}, Rg p H H' → BL H' (.ref bl) bs := fun r => ⟨bl, us, rfl, r.at pz hbl, (kus.mono (r.ex pz)).mono hid_ex, by omega⟩
    refine par_k (ac_k (call_k (ac_v (ev_var rfl) fun H1 e1 => ac_v (ev_var rfl) fun H2 e2 => ac_nil ⟨n, .ref bl, bs, rfl, n1, by omega, BLof (((Rg.rfl hp).mono e1).mono e2), hf, fun vl H3 s e3 fin tl => ?_⟩)))
    have tl : TL s vl H2 H3 := tl
    have e13 := (e1.trans e2).trans e3
    have r3 := (Rg.rfl hp).mono e13
    refine ac_v (ev_rp (ev_var rfl) (.lst (r3.at pz hbl) ((kus.mono (r3.ex pz)).mono hid_ex)) (hbo.tm (by omega)).rp) fun H4 e4 => ac_nil ⟨_, _, rfl, ?_⟩
    have r4 := r3.mono e4
    have fin1 : ∀ s', Fin bs n s' → s' = s := fun s' h => Fin_one h fin
    -- the least days told
    have tlH : TL s vl H H4 := (tl.mono e4).back (e1.trans e2)
    have hvl : Dq (hid [p] H4) vl (Lst s) := by
      have t := tlH
      unfold TL at t
      unfold Lst
      cases q : leastOf s with
      | none => rw [q] at t; cases t; exact .non
      | some ds =>
        rw [q] at t
        obtain ⟨a, rfl, fa, ga⟩ := t
        exact .lst (by rw [hid_off (hz.new fa)]; exact ga) (dq_intsK ds)
    have hrl : Rp (Lst s) := by
      unfold Lst
      cases q : leastOf s with
      | none => exact rp_none
      | some ds =>
        obtain ⟨h1, h2⟩ := least_row hm hlen (by omega) fin q
        exact (RowOk.tm (.inl ⟨ds, rfl, h2⟩) (by rw [List.length_map]; omega)).rp
    -- the bounds given
    refine asg_k (tIfD (p := p) (fun g H' => Rg p H4 H' ∧ ∃ ga, g = .ref ga ∧ (hid [p] H' ga = some (.lst us) ∨ hid [p] H' ga = some (.tup us))) (fun Q' q' => test_k (op_k (drawC r4.hp rfl ev_c (by decide) (by decide) fun d H5 d0 d1 e5 hp5 => v_k ev_c fun H6 e6 => ⟨rfl, _, rfl, q' _ H6 (((Rg.rfl r4.hp).step e5 hp5).mono e6)⟩)))
      (fun H5 r45 Q' q' => cb_k (ac_v (ev_var rfl) fun H6 e6 => ac_nil ⟨bl, us, rfl, .inl ⟨sq_of (((r4.tr r45).mono e6).at pz hbl), fun q hq => q' _ _ ⟨(r45.mono e6).mono (Ex.new hq), q, rfl, .inr (by rw [hid_off ((((r4.tr r45).mono e6).hz hz).new hq)]; exact upd_same)⟩⟩⟩))
      (fun H5 r45 Q' q' => cb_k (ac_v (ev_var rfl) fun H6 e6 => ac_nil ⟨bl, us, rfl, .inl (sq_of (((r4.tr r45).mono e6).at pz hbl)), fun q hq => q' _ _ ⟨(r45.mono e6).mono (Ex.new hq), q, rfl, .inl (by rw [hid_off ((((r4.tr r45).mono e6).hz hz).new hq)]; exact upd_same)⟩⟩)) ?_)
    rintro _ H5 ⟨r45, ga, rfl, hga⟩
    have r5 := r4.tr r45
    have BsG : ∀ {H' : Hp}, Rg p H5 H' → Bs H' (.ref ga) bs := fun r => by
      rcases hga with h | h
      · exact ⟨.list (bs.map B.d), .lst (r.at pz h) ((kus.mono ((r5.tr r).ex pz)).mono hid_ex), rfl, rfl, by omega⟩
      · exact ⟨.tuple (bs.map B.d), .tup (r.at pz h) ((kus.mono ((r5.tr r).ex pz)).mono hid_ex), rfl, rfl, by omega⟩
    have dl5 : Dq H5 vl (Lst s) := (hvl.mono (r45.ex pz)).mono hid_ex
    -- told twice
    refine told1 (K := K) (s := s) (vl := vl) rfl rfl (by show 6 < 12; decide) dl5 hrl
      (fun H6 e6 Q' q' => call_k (ac_v (ev_var rfl) fun H7 e7 => ac_v (ev_var rfl) fun H8 e8 => ac_nil ⟨n, .ref bl, bs, rfl, n1, by omega, (BLof (((r5.mono e6).mono e7).mono e8)).bs, hf, fun v H9 s' e9 fin' t' => q' v H9 ((e7.trans e8).trans e9) (by rw [← fin1 s' fin']; exact TL.back t' (e7.trans e8))⟩))
      (fun H6 e6 Q' q' => callN_k (ac_v (ev_var rfl) fun H7 e7 => ac_v (ev_var rfl) fun H8 e8 => ac_nil ⟨rfl, n, .ref ga, bs, rfl, n1, by omega, BsG ((((Rg.rfl r5.hp).mono e6).mono e7).mono e8), hf, fun v H9 s' e9 fin' t' => q' v H9 ((e7.trans e8).trans e9) (by rw [← fin1 s' fin']; exact TL.back t' (e7.trans e8))⟩)) fun o6 H6 e6 => ?_
    have r6 := r5.mono e6
    -- told once more
    refine q_whenK (test_k (op_k (cb_k (ac_k (call_k (ac_v (ev_var rfl) fun H7 e7 => ac_v (ev_var rfl) fun H8 e8 => ac_nil ⟨n, .ref bl, bs, rfl, n1, by omega, (BLof ((r6.mono e7).mono e8)).bs, hf, fun v H9 s' e9 fin' t' => ac_nil (rp_k (d := Lst s) (by rw [← fin1 s' fin']; exact TL.dq t') hrl ?_)⟩))))))
    refine ev_rp (ev_var rfl) (dl5.mono (((e6.trans e7).trans e8).trans e9)) hrl H9 (Ex.refl H9) _ fun Ha ea => ⟨rfl, _, rfl, ?_⟩
    rw [if_neg (by rw [decide_eq_true rfl]; decide)]
    have e6a := ((((e6.trans e7).trans e8).trans e9).trans ea)
    have ra := r5.mono e6a
    -- the things
    have za := ra.hz hz
    have hvx : vl = .non ∨ (vl ≠ .non ∧ Dq (hid [p] Ha) vl (Lst s) ∧ RL (Lst s)) := by
      have t := tlH
      have dq := ((hvl.mono (r45.ex pz)).mono (hid_mono e6a))
      unfold TL at t
      unfold Lst at dq ⊢
      cases q : leastOf s with
      | none => rw [q] at t; exact .inl t
      | some ds =>
        rw [q] at t dq
        obtain ⟨a, rfl, fa, ga⟩ := t
        obtain ⟨h1, h2⟩ := least_row hm hlen (by omega) fin q
        exact .inr ⟨by simp, dq, _, rfl, .inl ⟨ds, rfl, h2⟩, by rw [List.length_map]; omega⟩
    have hvd : decide (vl = V.non) = s.r.isSome := by
      have t := tlH
      unfold TL at t
      cases q : s.r with
      | none =>
        have : leastOf s = some (s.ds.map (· - s.ds.getD 0 0)) := by unfold leastOf; rw [if_pos q]
        rw [this] at t
        obtain ⟨a, rfl, _⟩ := t
        rfl
      | some y =>
        have : leastOf s = none := by unfold leastOf; rw [if_neg (by rw [q]; simp)]
        rw [this] at t
        rw [show vl = V.non from t]; rfl
    refine asg_k (things_k (p := p) (n := n) (vl := vl) (e := Lst s) rfl rfl za n6 hvx fun T1 Hb hT1 eb th1 => ?_)
    -- rings told
    refine told2 (K := K) (H0 := Ha) (p := p) (T := T1) (vl := vl) (s := s) (bs := bs) (n := n) (N := 4) (bl := bl) (o0 := o6) rfl rfl rfl rfl (by show 6 < 12; decide) hvd (fun H' e' => BLof (ra.mono e')) n6 (fun ring h => ring_row h hf (by omega) hm) ra.hp eb hT1 th1 (by decide)
      (fun H7 e7 Q' q' => call_k (ac_v (ev_var rfl) fun H8 e8 => ac_v (ev_var rfl) fun H9 e9 => ac_nil ⟨n, .ref bl, bs, rfl, n1, by omega, (BLof ((((ra.mono eb).mono e7).mono e8).mono e9)).bs, hf, fun v Hc s' ec fin' t' => q' v Hc ((e8.trans e9).trans ec) (by rw [← fin1 s' fin']; exact RT.back t' (e8.trans e9))⟩))
      (fun H7 e7 Q' q' => callN_k (ac_v (ev_var rfl) fun H8 e8 => ac_v (ev_var rfl) fun H9 e9 => ac_nil ⟨rfl, n, .ref ga, bs, rfl, n1, by omega, BsG (((((Rg.rfl r5.hp).mono e6a).mono eb).mono e7).mono (e8.trans e9)), hf, fun v Hc s' ec fin' t' => q' v Hc ((e8.trans e9).trans ec) (by rw [← fin1 s' fin']; exact RT.back t' (e8.trans e9))⟩)) fun o7 Hd' ed th2 => ?_
    have rd : Rg p H Hd' := ra.mono ed
    have T1p : T1 ≠ p := fun z => by obtain ⟨o, ho⟩ := ra.hp.some; rw [z, ho] at hT1; cases hT1
    -- bent rows
    refine asg_k (bents_k (K := K) (p := p) (T := T1) (bl := bl) (bs := bs) (us := us) (N := 6) (fun _ => rfl) (fun _ => rfl) (fun _ => rfl) rfl (fun _ => rfl) rd.hp (rd.ex pz _ _ hbl) (kus.mono (rd.ex pz)) hbo hlen th2 (by decide) T1p fun T2 tv ds He hT2 re hTv kds tds lds => ?_)
    have rE : Rg p H He := rd.tr re
    have T2p : T2 ≠ p := fun z => by obtain ⟨o, ho⟩ := rd.hp.some; rw [z, ho] at hT2; cases hT2
    -- and drawn bounds
    refine dropSeq_k (bm_k (v_k (ev_var rfl) fun Hf ef => ?_))
    refine ⟨Or.inl ⟨rfl, tv, sq_of (ef _ _ hTv)⟩, ac_k ?_⟩
    have rF := rE.mono ef
    refine last_k (K := K) (p := p) (bl := bl) (bs := bs) (us := us) (fun _ => rfl) (fun _ => rfl) rfl rfl (fun _ => rfl) rF.hp (rF.ex pz _ _ hbl) (kus.mono (rF.ex pz)) hlen fun c ys ring Hg rg hc gc kys hring lring => ac_nil ?_
    have T2g : Hg T2 = some (.lst tv) := rg.x _ _ (by rw [wo_ne T2p]; exact ef _ _ hTv)
    have hTvF : Hf T2 = some (.lst tv) := ef _ _ hTv
    refine ⟨T2, tv, .ref c, rfl, rfl, T2g, sz_lt (by rw [kds.len]; omega), ?_⟩
    generalize hX : upd Hg T2 (.lst (tv ++ [.ref c])) = X
    have rG : Rg p H Hg := rF.tr rg
    have pX : PotAt X p := by
      obtain ⟨a, b, h1, h2⟩ := rG.hp
      exact ⟨a, b, h1, by rw [← hX, upd_ne (Ne.symm T2p)]; exact h2⟩
    have hT2H : ∀ b o, hid [p] Hd' b = some o → b ≠ T2 := fun b o h z => by
      have := hid_ex _ _ h
      rw [z, hT2] at this; cases this
    -- what lay before the things is not touched
    have xX : Ex (hid [p] Hd') (hid [p] X) := fun b o h => by
      have hb : b ∉ [p] := fun z => by rw [hid_at z] at h; cases h
      have h2 := ((re.mono ef).tr rg).ex pz _ _ h
      rw [hid_off hb] at h2 ⊢
      rw [← hX, upd_ne (hT2H b o h)]; exact h2
    have fr2 : ∀ {Y : Hp}, Rg p Y Hd' → Y T2 = none := fun {Y} r => by
      cases q : Y T2 with
      | none => rfl
      | some o => have := r.x T2 o (by rw [wo_ne T2p]; exact q); rw [this] at hT2; cases hT2
    have rX : ∀ {Y : Hp}, Rg p Y Hd' → Rg p Y X := fun {Y} r => ⟨fun b o h => by
      have hbp : b ≠ p := fun z => by rw [z, wo_at] at h; cases h
      have hb2 : b ≠ T2 := fun z => by rw [wo_ne hbp, z, fr2 r] at h; cases h
      have := (r.tr ((re.mono ef).tr rg)).x b o h
      rw [← hX, upd_ne hb2]; exact this, pX⟩
    have rHX : Rg p H X := rX rd
    have r5X : Rg p H5 X := rX (((Rg.rfl r5.hp).mono e6a).mono ed)
    have cT2 : c ≠ T2 := fun z => by rw [← z, hc] at hTvF; cases hTvF
    have kX : DqAll X (tv ++ [.ref c]) (ds ++ [.list (ring.map B.d)]) := by
      have x1 : Ex (hid [p, T2] Hg) (hid [p, T2] X) := by rw [← hX]; exact hid_updE (by simp)
      have k1 := (((kds.mono (hid_mono ef)).mono (rg.ex (by simp))).mono x1).mono hid_ex
      refine k1.app (.cons (.lst (by rw [← hX, upd_ne cT2]; exact gc) ?_) .nil)
      rw [← hX]
      exact dq_keepD (fun u => by rw [T2g]; exact fun z => nomatch z) kys
    have tX : ∀ e ∈ ds ++ [.list (ring.map B.d)], Tm e := fun e he => by
      rcases List.mem_append.mp he with z | z
      · exact tds e z
      · rw [List.mem_singleton.mp z]
        refine RowOk.tm ?_ (by rw [List.length_map]; omega)
        rcases hbo with ⟨ns, hns, _⟩ | ⟨r, hr, h⟩
        · cases q : ring with
          | nil => exact .inl ⟨[], rfl, fun i hi => nomatch hi⟩
          | cons y ys' =>
            have hy := hring y (by rw [q]; exact List.mem_cons_self ..)
            have : B.d y ∈ ns.map PyData.int := by rw [← hns]; exact List.mem_map_of_mem hy
            obtain ⟨i, _, hi⟩ := List.mem_map.mp this
            cases hi
        · refine .inr ⟨ring, rfl, fun x hx => ?_⟩
          have : B.d x ∈ r.map B.d := by rw [← hr]; exact List.mem_map_of_mem (hring x hx)
          obtain ⟨y, hy, hyx⟩ := List.mem_map.mp this
          have := h y hy
          rw [← toB_of x, ← hyx, toB_of]; exact this
    refine judge_k (K := K) (bs := bs) (bl := bl) (ga := ga) (T := T2) (tv := tv ++ [.ref c]) (by rw [← hX]; exact upd_same) kX tX (fun H' e' => BLof (rHX.mono e')) (fun H' e' => BsG (r5X.mono e')) fun o8 o9 o10 Hy ey => ?_
    have ry := rHX.mono ey
    exact s_ret (ev_is (ev_op (ev_rp (ev_var rfl) (.lst (ry.at pz hbl) ((kus.mono (ry.ex pz)).mono hid_ex)) (hbo.tm (by omega)).rp) (ev_var rfl) (rv_eq rfl)) (congrArg V.bl (decide_eq_true rfl))) fun Hz ez => k Hz (ry.mono ez)
end
end K43
end
section
set_option maxHeartbeats 8000000
namespace K43
open PySem L2 Evl G OW
theorem hd0 {H : Hp} : Hd [] H := fun b hb => nomatch hb
theorem un0 {H : Hp} : Ex H (hid [] H) := fun b o h => by rw [hid_off (List.not_mem_nil)]; exact h
section
variable {K : PySem.W.Frag} {σ : L2.St} {H H0 : Hp} {te tc ta tb : TE} {tA : TA} {Q : VK} {E E1 : XK} {D : Ends} {tz ts : TS} {v : V} {d e : PyData} {s : S} {bs : List B} {n : Nat} {ns : List Int}
noncomputable def EvLr (Z : List Addr) (te : TE) (σ : L2.St) (H : Hp) (ds : List PyData) : Prop := ∀ H1, Ex H H1 → ∀ Q : VK, (∀ a vs H2, Ex H1 H2 → hid Z H2 a = some (.lst vs) → DqAll (hid Z H2) vs ds → Q (.ref a) H2) → te σ H1 Q
theorem lr_of {Z : List Addr} {ds : List PyData} (h : EvLw Z te σ H ds) : EvLr Z te σ H ds := fun H1 e Q q => h H1 e Q fun a vs H2 _ e2 h2 k2 => q a vs H2 e2 h2 k2
theorem lr_var {Z : List Addr} {ds : List PyData} {a : Addr} {xs : List V} (h : Ev te σ H (.ref a)) (hx : hid Z H a = some (.lst xs)) (k : DqAll (hid Z H) xs ds) : EvLr Z te σ H ds := fun H1 e Q q => h H1 e Q fun H2 e2 => q a xs H2 e2 (hid_mono (e.trans e2) _ _ hx) (k.mono (hid_mono (e.trans e2)))
theorem lr_cat {Z : List Addr} {ds es : List PyData} (hz : Hd Z H) (h1 : EvLr Z ta σ H ds) (h2 : EvLr Z tb σ H es) (hl : ds.length + es.length ≤ 1000) : EvLr Z (tOp rCat ta tb) σ H (ds ++ es) := fun H1 e1 Q q =>
  h1 H1 e1 _ fun a vs H2 e2 g1 g2 => h2 H2 (e1.trans e2) _ fun b us H3 e3 f1 f2 => ⟨a, b, vs, us, rfl, rfl, hid_ex _ _ (hid_mono e3 _ _ g1), hid_ex _ _ f1, sz_of (by rw [g2.len, f2.len]; omega), fun p hp => q p _ _ ((e2.trans e3).trans (Ex.new hp)) (by rw [hid_off ((hz.mono ((e1.trans e2).trans e3)).new hp)]; exact upd_same) (((g2.mono (hid_mono e3)).app f2).mono (hid_mono (Ex.new hp)))⟩
theorem lr_eq {Z : List Addr} {ds es : List PyData} (h : EvLr Z te σ H ds) (e : ds = es) : EvLr Z te σ H es := e ▸ h
theorem ew_eq {Z : List Addr} (h : EvW Z te σ H d) (h2 : d = e) : EvW Z te σ H e := h2 ▸ h
theorem rv_nb {x y : Bool} : RV rNotB (.bl x) (.bl y) H (.bl (!decide (x = y))) := fun H1 _ Q q => ⟨x, y, rfl, rfl, q H1 (Ex.refl H1)⟩
theorem rv_ib {x y : Bool} : RV rIsB (.bl x) (.bl y) H (.bl (decide (x = y))) := fun H1 _ Q q => ⟨x, y, rfl, rfl, q H1 (Ex.refl H1)⟩
theorem least_lit (fin : Fin bs n s) (hL : EvLr [] tb σ H (bs.map B.d)) (n1 : 1 ≤ n) (n2 : n ≤ 100) (hf : fitsB bs n = true) (hl : bs.length ≤ 1000) : EvW [] (tCall sp_least [] E (tCons (tC (.int (n : Int))) (tCons tb tNil))) σ H (Lst s) := fun H1 e1 Q q =>
  call_k (ac_v ev_c fun H2 e2 => hL H2 (e1.trans e2) _ fun a vs H3 e3 h3 k3 => ac_nil ⟨n, .ref a, bs, rfl, n1, n2, ⟨.list (bs.map B.d), .lst (hid_ex _ _ h3) (k3.mono hid_ex), rfl, rfl, hl⟩, hf, fun v H4 s' e4 fin' tl => q v H4 ((e2.trans e3).trans e4) (by
    rw [Fin_one fin fin']
    exact (TL.dq (H0 := H3) (show TL s' v H3 H4 from tl)).mono un0)⟩)
theorem eqv_ints : ∀ ns : List Int, PyData.eqvAll (ns.map PyData.int) (ns.map PyData.int) = true
  | [] => by simp [PyData.eqvAll]
  | n :: ns => by simp [PyData.eqvAll, PyData.eqv, eqv_ints ns]
theorem ne_lit (h1 : EvW [] ta σ H (.list (ns.map PyData.int))) (h2 : EvW [] tb σ H (.list (ns.map PyData.int))) : EvT (tTest (tOp (rNeD K) ta tb)) σ H false :=
  et_is (et_test (evd_neD (K := K) (d := .list (ns.map PyData.int)) (e := .list (ns.map PyData.int)) (fun H1 e1 Q q => h1 H1 e1 _ fun v H2 e2 hd => q v H2 e2 (dq_dp _ (by rw [PyData.canLay0]; exact layAll_ints ns) (hd.mono hid_ex))) (fun H1 e1 Q q => h2 H1 e1 _ fun v H2 e2 hd => q v H2 e2 (dq_dp _ (by rw [PyData.canLay0]; exact layAll_ints ns) (hd.mono hid_ex))) (shaped_ints ns) (shaped_ints ns)))
    (by rw [show PyData.eqv (.list (ns.map PyData.int)) (.list (ns.map PyData.int)) = true by simp [PyData.eqv, eqv_ints]]; rfl)
theorem lst_of {ds : List Int} (h : leastOf s = some ds) : Lst s = .list (ds.map PyData.int) := by unfold Lst; rw [h]
theorem lst_no (h : leastOf s = none) : Lst s = .none := by unfold Lst; rw [h]
theorem kept_lit {d : PyData} (hL : EvLr [] ta σ H (bs.map B.d)) (hd : EvW [] tb σ H d) (hl : bs.length ≤ 1000) (hk : (items d).length ≤ 30000) : Ev (tCall sp_kept [] E (tCons ta (tCons tb tNil))) σ H (.bl (keptD bs d)) := fun H1 e1 Q q =>
  call_k (hL H1 e1 _ fun a vs H2 e2 h2 k2 => ac_k (hd H2 (e1.trans e2) _ fun v H3 e3 h3 => ac_nil ⟨.ref a, bs, v, d, rfl, ⟨.list (bs.map B.d), (Dq.lst (hid_ex _ _ h2) (k2.mono hid_ex)).mono e3, rfl, rfl, hl⟩, h3.mono hid_ex, hk, fun H4 e4 => q H4 ((e2.trans e3).trans e4)⟩))
theorem isring_lit {d : PyData} (hL : EvLr [] ta σ H (bs.map B.d)) (hd : EvW [] tb σ H d) (hl : bs.length ≤ 1000) (hk : (items d).length ≤ 30000) : Ev (tCall sp_isring [] E (tCons ta (tCons tb tNil))) σ H (.bl (ringD bs d)) := fun H1 e1 Q q =>
  call_k (hL H1 e1 _ fun a vs H2 e2 h2 k2 => ac_k (hd H2 (e1.trans e2) _ fun v H3 e3 h3 => ac_nil ⟨.ref a, bs, v, d, rfl, ⟨a, vs, rfl, e3 _ _ (hid_ex _ _ h2), (k2.mono hid_ex).mono e3, hl⟩, h3.mono hid_ex, hk, fun H4 e4 => q H4 ((e2.trans e3).trans e4)⟩))
/-- a ring told, of bounds that forbid -/
noncomputable def RgD (bs : List B) (v : V) (H : Hp) : Prop := ∃ a rs ring, v = .ref a ∧ H a = some (.lst rs) ∧ DqAll H rs (ring.map B.d) ∧ RingOk bs ring ∧ ring.length ≤ 100
theorem lring_lit (hL : EvLr [] ta σ H (bs.map B.d)) (hd : ∀ H1, Ex H H1 → ∀ Q : VK, (∀ v H2, Ex H1 H2 → RgD bs v H2 → Q v H2) → tb σ H1 Q) (hl : bs.length ≤ 1000) : Ev (tCall sp_lring [] E (tCons ta (tCons tb tNil))) σ H (.bl true) := fun H1 e1 Q q =>
  call_k (hL H1 e1 _ fun a vs H2 e2 h2 k2 => ac_k (hd H2 (e1.trans e2) _ fun v H3 e3 rg => by
    obtain ⟨r, rs, ring, rfl, g1, g2, ok, hlr⟩ := rg
    refine ac_nil ⟨.ref a, bs, .ref r, .list (ring.map B.d), rfl, ⟨a, vs, rfl, e3 _ _ (hid_ex _ _ h2), (k2.mono hid_ex).mono e3, hl⟩, .lst g1 g2, by show (ring.map B.d).length ≤ 30000; rw [List.length_map]; omega, fun t ht => ?_, by rw [ring_good ok rfl rfl]; exact fun H4 e4 => q H4 ((e2.trans e3).trans e4)⟩
    obtain ⟨x, _, rfl⟩ := List.mem_map.mp ht
    show 3 ≤ 30000
    decide))

theorem ring_lit (fin : Fin bs n s) (hr : s.r ≠ none) (hL : EvLr [] tb σ H (bs.map B.d)) (n1 : 1 ≤ n) (n2 : n ≤ 100) (hf : fitsB bs n = true) (hl : bs.length ≤ 1000) (H1 : Hp) (e1 : Ex H H1) (Q : VK) (q : ∀ v H2, Ex H1 H2 → RgD bs v H2 → Q v H2) : tCall sp_ring [] E (tCons (tC (.int (n : Int))) (tCons tb tNil)) σ H1 Q :=
  call_k (ac_v ev_c fun H2 e2 => hL H2 (e1.trans e2) _ fun a vs H3 e3 h3 k3 => ac_nil ⟨n, .ref a, bs, rfl, n1, n2, ⟨.list (bs.map B.d), .lst (hid_ex _ _ h3) (k3.mono hid_ex), rfl, rfl, hl⟩, hf, fun v H4 s' e4 fin' tl => q v H4 ((e2.trans e3).trans e4) (by
    rcases tl with ⟨h, _⟩ | ⟨_, p, rs, ring, h1, _, h3, h4, h5, h6⟩
    · rw [Fin_one fin' fin] at h; exact absurd h hr
    · exact ⟨p, rs, ring, h1, h3, h4, h5, by omega⟩)⟩)
theorem noring_lit (fin : Fin bs n s) (hr : s.r = none) (hL : EvLr [] tb σ H (bs.map B.d)) (n1 : 1 ≤ n) (n2 : n ≤ 100) (hf : fitsB bs n = true) (hl : bs.length ≤ 1000) : Ev (tCall sp_ring [] E (tCons (tC (.int (n : Int))) (tCons tb tNil))) σ H .non := fun H1 e1 Q q =>
  call_k (ac_v ev_c fun H2 e2 => hL H2 (e1.trans e2) _ fun a vs H3 e3 h3 k3 => ac_nil ⟨n, .ref a, bs, rfl, n1, n2, ⟨.list (bs.map B.d), .lst (hid_ex _ _ h3) (k3.mono hid_ex), rfl, rfl, hl⟩, hf, fun v H4 s' e4 fin' tl => by
    rcases tl with ⟨_, rfl⟩ | ⟨h, _⟩
    · exact q H4 ((e2.trans e3).trans e4)
    · rw [Fin_one fin' fin] at h; exact absurd hr h⟩)
end
noncomputable def chain : List B := (List.range 19).map fun i => ⟨18 - i, 19 - i, -2⟩
theorem chain_least : leastOf (runTo chain 20 20) = some ((List.range 20).map fun (i : Nat) => 2 * (i : Int)) := by decide +kernel
theorem chain_fin : Fin chain 20 (runTo chain 20 20) := .inl ⟨19, by decide, rfl, by decide +kernel, by decide +kernel⟩
theorem loose_fin : Fin (chain ++ [⟨19, 0, 38⟩]) 20 (runTo (chain ++ [⟨19, 0, 38⟩]) 20 20) := .inl ⟨19, by decide, rfl, by decide +kernel, by decide +kernel⟩
theorem tight_fin : Fin (chain ++ [⟨19, 0, 37⟩]) 20 (runTo (chain ++ [⟨19, 0, 37⟩]) 20 21) := .inr ⟨rfl, by decide +kernel, by decide +kernel⟩
theorem tight_fin2 : Fin ([⟨19, 0, 37⟩] ++ chain) 20 (runTo ([⟨19, 0, 37⟩] ++ chain) 20 21) := .inr ⟨rfl, by decide +kernel, by decide +kernel⟩
theorem chain_at {i : Nat} (h : i < 19) : chain.take (i + 1) = chain.take i ++ [⟨18 - i, 19 - i, -2⟩] := by
  rw [List.take_add_one]
  congr 1
  unfold chain
  rw [List.getElem?_map, List.getElem?_range h]; rfl
theorem chain_k0 {σ : L2.St} {H : Hp} {Q : VK} {tA : TA} {vs : List Nat} (hA : EvA tA σ H [.int 18, .int (-1), .int (-1)]) (hw : ∀ x, wipe ((wipe σ vs).set 2 (some x)) vs = wipe σ vs) (v2 : ∀ x, ((wipe σ vs).set 2 (some x))[2]? = some (some x)) (k : ∀ a xs H2, Ex H H2 → H2 a = some (.lst xs) → DqAll H2 xs (chain.map B.d) → Q (.ref a) H2) :
    tLc (iRng3 tA) (gName 2) tYes (tTup (tCons (tVar 2) (tCons (tOp (rI0 fun i j => V.int (i + j)) (tVar 2) (tC (.int 1))) (tCons (tUn (rU fun i => .int (-i)) (tC (.int 2))) tNil)))) vs σ H Q :=
  hA H (Ex.refl H) _ fun H1 e1 => ⟨18, -1, -1, 19, rfl, RgC.neg (by decide) (by decide) (by decide) (by decide), fun Dl hD =>
    lc_it (walk_rangeC (lo := 18) (c := -1) (n := 19)) (fun i H' => Ex H1 H' ∧ ∃ ys, H' Dl = some (.lst ys) ∧ DqAll (hid [Dl] H') ys ((chain.take i).map B.d)) ⟨Ex.new hD, [], upd_same, .nil⟩ (fun _ _ _ _ => trivial) (fun i x H' H'' hi pv hy => by
      obtain ⟨rfl, rfl⟩ := hy
      obtain ⟨eH, ys, h1, h2⟩ := pv
      refine ⟨hw _, lc_yes _ (Ex.refl _) _ fun H3 e3 => ?_⟩
      rw [if_pos rfl]
      refine eu_tup (ea_cons (ev_var (v2 _)) (ea_cons (ev_op (ev_var (v2 _)) ev_c rv_I0) (ea_cons (ev_un ev_c ru_neg) ea_nil))) (by show 3 ≤ 100000; decide) H3 (Ex.refl H3) _ fun q H4 hq e4 h4 => ?_
      have hl := h2.len
      have hqD : q ≠ Dl := fun z => by rw [z, e3 _ _ h1] at hq; cases hq
      refine ⟨ys, e4 _ _ (e3 _ _ h1), sz_lt (by rw [hl, List.length_map, List.length_take]; omega), (((eH.trans e3).trans e4).mut hD), ys ++ [.ref q], upd_same, ?_⟩
      have xx : Ex (hid [Dl] H4) (hid [Dl] (upd H4 Dl (.lst (ys ++ [.ref q])))) := hid_updE (by simp)
      rw [chain_at hi, List.map_append]
      refine ((h2.mono (hid_mono (e3.trans e4))).mono xx).app (.cons (Dq.mono (.tup (by rw [hid_off (by simpa using hqD)]; exact h4) ?_) xx) .nil)
      rw [show (18 : Int) + (i : Int) * -1 = ((18 - i : Nat) : Int) by omega, show ((18 - i : Nat) : Int) + 1 = ((19 - i : Nat) : Int) by omega]
      exact .cons (.int _) (.cons (.int _) (.cons (.int _) .nil))) (fun H' pv => by
      obtain ⟨eH, ys, h1, h2⟩ := pv
      exact k Dl ys H' (e1.trans eH) h1 (h2.mono hid_ex))⟩
theorem tight_r : (runTo (chain ++ [⟨19, 0, 37⟩]) 20 21).r ≠ none := by decide +kernel
theorem loose_r : (runTo (chain ++ [⟨19, 0, 38⟩]) 20 20).r = none := by decide +kernel
theorem tight_no : leastOf (runTo ([⟨19, 0, 37⟩] ++ chain) 20 21) = none := by decide +kernel
theorem no_F : leastOf (runTo [⟨0, 1, -1⟩, ⟨1, 0, 0⟩] 2 3) = none := by decide +kernel
section
variable {σ : L2.St} {H : Hp} {te : TE} {tA : TA} {j : Nat} {vs : List Nat} {ns : List Int}
theorem ev_non (h : EvW [] te σ H .none) : Ev te σ H .non := fun H1 e Q q => h H1 e Q fun v H2 e2 hd => by cases hd; exact q H2 e2
theorem ew_el (h : EvL te σ H (ns.map V.int)) : EvW [] te σ H (.list (ns.map PyData.int)) := fun H1 e Q q => h H1 e Q fun a H2 _ e2 h2 => q _ H2 e2 (.lst (un0 _ _ h2) (dq_intsK ns))
theorem el_lc1 {m : Int} (v : Nat → V) (h : EvA tA σ H [.int m]) (hm : 0 ≤ m ∧ m ≤ 40000) (hw : ∀ x, wipe ((wipe σ vs).set j (some x)) vs = wipe σ vs)
    (he : ∀ (i : Nat) H1, Ex H H1 → Ev te ((wipe σ vs).set j (some (.int (0 + (i : Int))))) H1 (v i)) :
    EvL (tLc (iRng1 tA) (gName j) tYes te vs) σ H (given m.toNat (fun _ => true) v) := fun H0 e Q q => h H0 e _ fun H1 e1 => ⟨m, rfl, by omega, by omega, fun Dl hD =>
  lc_range (lo := 0) (n := m.toNat) (Cw H1 (fun _ => true) v Dl) ⟨hD, Ex.new hD, upd_same⟩ (fun i H' hi p => ⟨hw _, cw_turn p (by omega) lc_yes (fun hf => he i H1 (e.trans e1))⟩) (fun H' p => q Dl H' (fresh_back e1 p.1) (e1.trans p.2.1) p.2.2)⟩
end
section
variable {P : Program} {w : World} {K : PySem.W.Frag} {mg : Str → Option Value} {base : Heap}
theorem ok_told {f f1 f2 f3 f4 f5 : Addr} {fd fd1 fd2 fd3 fd4 fd5 : FuncData} (F : Fun K "_law_told_right" "_law_told_right" s__law_told_right f fd) (T : Txt mg)
    (c__law_is_ring : Cal P w K mg base "_law_is_ring" f1 fd1 ["_law_bounds_here", "_law_value"] 2 sp_lring)
    (c_least_days : Cal P w K mg base "least_days" f2 fd2 ["many", "bounds"] 7 sp_least) (c_ring_of : Cal P w K mg base "ring_of" f3 fd3 ["many", "bounds"] 7 sp_ring) (c_are_kept : Cal P w K mg base "are_kept" f4 fd4 ["bounds", "value"] 6 sp_kept) (c_is_ring : Cal P w K mg base "is_ring" f5 fd5 ["bounds", "value"] 6 sp_isring) :
    FnOk P w K mg base CX0 20 f fd [] (fun vs H Q _ => vs = [] ∧ RetV (.bl true) H Q) := by
  refine F.ok sc__law_told_right (fun vs H Q E h => ?_) (fun cdv A outer s H vs Q E hr h => ?_)
  · obtain ⟨rfl, _⟩ := h
    rfl
  · obtain ⟨rfl, k⟩ := h
    have hu := hr.units
    refine ⟨_, (pss_cons (ps_if (PW.pt (pw_or (pt_cmpR (neD (K := K) rfl hr.units) (pe_call c_least_days.ok (hr.mono (by decide)) (by rfl) c_least_days.mgx c_least_days.kp c_least_days.bd .nil pass0 (pa_cons pe_int (pa_cons (pe_lst (pa_cons (pe_tup (pa_cons pe_int (pa_cons pe_int (pa_cons (pe_un un_neg pe_int) pa_nil)))) (pa_cons (pe_tup (pa_cons pe_int (pa_cons pe_int (pa_cons (pe_un un_neg pe_int) pa_nil)))) pa_nil))) pa_nil))) (pe_lst (pa_cons pe_int (pa_cons pe_int (pa_cons pe_int pa_nil)))) (nomark _)) (pw_or1 (pt_cmpR (neD (K := K) rfl hr.units) (pe_call c_least_days.ok (hr.mono (by decide)) (by rfl) c_least_days.mgx c_least_days.kp c_least_days.bd .nil pass0 (pa_cons pe_int (pa_cons (pe_lst (pa_cons (pe_tup (pa_cons pe_int (pa_cons pe_int (pa_cons (pe_un un_neg pe_int) pa_nil)))) pa_nil)) pa_nil))) (pe_lst (pa_cons pe_int (pa_cons (pe_un un_neg pe_int) pa_nil))) (nomark _))))) (pss_one (ps_ret pe_bl)) pss_nil) (pss_cons (ps_if (PW.pt (pw_or (pt_cmpR (neD (K := K) rfl hr.units) (pe_call c_least_days.ok (hr.mono (by decide)) (by rfl) c_least_days.mgx c_least_days.kp c_least_days.bd .nil pass0 (pa_cons pe_int (pa_cons (pe_lst pa_nil) pa_nil))) (pe_lst (pa_cons pe_int pa_nil)) (nomark _)) (pw_or (pt_cmpR (neD (K := K) rfl hr.units) (pe_call c_least_days.ok (hr.mono (by decide)) (by rfl) c_least_days.mgx c_least_days.kp c_least_days.bd .nil pass0 (pa_cons pe_int (pa_cons (pe_lst (pa_cons (pe_tup (pa_cons pe_int (pa_cons pe_int (pa_cons pe_int pa_nil)))) pa_nil)) pa_nil))) (pe_lst (pa_cons pe_int pa_nil)) (nomark _)) (pw_or1 (pt_not (pt_val (pe_call c__law_is_ring.ok (hr.mono (by decide)) (by rfl) c__law_is_ring.mgx c__law_is_ring.kp c__law_is_ring.bd .nil pass0 (pa_cons (pe_lst (pa_cons (pe_tup (pa_cons pe_int (pa_cons pe_int (pa_cons (pe_un un_neg pe_int) pa_nil)))) pa_nil)) (pa_cons (pe_call c_ring_of.ok (hr.mono (by decide)) (by rfl) c_ring_of.mgx c_ring_of.kp c_ring_of.bd .nil pass0 (pa_cons pe_int (pa_cons (pe_lst (pa_cons (pe_tup (pa_cons pe_int (pa_cons pe_int (pa_cons (pe_un un_neg pe_int) pa_nil)))) pa_nil)) pa_nil))) pa_nil))))))))) (pss_one (ps_ret pe_bl)) pss_nil) (pss_cons (ps_if (PW.pt (pw_or (pt_cmpR op_notBl (pe_call c_are_kept.ok (hr.mono (by decide)) (by rfl) c_are_kept.mgx c_are_kept.kp c_are_kept.bd .nil pass0 (pa_cons (pe_lst (pa_cons (pe_tup (pa_cons pe_int (pa_cons pe_int (pa_cons pe_int pa_nil)))) pa_nil)) (pa_cons (pe_lst (pa_cons pe_int pa_nil)) pa_nil))) pe_bl (nomark _)) (pw_or (pt_cmpR op_notBl (pe_call c_are_kept.ok (hr.mono (by decide)) (by rfl) c_are_kept.mgx c_are_kept.kp c_are_kept.bd .nil pass0 (pa_cons (pe_lst (pa_cons (pe_tup (pa_cons pe_int (pa_cons pe_int (pa_cons pe_int pa_nil)))) pa_nil)) (pa_cons (pe_lst (pa_cons pe_int (pa_cons pe_int (pa_cons (pe_un un_neg pe_int) pa_nil)))) pa_nil))) pe_bl (nomark _)) (pw_or1 (pt_cmpR op_notBl (pe_call c_are_kept.ok (hr.mono (by decide)) (by rfl) c_are_kept.mgx c_are_kept.kp c_are_kept.bd .nil pass0 (pa_cons (pe_lst pa_nil) (pa_cons (pe_lst pa_nil) pa_nil))) pe_bl (nomark _)))))) (pss_one (ps_ret pe_bl)) pss_nil) (pss_cons (ps_setLc (i := 0) (own := [("_law_day", 2)]) (g := (gName 2)) (by rfl) sc__law_told_right.nd rfl rfl (sw_true rfl rfl rfl (by decide +kernel)) (pi_range3 (by rfl) T.b_range (pa_cons pe_int (pa_cons (pe_un un_neg pe_int) (pa_cons (pe_un un_neg pe_int) pa_nil)))) (blkOk_by (own := [("_law_day", 2)]) (N := ["_law_chain", "_law_ring", "_law_day"]) (sc := defScope s__law_told_right) (by decide +kernel)) (fun _ _ _ _ _ => (pg_name (i := 2) sc__law_told_right.nd rfl (Or.inl rfl))) (fun _ _ _ _ _ => pts_nil) (fun _ _ _ _ _ => (pe_tup (pa_cons (pv 2) (pa_cons (pe_op op_add (pv 2) pe_int) (pa_cons (pe_un un_neg pe_int) pa_nil)))))) (pss_cons (ps_if (PW.pt (pw_or (pt_cmpR (neD (K := K) rfl hr.units) (pe_call c_least_days.ok (hr.mono (by decide)) (by rfl) c_least_days.mgx c_least_days.kp c_least_days.bd .nil pass0 (pa_cons pe_int (pa_cons (pv 0) pa_nil))) (pe_lc (own := [("_law_day", 2)]) (g := (gName 2)) (by rfl) sc__law_told_right.nd (pi_range1 (by rfl) T.b_range (pa_cons pe_int pa_nil)) (blkOk_by (own := [("_law_day", 2)]) (N := ["_law_chain", "_law_ring", "_law_day"]) (sc := defScope s__law_told_right) (by decide +kernel)) (fun _ _ _ _ _ => (pg_name (i := 2) sc__law_told_right.nd rfl (Or.inl rfl))) (fun _ _ _ _ _ => pts_nil) (fun _ _ _ _ _ => (pe_op op_mul pe_int (pv 2)))) (nomark _)) (pw_or1 (pt_cmpR op_notN (pe_call c_ring_of.ok (hr.mono (by decide)) (by rfl) c_ring_of.mgx c_ring_of.kp c_ring_of.bd .nil pass0 (pa_cons pe_int (pa_cons (pe_op op_cat (pv 0) (pe_lst (pa_cons (pe_tup (pa_cons pe_int (pa_cons pe_int (pa_cons pe_int pa_nil)))) pa_nil))) pa_nil))) pe_non (nomark _))))) (pss_one (ps_ret pe_bl)) pss_nil) (pss_cons (ps_set (i := 1) sc__law_told_right.nd rfl (Or.inl rfl) (pe_call c_ring_of.ok (hr.mono (by decide)) (by rfl) c_ring_of.mgx c_ring_of.kp c_ring_of.bd .nil pass0 (pa_cons pe_int (pa_cons (pe_op op_cat (pv 0) (pe_lst (pa_cons (pe_tup (pa_cons pe_int (pa_cons pe_int (pa_cons pe_int pa_nil)))) pa_nil))) pa_nil)))) (pss_cons (ps_if (PW.pt (pw_or (pt_cmpR op_isN (pv 1) pe_non (nomark _)) (pw_or (pt_not (pt_val (pe_call c__law_is_ring.ok (hr.mono (by decide)) (by rfl) c__law_is_ring.mgx c__law_is_ring.kp c__law_is_ring.bd .nil pass0 (pa_cons (pe_op op_cat (pv 0) (pe_lst (pa_cons (pe_tup (pa_cons pe_int (pa_cons pe_int (pa_cons pe_int pa_nil)))) pa_nil))) (pa_cons (pv 1) pa_nil))))) (pw_or1 (pt_cmpR op_notN (pe_call c_least_days.ok (hr.mono (by decide)) (by rfl) c_least_days.mgx c_least_days.kp c_least_days.bd .nil pass0 (pa_cons pe_int (pa_cons (pe_op op_cat (pe_lst (pa_cons (pe_tup (pa_cons pe_int (pa_cons pe_int (pa_cons pe_int pa_nil)))) pa_nil)) (pv 0)) pa_nil))) pe_non (nomark _)))))) (pss_one (ps_ret pe_bl)) pss_nil) (pss_one (ps_ret (pe_and (pe_cmpR op_isN (pe_call c_least_days.ok (hr.mono (by decide)) (by rfl) c_least_days.mgx c_least_days.kp c_least_days.bd .nil pass0 (pa_cons pe_int (pa_cons (pe_lst (pa_cons (pe_tup (pa_cons pe_int (pa_cons pe_int (pa_cons (pe_un un_neg pe_int) pa_nil)))) (pa_cons (pe_tup (pa_cons pe_int (pa_cons pe_int (pa_cons pe_int pa_nil)))) pa_nil))) pa_nil))) pe_non (nomark _)) (pe_one (pe_cmpR op_isBl (pe_call c_is_ring.ok (hr.mono (by decide)) (by rfl) c_is_ring.mgx c_is_ring.kp c_is_ring.bd .nil pass0 (pa_cons (pe_lst (pa_cons (pe_tup (pa_cons pe_int (pa_cons pe_int (pa_cons (pe_un un_neg pe_int) pa_nil)))) pa_nil)) (pa_cons (pe_lst (pa_cons (pe_tup (pa_cons pe_int (pa_cons pe_int (pa_cons (pe_un un_neg pe_int) pa_nil)))) pa_nil)) pa_nil))) pe_bl (nomark _))))))))))))), ?_⟩
    have fA : Fin [⟨0, 1, -2⟩, ⟨1, 2, -3⟩] 3 (runTo [⟨0, 1, -2⟩, ⟨1, 2, -3⟩] 3 2) := .inl ⟨1, by decide, rfl, by decide +kernel, by decide +kernel⟩
    have fB : Fin [⟨1, 0, -4⟩] 2 (runTo [⟨1, 0, -4⟩] 2 2) := .inl ⟨1, by decide, rfl, by decide +kernel, by decide +kernel⟩
    have fC : Fin [] 1 (runTo [] 1 1) := .inl ⟨0, by decide, rfl, by decide +kernel, by decide +kernel⟩
    have fD : Fin [⟨0, 0, 0⟩] 1 (runTo [⟨0, 0, 0⟩] 1 1) := .inl ⟨0, by decide, rfl, by decide +kernel, by decide +kernel⟩
    have fE : Fin [⟨0, 0, -1⟩] 1 (runTo [⟨0, 0, -1⟩] 1 2) := .inr ⟨rfl, by decide +kernel, by decide +kernel⟩
    have fF : Fin [⟨0, 1, -1⟩, ⟨1, 0, 0⟩] 2 (runTo [⟨0, 1, -1⟩, ⟨1, 0, 0⟩] 2 3) := .inr ⟨rfl, by decide +kernel, by decide +kernel⟩
    have lA : leastOf (runTo [⟨0, 1, -2⟩, ⟨1, 2, -3⟩] 3 2) = some [0, 2, 5] := by decide +kernel
    have lB : leastOf (runTo [⟨1, 0, -4⟩] 2 2) = some [0, -4] := by decide +kernel
    have lC : leastOf (runTo [] 1 1) = some [0] := by decide +kernel
    have lD : leastOf (runTo [⟨0, 0, 0⟩] 1 1) = some [0] := by decide +kernel
    refine q_when (b := false) (et_is (et_or (a := false) (b := false)
      (ne_lit (ns := [0, 2, 5]) (ew_eq (least_lit (n := 3) fA (lr_of (lw_lst hd0 (aw_cons (ew_tup hd0 (aw_cons ew_int (aw_cons ew_int (aw_cons ew_neg aw_nil))) (by decide)) (aw_cons (ew_tup hd0 (aw_cons ew_int (aw_cons ew_int (aw_cons ew_neg aw_nil))) (by decide)) aw_nil)) (by decide))) (by decide) (by decide) (by decide) (by decide)) (lst_of lA)) (ew_lst hd0 (aw_cons ew_int (aw_cons ew_int (aw_cons ew_int aw_nil))) (by decide)))
      fun _ => ne_lit (ns := [0, -4]) (ew_eq (least_lit (n := 2) fB (lr_of (lw_lst hd0 (aw_cons (ew_tup hd0 (aw_cons ew_int (aw_cons ew_int (aw_cons ew_neg aw_nil))) (by decide)) aw_nil) (by decide))) (by decide) (by decide) (by decide) (by decide)) (lst_of lB)) (ew_lst hd0 (aw_cons ew_int (aw_cons ew_neg aw_nil)) (by decide))) rfl) (fun z => nomatch z) fun _ H1 e1 => ?_
    refine q_when (b := false) (et_is (et_or (a := false) (b := false)
      (ne_lit (ns := [0]) (ew_eq (least_lit (n := 1) (bs := []) fC (lr_of (lw_lst hd0 aw_nil (by decide))) (by decide) (by decide) (by decide) (by decide)) (lst_of lC)) (ew_lst hd0 (aw_cons ew_int aw_nil) (by decide)))
      fun _ => et_or (a := false) (b := false) (ne_lit (ns := [0]) (ew_eq (least_lit (n := 1) fD (lr_of (lw_lst hd0 (aw_cons (ew_tup hd0 (aw_cons ew_int (aw_cons ew_int (aw_cons ew_int aw_nil))) (by decide)) aw_nil) (by decide))) (by decide) (by decide) (by decide) (by decide)) (lst_of lD)) (ew_lst hd0 (aw_cons ew_int aw_nil) (by decide)))
      fun _ => et_is (et_not (et_B (lring_lit (bs := [⟨0, 0, -1⟩]) (lr_of (lw_lst hd0 (aw_cons (ew_tup hd0 (aw_cons ew_int (aw_cons ew_int (aw_cons ew_neg aw_nil))) (by decide)) aw_nil) (by decide))) (ring_lit (n := 1) fE (by decide +kernel) (lr_of (lw_lst hd0 (aw_cons (ew_tup hd0 (aw_cons ew_int (aw_cons ew_int (aw_cons ew_neg aw_nil))) (by decide)) aw_nil) (by decide))) (by decide) (by decide) (by decide) (by decide)) (by decide)))) rfl) rfl) (fun z => nomatch z) fun _ H2 e2 => ?_
    refine q_when (b := false) (et_is (et_or (a := false) (b := false)
      (et_is (et_test (ev_op (kept_lit (bs := [⟨0, 1, 0⟩]) (lr_of (lw_lst hd0 (aw_cons (ew_tup hd0 (aw_cons ew_int (aw_cons ew_int (aw_cons ew_int aw_nil))) (by decide)) aw_nil) (by decide))) (ew_lst hd0 (aw_cons ew_int aw_nil) (by decide)) (by decide) (by decide)) ev_c rv_nb)) (by decide))
      fun _ => et_or (a := false) (b := false) (et_is (et_test (ev_op (kept_lit (bs := [⟨0, 1, 0⟩]) (lr_of (lw_lst hd0 (aw_cons (ew_tup hd0 (aw_cons ew_int (aw_cons ew_int (aw_cons ew_int aw_nil))) (by decide)) aw_nil) (by decide))) (ew_lst hd0 (aw_cons ew_int (aw_cons ew_int (aw_cons ew_neg aw_nil))) (by decide)) (by decide) (by decide)) ev_c rv_nb)) (by decide))
      fun _ => et_is (et_test (ev_op (kept_lit (bs := []) (lr_of (lw_lst hd0 aw_nil (by decide))) (ew_lst hd0 aw_nil (by decide)) (by decide) (by decide)) ev_c rv_nb)) (by decide)) rfl) (fun z => nomatch z) fun _ H3 e3 => ?_
    refine asg_k (chain_k0 (ea_cons ev_c (ea_cons (ev_un ev_c ru_neg) (ea_cons (ev_un ev_c ru_neg) ea_nil))) (fun _ => rfl) (fun _ => rfl) fun ca cxs H4 e4 h4 k4 => ?_)
    have vc : ∀ {σ : L2.St} {H' : Hp}, σ[0]? = some (some (.ref ca)) → Ex H4 H' → EvLr [] (tVar 0) σ H' (chain.map B.d) := fun {σ} {H'} hv e => lr_var (ev_var hv) (un0 _ _ (e _ _ h4)) ((k4.mono e).mono un0)
    have bt : ∀ {σ : L2.St} {H' : Hp} {m : Int}, EvLr [] (tLst (tCons (tTup (tCons (tC (.int 19)) (tCons (tC (.int 0)) (tCons (tC (.int m)) tNil)))) tNil)) σ H' ([⟨19, 0, m⟩].map B.d) := fun {σ} {H'} {m} => lr_of (lw_lst hd0 (aw_cons (ew_tup hd0 (aw_cons ew_int (aw_cons ew_int (aw_cons ew_int aw_nil))) (by show 3 ≤ 100000; decide)) aw_nil) (by show 1 ≤ 100000; decide))
    refine q_when (b := false) (et_is (et_or (a := false) (b := false)
      (ne_lit (ns := (List.range 20).map fun (i : Nat) => 2 * (i : Int)) (ew_eq (least_lit (n := 20) chain_fin (vc rfl (Ex.refl H4)) (by decide) (by decide) (by decide) (by decide)) (lst_of chain_least))
        (ew_el (el_eq (el_lc1 (m := 20) (fun i => .int (2 * (0 + (i : Int)))) (ea_cons ev_c ea_nil) (by decide) (fun _ => rfl) (fun i H1 _ => ev_op ev_c (ev_var rfl) (rv_I (.inl ⟨by decide, by decide⟩)))) (by decide +kernel))))
      fun _ => et_is (et_test (ev_op (noring_lit (n := 20) loose_fin loose_r (lr_eq (lr_cat hd0 (vc rfl (Ex.refl H4)) bt (by decide)) (by rw [List.map_append])) (by decide) (by decide) (by decide) (by decide)) ev_c rv_notN)) rfl) rfl) (fun z => nomatch z) fun _ H5 e5 => ?_
    refine asg_k (ring_lit (n := 20) tight_fin tight_r (lr_eq (lr_cat hd0 (vc rfl e5) bt (by decide)) (by rw [List.map_append])) (by decide) (by decide) (by decide) (by decide) H5 (Ex.refl H5) _ fun v H6 e6 rg => ?_)
    obtain ⟨ra, rs, ring, rfl, g1, g2, g3⟩ := rg
    refine q_when (b := false) (et_is (et_or (a := false) (b := false) (et_is (et_test (ev_op (ev_var rfl) ev_c rv_isN)) rfl)
      fun _ => et_or (a := false) (b := false) (et_is (et_not (et_B (lring_lit (bs := chain ++ [⟨19, 0, 37⟩]) (lr_eq (lr_cat hd0 (vc rfl (e5.trans e6)) bt (by decide)) (by rw [List.map_append])) (fun H1 e1 Q q => ⟨_, rfl, q _ H1 (Ex.refl H1) ⟨ra, rs, ring, rfl, e1 _ _ g1, g2.mono e1, g3⟩⟩) (by decide)))) rfl)
        fun _ => et_is (et_test (ev_op (ev_non (ew_eq (least_lit (n := 20) tight_fin2 (lr_eq (lr_cat hd0 bt (vc rfl (e5.trans e6)) (by decide)) (by rw [List.map_append])) (by decide) (by decide) (by decide) (by decide)) (lst_no tight_no))) ev_c rv_notN)) rfl) rfl) (fun z => nomatch z) fun _ H7 e7 => ?_
    refine s_ret (ev_is (ev_andV (a := true) (b := true) (ev_is (ev_op (ev_non (ew_eq (least_lit (n := 2) fF (lr_of (lw_lst hd0 (aw_cons (ew_tup hd0 (aw_cons ew_int (aw_cons ew_int (aw_cons ew_neg aw_nil))) (by decide)) (aw_cons (ew_tup hd0 (aw_cons ew_int (aw_cons ew_int (aw_cons ew_int aw_nil))) (by decide)) aw_nil)) (by decide))) (by decide) (by decide) (by decide) (by decide)) (lst_no no_F))) ev_c rv_isN) rfl)
      fun _ => ev_is (ev_op (isring_lit (bs := [⟨0, 1, -1⟩]) (d := .list [B.d ⟨0, 1, -1⟩]) (lr_of (lw_lst hd0 (aw_cons (ew_tup hd0 (aw_cons ew_int (aw_cons ew_int (aw_cons ew_neg aw_nil))) (by decide)) aw_nil) (by decide))) (ew_lst hd0 (aw_cons (ew_tup hd0 (aw_cons ew_int (aw_cons ew_int (aw_cons ew_neg aw_nil))) (by decide)) aw_nil) (by decide)) (by decide) (by decide)) ev_c rv_ib) (congrArg V.bl (by decide +kernel))) rfl) fun H8 e8 => k H8 (((((((e1.trans e2).trans e3).trans e4).trans e5).trans e6).trans e7).trans e8)
end
end K43
end
section
set_option maxHeartbeats 8000000
namespace K43
open PySem L2 Evl G OW
theorem us_nil {α : Type} {us : List α} (h : us.length = 0) : us = [] := List.eq_nil_of_length_eq_zero h
theorem us_cons {α : Type} {us : List α} {n : Nat} (h : us.length = n + 1) : ∃ a t, us = a :: t ∧ t.length = n := by
  cases us with
  | nil => exact absurd h (Nat.succ_ne_zero n).symm
  | cons a t => exact ⟨a, t, rfl, Nat.succ.inj h⟩
theorem us_0 {fn : FuncData} (h : bindArgs fn ⟨[], []⟩ = pure (([] : List Str).zip [])) (us : List Value) (hl : us.length = ([] : List Str).length) : bindArgs fn ⟨us, []⟩ = pure (([] : List Str).zip us) := by
  cases us_nil hl
  exact h
theorem us_1 {fn : FuncData} {p0 : Str} (h : ∀ a0, bindArgs fn ⟨[a0], []⟩ = pure ([p0].zip [a0])) (us : List Value) (hl : us.length = [p0].length) : bindArgs fn ⟨us, []⟩ = pure ([p0].zip us) := by
  obtain ⟨a0, t0, rfl, h0⟩ := us_cons (n := 0) hl
  cases us_nil h0
  exact h a0
theorem us_2 {fn : FuncData} {p0 p1 : Str} (h : ∀ a0 a1, bindArgs fn ⟨[a0, a1], []⟩ = pure ([p0, p1].zip [a0, a1])) (us : List Value) (hl : us.length = [p0, p1].length) : bindArgs fn ⟨us, []⟩ = pure ([p0, p1].zip us) := by
  obtain ⟨a0, t0, rfl, h0⟩ := us_cons (n := 1) hl
  obtain ⟨a1, t1, rfl, h1⟩ := us_cons (n := 0) h0
  cases us_nil h1
  exact h a0 a1
theorem us_3 {fn : FuncData} {p0 p1 p2 : Str} (h : ∀ a0 a1 a2, bindArgs fn ⟨[a0, a1, a2], []⟩ = pure ([p0, p1, p2].zip [a0, a1, a2])) (us : List Value) (hl : us.length = [p0, p1, p2].length) : bindArgs fn ⟨us, []⟩ = pure ([p0, p1, p2].zip us) := by
  obtain ⟨a0, t0, rfl, h0⟩ := us_cons (n := 2) hl
  obtain ⟨a1, t1, rfl, h1⟩ := us_cons (n := 1) h0
  obtain ⟨a2, t2, rfl, h2⟩ := us_cons (n := 0) h1
  cases us_nil h2
  exact h a0 a1 a2
noncomputable def sp_law (K : PySem.W.Frag) : Sp := fun vs H Q _ => ∃ (a : Addr) (ns : List Int), vs = [.ref a] ∧ SqL K H a (ns.map V.int) ∧ ns.length ≤ 63 ∧ RetV (.bl true) H Q
noncomputable def sp_right : Sp := fun vs H Q _ => ∃ (p : Addr), vs = [.ref p] ∧ PotAt H p ∧ ∀ H2, Rg p H H2 → Q (.bl true) H2
noncomputable def sp_told : Sp := fun vs H Q _ => vs = [] ∧ RetV (.bl true) H Q
section
variable {P : Program} {w : World} {K : PySem.W.Frag} {mg : Str → Option Value} {base : Heap}
theorem s_ifK {c : TT} {tu : TS} {D : Ends} {σ : L2.St} {H : Hp} (h : c σ H fun b H' => if b = true then tu D σ H' else D.nx σ H') : tIfS c tu tNext D σ H := h
theorem notB_k {te : TE} {σ : L2.St} {H : Hp} {Q : Bool → Hp → Prop} (h : te σ H fun x H1 => ∃ c, x = .bl c ∧ Q (!c) H1) : tNot (tB te) σ H Q := h
theorem ok_right {f f1 f2 f3 f4 : Addr} {fd fd1 fd2 fd3 fd4 : FuncData} (F : Fun K "_law_right" "_law_right" s__law_right f fd) (T : Txt mg) (c__law_draw : Cal P w K mg base "_law_draw" f1 fd1 ["_law_pot_here", "_law_many"] 1 sp_draw) (c__law_bounds : Cal P w K mg base "_law_bounds" f2 fd2 ["_law_pot_here", "_law_many"] 3 sp_bounds)
    (c__law_bounds_right : CalG P w K mg base "_law_bounds_right" f3 fd3 ["_law_pot_here", "_law_many", "_law_bounds_here"] 20 sp_bright) (c__law_told_right : Cal P w K mg base "_law_told_right" f4 fd4 [] 20 sp_told) :
    FnG P w K mg base CX0 21 f fd ["_law_pot_here"] sp_right := by
  refine okG F sc__law_right (fun vs H Q E h => ?_) (fun cdv A outer s H vs Q E hg hr h => ?_)
  · obtain ⟨p, rfl, _⟩ := h
    rfl
  · obtain ⟨p, rfl, hp, k⟩ := h
    have hu := hr.units
    refine ⟨_, (pss_cons (ps_for PassesOwn.never rfl (pi_range1 (by rfl) T.b_range (pa_cons pe_int pa_nil)) (pg_name (i := 1) sc__law_right.nd rfl (Or.inl rfl)) (pss_cons (ps_set (i := 2) sc__law_right.nd rfl (Or.inl rfl) (pe_op op_add pe_int (pe_call c__law_draw.ok (hr.mono (by decide)) (by rfl) c__law_draw.mgx c__law_draw.kp c__law_draw.bd .nil pass0 (pa_cons (pv 0) (pa_cons pe_int pa_nil))))) (pss_one (ps_if (pt_not (pt_val (pe_callG c__law_bounds_right.ok hg (hr.mono (by decide)) (by rfl) c__law_bounds_right.mgx c__law_bounds_right.kp c__law_bounds_right.bd .nil pass0 (pa_cons (pv 0) (pa_cons (pv 2) (pa_cons (pe_call c__law_bounds.ok (hr.mono (by decide)) (by rfl) c__law_bounds.mgx c__law_bounds.kp c__law_bounds.bd .nil pass0 (pa_cons (pv 0) (pa_cons (pv 2) pa_nil))) pa_nil)))))) (pss_one (ps_ret pe_bl)) pss_nil)))) (pss_one (ps_ret (pe_call0 c__law_told_right.ok (hr.mono (by decide)) (by rfl) c__law_told_right.mgx c__law_told_right.kp c__law_told_right.bd .nil pass0)))), ?_⟩
    refine q_forR1 (n := 4) (ea_cons ev_c ea_nil) (by decide) (fun i σ' H' => ∃ (o1 o2 : Option V), σ' = [some (.ref p), o1, o2] ∧ Rg p H H') (fun H1 e1 => ⟨none, none, rfl, (Rg.rfl hp).mono e1⟩) (fun i σ' H' hi pv => ?_) (fun σ' H' pv => ?_)
    · obtain ⟨o1, o2, rfl, r⟩ := pv
      refine asg_k (op_k (v_k ev_c fun H1 e1 => drawC (r.hp.mono e1) rfl ev_c (by decide) (by decide) fun d H2 d0 d1 e2 hp2 => ?_))
      obtain ⟨m, rfl⟩ : ∃ m : Nat, d = (m : Int) := ⟨d.toNat, by omega⟩
      refine ⟨1, (m : Int), rfl, rfl, ?_⟩
      dsimp only
      rw [show (1 : Int) + (m : Int) = ((1 + m : Nat) : Int) by omega]
      have r2 := (r.mono e1).step e2 hp2
      refine s_ifK (notB_k (call_k (ac_v (ev_var rfl) fun H3 e3 => ac_v (ev_var rfl) fun H4 e4 => ac_k (call_k (ac_v (ev_var rfl) fun H5 e5 => ac_v (ev_var rfl) fun H6 e6 => ac_nil ⟨p, 1 + m, rfl, ((r2.mono (e3.trans e4)).mono (e5.trans e6)).hp, by omega, by omega, fun a xs bs H7 r7 hf ha hap kk hlen hfit hm => ac_nil ⟨p, a, 1 + m, xs, bs, rfl, r7.hp, by omega, by omega, ?_, kk.mono (hid_fit fun b hb => by simp at hb; simp [hb]), hlen, hfit, hm, fun H8 r8 => ⟨true, rfl, ?_⟩⟩⟩)))))
      · rw [hid_off (by simp [hap])]; exact ha
      · rw [if_neg (by decide)]
        exact ⟨_, _, rfl, ((r2.mono (e3.trans e4)).mono (e5.trans e6)).tr (r7.tr r8)⟩
    · obtain ⟨o1, o2, rfl, r⟩ := pv
      exact ret_k (call_k (ac_nil ⟨rfl, fun H2 e2 => k H2 (r.mono e2)⟩))
theorem ok_law {f f1 f2 : Addr} {fd fd1 fd2 : FuncData} (F : Fun K "law" "law" s_law f fd) (T : Txt mg) (c__law_pot : Cal P w K mg base "_law_pot" f1 fd1 ["_law_script", "_law_k"] 1 (sp_pot K)) (c__law_right : CalG P w K mg base "_law_right" f2 fd2 ["_law_pot_here"] 21 sp_right) :
    FnG P w K mg base CX0 22 f fd ["_law_script"] (sp_law K) := by
  refine okG F sc_law (fun vs H Q E h => ?_) (fun cdv A outer s H vs Q E hg hr h => ?_)
  · obtain ⟨a, ns, rfl, _⟩ := h
    rfl
  · obtain ⟨a, ns, rfl, hs, hl, k⟩ := h
    have hu := hr.units
    have e0 : (ns.map V.int).length = ns.length := List.length_map ..
    refine ⟨_, (pss_one (ps_ret (pe_callB (allL (K := K) rfl rfl) (by rfl) T.b_all (by decide +kernel) (pa_cons (pe_lc (own := [("_law_k", 1)]) (g := (gName 1)) (by rfl) sc_law.nd (pi_range1 (by rfl) T.b_range (pa_cons (pe_callB (call_max2 rfl) (by rfl) T.b_max (by decide +kernel) (pa_cons pe_int (pa_cons (pe_callB (call_min2 rfl) (by rfl) T.b_min (by decide +kernel) (pa_cons pe_int (pa_cons (pe_callB (lenS (K := K) rfl) (by rfl) T.b_len (by decide +kernel) (pa_cons (pv 0) pa_nil)) pa_nil))) pa_nil))) pa_nil)) (blkOk_by (own := [("_law_k", 1)]) (N := ["_law_script", "_law_k"]) (sc := defScope s_law) (by decide +kernel)) (fun _ _ _ _ _ => (pg_name (i := 1) sc_law.nd rfl (Or.inl rfl))) (fun _ _ _ _ _ => pts_nil) (fun _ _ _ _ _ => (pe_callG c__law_right.ok hg (hr.mono (by decide)) (by rfl) c__law_right.mgx c__law_right.kp c__law_right.bd .nil pass0 (pa_cons (pe_call c__law_pot.ok (hr.mono (by decide)) (by rfl) c__law_pot.mgx c__law_pot.kp c__law_pot.bd .nil pass0 (pa_cons (pv 0) (pa_cons (pv 1) pa_nil))) pa_nil)))) pa_nil)))), ?_⟩
    refine s_ret (ev_allT (el_lcR1 (fun _ => true) (fun _ => V.bl true) (ea_cons (ev_cb (ea_cons ev_c (ea_cons (ev_cb (ea_cons ev_c (ea_cons (ev_cb (ea_cons (ev_var rfl) ea_nil) (rc_len (.inl hs) e0)) ea_nil)) rc_min2) ea_nil)) rc_max2) ea_nil) ?_ (fun _ => rfl) (fun _ _ _ _ => lc_yes) (fun i H1 e1 hi _ => ?_))) k
    · split <;> split <;> omega
    · refine fun Ha ea Qa qa => ⟨.ref a, rfl, .int (i : Int), rfl, a, ns, (i : Int), rfl, ex_l (e1.trans ea) hs, by omega, ?_, fun p H2 hp e2 pot => ⟨p, rfl, pot, fun H3 r3 => qa H3 ((ex_wo e2 hp).trans r3.x)⟩⟩
      split at hi <;> split at hi <;> omega
theorem all_mk {h : Heap} {fa : Addr} (X : K.In h) (G : h.Ns mainGlobals mg) (hmg : mg "law" = some (.ref fa))
    {f_is_day : Addr} {od_is_day an_is_day : Option Addr} {sl_is_day : Array (Option Value)} {oc_is_day kV_is_day dc_is_day pm_is_day cd_is_day ct_is_day : Value}
    {f_is_count : Addr} {od_is_count an_is_count : Option Addr} {sl_is_count : Array (Option Value)} {oc_is_count kV_is_count dc_is_count pm_is_count cd_is_count ct_is_count : Value}
    {f_need_length : Addr} {od_need_length an_need_length : Option Addr} {sl_need_length : Array (Option Value)} {oc_need_length kV_need_length dc_need_length pm_need_length cd_need_length ct_need_length : Value}
    {f_is_list : Addr} {od_is_list an_is_list : Option Addr} {sl_is_list : Array (Option Value)} {oc_is_list kV_is_list dc_is_list pm_is_list cd_is_list ct_is_list : Value}
    {f_least_days : Addr} {od_least_days an_least_days : Option Addr} {sl_least_days : Array (Option Value)} {oc_least_days kV_least_days dc_least_days pm_least_days cd_least_days ct_least_days : Value}
    {f_are_kept : Addr} {od_are_kept an_are_kept : Option Addr} {sl_are_kept : Array (Option Value)} {oc_are_kept kV_are_kept dc_are_kept pm_are_kept cd_are_kept ct_are_kept : Value}
    {f_all_kept : Addr} {od_all_kept an_all_kept : Option Addr} {sl_all_kept : Array (Option Value)} {oc_all_kept kV_all_kept dc_all_kept pm_all_kept cd_all_kept ct_all_kept : Value}
    {f_ring_of : Addr} {od_ring_of an_ring_of : Option Addr} {sl_ring_of : Array (Option Value)} {oc_ring_of kV_ring_of dc_ring_of pm_ring_of cd_ring_of ct_ring_of : Value}
    {f_is_ring : Addr} {od_is_ring an_is_ring : Option Addr} {sl_is_ring : Array (Option Value)} {oc_is_ring kV_is_ring dc_is_ring pm_is_ring cd_is_ring ct_is_ring : Value}
    {f_has_ring_form : Addr} {od_has_ring_form an_has_ring_form : Option Addr} {sl_has_ring_form : Array (Option Value)} {oc_has_ring_form kV_has_ring_form dc_has_ring_form pm_has_ring_form cd_has_ring_form ct_has_ring_form : Value}
    {f_are_bounds : Addr} {od_are_bounds an_are_bounds : Option Addr} {sl_are_bounds : Array (Option Value)} {oc_are_bounds kV_are_bounds dc_are_bounds pm_are_bounds cd_are_bounds ct_are_bounds : Value}
    {f__is_bound : Addr} {od__is_bound an__is_bound : Option Addr} {sl__is_bound : Array (Option Value)} {oc__is_bound kV__is_bound dc__is_bound pm__is_bound cd__is_bound ct__is_bound : Value}
    {f__need_bounds : Addr} {od__need_bounds an__need_bounds : Option Addr} {sl__need_bounds : Array (Option Value)} {oc__need_bounds kV__need_bounds dc__need_bounds pm__need_bounds cd__need_bounds ct__need_bounds : Value}
    {f__need_bounds_below : Addr} {od__need_bounds_below an__need_bounds_below : Option Addr} {sl__need_bounds_below : Array (Option Value)} {oc__need_bounds_below kV__need_bounds_below dc__need_bounds_below pm__need_bounds_below cd__need_bounds_below ct__need_bounds_below : Value}
    {f__raised_days : Addr} {od__raised_days an__raised_days : Option Addr} {sl__raised_days : Array (Option Value)} {oc__raised_days kV__raised_days dc__raised_days pm__raised_days cd__raised_days ct__raised_days : Value}
    {f__law_pot : Addr} {od__law_pot an__law_pot : Option Addr} {sl__law_pot : Array (Option Value)} {oc__law_pot kV__law_pot dc__law_pot pm__law_pot cd__law_pot ct__law_pot : Value}
    {f__law_draw : Addr} {od__law_draw an__law_draw : Option Addr} {sl__law_draw : Array (Option Value)} {oc__law_draw kV__law_draw dc__law_draw pm__law_draw cd__law_draw ct__law_draw : Value}
    {f__law_pick : Addr} {od__law_pick an__law_pick : Option Addr} {sl__law_pick : Array (Option Value)} {oc__law_pick kV__law_pick dc__law_pick pm__law_pick cd__law_pick ct__law_pick : Value}
    {f__law_is_int : Addr} {od__law_is_int an__law_is_int : Option Addr} {sl__law_is_int : Array (Option Value)} {oc__law_is_int kV__law_is_int dc__law_is_int pm__law_is_int cd__law_is_int ct__law_is_int : Value}
    {f__law_bounds : Addr} {od__law_bounds an__law_bounds : Option Addr} {sl__law_bounds : Array (Option Value)} {oc__law_bounds kV__law_bounds dc__law_bounds pm__law_bounds cd__law_bounds ct__law_bounds : Value}
    {f__law_least : Addr} {od__law_least an__law_least : Option Addr} {sl__law_least : Array (Option Value)} {oc__law_least kV__law_least dc__law_least pm__law_least cd__law_least ct__law_least : Value}
    {f__law_are_days : Addr} {od__law_are_days an__law_are_days : Option Addr} {sl__law_are_days : Array (Option Value)} {oc__law_are_days kV__law_are_days dc__law_are_days pm__law_are_days cd__law_are_days ct__law_are_days : Value}
    {f__law_is_ring : Addr} {od__law_is_ring an__law_is_ring : Option Addr} {sl__law_is_ring : Array (Option Value)} {oc__law_is_ring kV__law_is_ring dc__law_is_ring pm__law_is_ring cd__law_is_ring ct__law_is_ring : Value}
    {f__law_bent : Addr} {od__law_bent an__law_bent : Option Addr} {sl__law_bent : Array (Option Value)} {oc__law_bent kV__law_bent dc__law_bent pm__law_bent cd__law_bent ct__law_bent : Value}
    {f__law_bounds_right : Addr} {od__law_bounds_right an__law_bounds_right : Option Addr} {sl__law_bounds_right : Array (Option Value)} {oc__law_bounds_right kV__law_bounds_right dc__law_bounds_right pm__law_bounds_right cd__law_bounds_right ct__law_bounds_right : Value}
    {f__law_told_right : Addr} {od__law_told_right an__law_told_right : Option Addr} {sl__law_told_right : Array (Option Value)} {oc__law_told_right kV__law_told_right dc__law_told_right pm__law_told_right cd__law_told_right ct__law_told_right : Value}
    {f__law_right : Addr} {od__law_right an__law_right : Option Addr} {sl__law_right : Array (Option Value)} {oc__law_right kV__law_right dc__law_right pm__law_right cd__law_right ct__law_right : Value}
    {f_law : Addr} {od_law an_law : Option Addr} {sl_law : Array (Option Value)} {oc_law kV_law dc_law pm_law cd_law ct_law : Value}
    (a_is_day : PySem.W.nsIn K mainGlobals "is_day" = some (some (.ref f_is_day)))
    (l_is_day : K.lookup f_is_day = some ⟨oc_is_day, od_is_day, .func (PySem.W.fnOf "is_day" "is_day" (defArgs s_is_day) (defBody s_is_day) (defScope s_is_day) .none kV_is_day dc_is_day pm_is_day an_is_day cd_is_day ct_is_day), sl_is_day⟩)
    (c_is_day : PySem.W.codeIn K cd_is_day "is_day" = true)
    (k_is_day : PySem.W.keepIn K (.ref f_is_day) = true)
    (a_is_count : PySem.W.nsIn K mainGlobals "is_count" = some (some (.ref f_is_count)))
    (l_is_count : K.lookup f_is_count = some ⟨oc_is_count, od_is_count, .func (PySem.W.fnOf "is_count" "is_count" (defArgs s_is_count) (defBody s_is_count) (defScope s_is_count) .none kV_is_count dc_is_count pm_is_count an_is_count cd_is_count ct_is_count), sl_is_count⟩)
    (c_is_count : PySem.W.codeIn K cd_is_count "is_count" = true)
    (k_is_count : PySem.W.keepIn K (.ref f_is_count) = true)
    (a_need_length : PySem.W.nsIn K mainGlobals "need_length" = some (some (.ref f_need_length)))
    (l_need_length : K.lookup f_need_length = some ⟨oc_need_length, od_need_length, .func (PySem.W.fnOf "need_length" "need_length" (defArgs s_need_length) (defBody s_need_length) (defScope s_need_length) .none kV_need_length dc_need_length pm_need_length an_need_length cd_need_length ct_need_length), sl_need_length⟩)
    (c_need_length : PySem.W.codeIn K cd_need_length "need_length" = true)
    (k_need_length : PySem.W.keepIn K (.ref f_need_length) = true)
    (a_is_list : PySem.W.nsIn K mainGlobals "is_list" = some (some (.ref f_is_list)))
    (l_is_list : K.lookup f_is_list = some ⟨oc_is_list, od_is_list, .func (PySem.W.fnOf "is_list" "is_list" (defArgs s_is_list) (defBody s_is_list) (defScope s_is_list) .none kV_is_list dc_is_list pm_is_list an_is_list cd_is_list ct_is_list), sl_is_list⟩)
    (c_is_list : PySem.W.codeIn K cd_is_list "is_list" = true)
    (k_is_list : PySem.W.keepIn K (.ref f_is_list) = true)
    (a_least_days : PySem.W.nsIn K mainGlobals "least_days" = some (some (.ref f_least_days)))
    (l_least_days : K.lookup f_least_days = some ⟨oc_least_days, od_least_days, .func (PySem.W.fnOf "least_days" "least_days" (defArgs s_least_days) (defBody s_least_days) (defScope s_least_days) .none kV_least_days dc_least_days pm_least_days an_least_days cd_least_days ct_least_days), sl_least_days⟩)
    (c_least_days : PySem.W.codeIn K cd_least_days "least_days" = true)
    (k_least_days : PySem.W.keepIn K (.ref f_least_days) = true)
    (a_are_kept : PySem.W.nsIn K mainGlobals "are_kept" = some (some (.ref f_are_kept)))
    (l_are_kept : K.lookup f_are_kept = some ⟨oc_are_kept, od_are_kept, .func (PySem.W.fnOf "are_kept" "are_kept" (defArgs s_are_kept) (defBody s_are_kept) (defScope s_are_kept) .none kV_are_kept dc_are_kept pm_are_kept an_are_kept cd_are_kept ct_are_kept), sl_are_kept⟩)
    (c_are_kept : PySem.W.codeIn K cd_are_kept "are_kept" = true)
    (k_are_kept : PySem.W.keepIn K (.ref f_are_kept) = true)
    (a_all_kept : PySem.W.nsIn K mainGlobals "all_kept" = some (some (.ref f_all_kept)))
    (l_all_kept : K.lookup f_all_kept = some ⟨oc_all_kept, od_all_kept, .func (PySem.W.fnOf "all_kept" "all_kept" (defArgs s_all_kept) (defBody s_all_kept) (defScope s_all_kept) .none kV_all_kept dc_all_kept pm_all_kept an_all_kept cd_all_kept ct_all_kept), sl_all_kept⟩)
    (c_all_kept : PySem.W.codeIn K cd_all_kept "all_kept" = true)
    (k_all_kept : PySem.W.keepIn K (.ref f_all_kept) = true)
    (a_ring_of : PySem.W.nsIn K mainGlobals "ring_of" = some (some (.ref f_ring_of)))
    (l_ring_of : K.lookup f_ring_of = some ⟨oc_ring_of, od_ring_of, .func (PySem.W.fnOf "ring_of" "ring_of" (defArgs s_ring_of) (defBody s_ring_of) (defScope s_ring_of) .none kV_ring_of dc_ring_of pm_ring_of an_ring_of cd_ring_of ct_ring_of), sl_ring_of⟩)
    (c_ring_of : PySem.W.codeIn K cd_ring_of "ring_of" = true)
    (k_ring_of : PySem.W.keepIn K (.ref f_ring_of) = true)
    (a_is_ring : PySem.W.nsIn K mainGlobals "is_ring" = some (some (.ref f_is_ring)))
    (l_is_ring : K.lookup f_is_ring = some ⟨oc_is_ring, od_is_ring, .func (PySem.W.fnOf "is_ring" "is_ring" (defArgs s_is_ring) (defBody s_is_ring) (defScope s_is_ring) .none kV_is_ring dc_is_ring pm_is_ring an_is_ring cd_is_ring ct_is_ring), sl_is_ring⟩)
    (c_is_ring : PySem.W.codeIn K cd_is_ring "is_ring" = true)
    (k_is_ring : PySem.W.keepIn K (.ref f_is_ring) = true)
    (a_has_ring_form : PySem.W.nsIn K mainGlobals "has_ring_form" = some (some (.ref f_has_ring_form)))
    (l_has_ring_form : K.lookup f_has_ring_form = some ⟨oc_has_ring_form, od_has_ring_form, .func (PySem.W.fnOf "has_ring_form" "has_ring_form" (defArgs s_has_ring_form) (defBody s_has_ring_form) (defScope s_has_ring_form) .none kV_has_ring_form dc_has_ring_form pm_has_ring_form an_has_ring_form cd_has_ring_form ct_has_ring_form), sl_has_ring_form⟩)
    (c_has_ring_form : PySem.W.codeIn K cd_has_ring_form "has_ring_form" = true)
    (k_has_ring_form : PySem.W.keepIn K (.ref f_has_ring_form) = true)
    (a_are_bounds : PySem.W.nsIn K mainGlobals "are_bounds" = some (some (.ref f_are_bounds)))
    (l_are_bounds : K.lookup f_are_bounds = some ⟨oc_are_bounds, od_are_bounds, .func (PySem.W.fnOf "are_bounds" "are_bounds" (defArgs s_are_bounds) (defBody s_are_bounds) (defScope s_are_bounds) .none kV_are_bounds dc_are_bounds pm_are_bounds an_are_bounds cd_are_bounds ct_are_bounds), sl_are_bounds⟩)
    (c_are_bounds : PySem.W.codeIn K cd_are_bounds "are_bounds" = true)
    (k_are_bounds : PySem.W.keepIn K (.ref f_are_bounds) = true)
    (a__is_bound : PySem.W.nsIn K mainGlobals "_is_bound" = some (some (.ref f__is_bound)))
    (l__is_bound : K.lookup f__is_bound = some ⟨oc__is_bound, od__is_bound, .func (PySem.W.fnOf "_is_bound" "_is_bound" (defArgs s__is_bound) (defBody s__is_bound) (defScope s__is_bound) .none kV__is_bound dc__is_bound pm__is_bound an__is_bound cd__is_bound ct__is_bound), sl__is_bound⟩)
    (c__is_bound : PySem.W.codeIn K cd__is_bound "_is_bound" = true)
    (k__is_bound : PySem.W.keepIn K (.ref f__is_bound) = true)
    (a__need_bounds : PySem.W.nsIn K mainGlobals "_need_bounds" = some (some (.ref f__need_bounds)))
    (l__need_bounds : K.lookup f__need_bounds = some ⟨oc__need_bounds, od__need_bounds, .func (PySem.W.fnOf "_need_bounds" "_need_bounds" (defArgs s__need_bounds) (defBody s__need_bounds) (defScope s__need_bounds) .none kV__need_bounds dc__need_bounds pm__need_bounds an__need_bounds cd__need_bounds ct__need_bounds), sl__need_bounds⟩)
    (c__need_bounds : PySem.W.codeIn K cd__need_bounds "_need_bounds" = true)
    (k__need_bounds : PySem.W.keepIn K (.ref f__need_bounds) = true)
    (a__need_bounds_below : PySem.W.nsIn K mainGlobals "_need_bounds_below" = some (some (.ref f__need_bounds_below)))
    (l__need_bounds_below : K.lookup f__need_bounds_below = some ⟨oc__need_bounds_below, od__need_bounds_below, .func (PySem.W.fnOf "_need_bounds_below" "_need_bounds_below" (defArgs s__need_bounds_below) (defBody s__need_bounds_below) (defScope s__need_bounds_below) .none kV__need_bounds_below dc__need_bounds_below pm__need_bounds_below an__need_bounds_below cd__need_bounds_below ct__need_bounds_below), sl__need_bounds_below⟩)
    (c__need_bounds_below : PySem.W.codeIn K cd__need_bounds_below "_need_bounds_below" = true)
    (k__need_bounds_below : PySem.W.keepIn K (.ref f__need_bounds_below) = true)
    (a__raised_days : PySem.W.nsIn K mainGlobals "_raised_days" = some (some (.ref f__raised_days)))
    (l__raised_days : K.lookup f__raised_days = some ⟨oc__raised_days, od__raised_days, .func (PySem.W.fnOf "_raised_days" "_raised_days" (defArgs s__raised_days) (defBody s__raised_days) (defScope s__raised_days) .none kV__raised_days dc__raised_days pm__raised_days an__raised_days cd__raised_days ct__raised_days), sl__raised_days⟩)
    (c__raised_days : PySem.W.codeIn K cd__raised_days "_raised_days" = true)
    (k__raised_days : PySem.W.keepIn K (.ref f__raised_days) = true)
    (a__law_pot : PySem.W.nsIn K mainGlobals "_law_pot" = some (some (.ref f__law_pot)))
    (l__law_pot : K.lookup f__law_pot = some ⟨oc__law_pot, od__law_pot, .func (PySem.W.fnOf "_law_pot" "_law_pot" (defArgs s__law_pot) (defBody s__law_pot) (defScope s__law_pot) .none kV__law_pot dc__law_pot pm__law_pot an__law_pot cd__law_pot ct__law_pot), sl__law_pot⟩)
    (c__law_pot : PySem.W.codeIn K cd__law_pot "_law_pot" = true)
    (k__law_pot : PySem.W.keepIn K (.ref f__law_pot) = true)
    (a__law_draw : PySem.W.nsIn K mainGlobals "_law_draw" = some (some (.ref f__law_draw)))
    (l__law_draw : K.lookup f__law_draw = some ⟨oc__law_draw, od__law_draw, .func (PySem.W.fnOf "_law_draw" "_law_draw" (defArgs s__law_draw) (defBody s__law_draw) (defScope s__law_draw) .none kV__law_draw dc__law_draw pm__law_draw an__law_draw cd__law_draw ct__law_draw), sl__law_draw⟩)
    (c__law_draw : PySem.W.codeIn K cd__law_draw "_law_draw" = true)
    (k__law_draw : PySem.W.keepIn K (.ref f__law_draw) = true)
    (a__law_pick : PySem.W.nsIn K mainGlobals "_law_pick" = some (some (.ref f__law_pick)))
    (l__law_pick : K.lookup f__law_pick = some ⟨oc__law_pick, od__law_pick, .func (PySem.W.fnOf "_law_pick" "_law_pick" (defArgs s__law_pick) (defBody s__law_pick) (defScope s__law_pick) .none kV__law_pick dc__law_pick pm__law_pick an__law_pick cd__law_pick ct__law_pick), sl__law_pick⟩)
    (c__law_pick : PySem.W.codeIn K cd__law_pick "_law_pick" = true)
    (k__law_pick : PySem.W.keepIn K (.ref f__law_pick) = true)
    (a__law_is_int : PySem.W.nsIn K mainGlobals "_law_is_int" = some (some (.ref f__law_is_int)))
    (l__law_is_int : K.lookup f__law_is_int = some ⟨oc__law_is_int, od__law_is_int, .func (PySem.W.fnOf "_law_is_int" "_law_is_int" (defArgs s__law_is_int) (defBody s__law_is_int) (defScope s__law_is_int) .none kV__law_is_int dc__law_is_int pm__law_is_int an__law_is_int cd__law_is_int ct__law_is_int), sl__law_is_int⟩)
    (c__law_is_int : PySem.W.codeIn K cd__law_is_int "_law_is_int" = true)
    (k__law_is_int : PySem.W.keepIn K (.ref f__law_is_int) = true)
    (a__law_bounds : PySem.W.nsIn K mainGlobals "_law_bounds" = some (some (.ref f__law_bounds)))
    (l__law_bounds : K.lookup f__law_bounds = some ⟨oc__law_bounds, od__law_bounds, .func (PySem.W.fnOf "_law_bounds" "_law_bounds" (defArgs s__law_bounds) (defBody s__law_bounds) (defScope s__law_bounds) .none kV__law_bounds dc__law_bounds pm__law_bounds an__law_bounds cd__law_bounds ct__law_bounds), sl__law_bounds⟩)
    (c__law_bounds : PySem.W.codeIn K cd__law_bounds "_law_bounds" = true)
    (k__law_bounds : PySem.W.keepIn K (.ref f__law_bounds) = true)
    (a__law_least : PySem.W.nsIn K mainGlobals "_law_least" = some (some (.ref f__law_least)))
    (l__law_least : K.lookup f__law_least = some ⟨oc__law_least, od__law_least, .func (PySem.W.fnOf "_law_least" "_law_least" (defArgs s__law_least) (defBody s__law_least) (defScope s__law_least) .none kV__law_least dc__law_least pm__law_least an__law_least cd__law_least ct__law_least), sl__law_least⟩)
    (c__law_least : PySem.W.codeIn K cd__law_least "_law_least" = true)
    (k__law_least : PySem.W.keepIn K (.ref f__law_least) = true)
    (a__law_are_days : PySem.W.nsIn K mainGlobals "_law_are_days" = some (some (.ref f__law_are_days)))
    (l__law_are_days : K.lookup f__law_are_days = some ⟨oc__law_are_days, od__law_are_days, .func (PySem.W.fnOf "_law_are_days" "_law_are_days" (defArgs s__law_are_days) (defBody s__law_are_days) (defScope s__law_are_days) .none kV__law_are_days dc__law_are_days pm__law_are_days an__law_are_days cd__law_are_days ct__law_are_days), sl__law_are_days⟩)
    (c__law_are_days : PySem.W.codeIn K cd__law_are_days "_law_are_days" = true)
    (k__law_are_days : PySem.W.keepIn K (.ref f__law_are_days) = true)
    (a__law_is_ring : PySem.W.nsIn K mainGlobals "_law_is_ring" = some (some (.ref f__law_is_ring)))
    (l__law_is_ring : K.lookup f__law_is_ring = some ⟨oc__law_is_ring, od__law_is_ring, .func (PySem.W.fnOf "_law_is_ring" "_law_is_ring" (defArgs s__law_is_ring) (defBody s__law_is_ring) (defScope s__law_is_ring) .none kV__law_is_ring dc__law_is_ring pm__law_is_ring an__law_is_ring cd__law_is_ring ct__law_is_ring), sl__law_is_ring⟩)
    (c__law_is_ring : PySem.W.codeIn K cd__law_is_ring "_law_is_ring" = true)
    (k__law_is_ring : PySem.W.keepIn K (.ref f__law_is_ring) = true)
    (a__law_bent : PySem.W.nsIn K mainGlobals "_law_bent" = some (some (.ref f__law_bent)))
    (l__law_bent : K.lookup f__law_bent = some ⟨oc__law_bent, od__law_bent, .func (PySem.W.fnOf "_law_bent" "_law_bent" (defArgs s__law_bent) (defBody s__law_bent) (defScope s__law_bent) .none kV__law_bent dc__law_bent pm__law_bent an__law_bent cd__law_bent ct__law_bent), sl__law_bent⟩)
    (c__law_bent : PySem.W.codeIn K cd__law_bent "_law_bent" = true)
    (k__law_bent : PySem.W.keepIn K (.ref f__law_bent) = true)
    (a__law_bounds_right : PySem.W.nsIn K mainGlobals "_law_bounds_right" = some (some (.ref f__law_bounds_right)))
    (l__law_bounds_right : K.lookup f__law_bounds_right = some ⟨oc__law_bounds_right, od__law_bounds_right, .func (PySem.W.fnOf "_law_bounds_right" "_law_bounds_right" (defArgs s__law_bounds_right) (defBody s__law_bounds_right) (defScope s__law_bounds_right) .none kV__law_bounds_right dc__law_bounds_right pm__law_bounds_right an__law_bounds_right cd__law_bounds_right ct__law_bounds_right), sl__law_bounds_right⟩)
    (c__law_bounds_right : PySem.W.codeIn K cd__law_bounds_right "_law_bounds_right" = true)
    (k__law_bounds_right : PySem.W.keepIn K (.ref f__law_bounds_right) = true)
    (a__law_told_right : PySem.W.nsIn K mainGlobals "_law_told_right" = some (some (.ref f__law_told_right)))
    (l__law_told_right : K.lookup f__law_told_right = some ⟨oc__law_told_right, od__law_told_right, .func (PySem.W.fnOf "_law_told_right" "_law_told_right" (defArgs s__law_told_right) (defBody s__law_told_right) (defScope s__law_told_right) .none kV__law_told_right dc__law_told_right pm__law_told_right an__law_told_right cd__law_told_right ct__law_told_right), sl__law_told_right⟩)
    (c__law_told_right : PySem.W.codeIn K cd__law_told_right "_law_told_right" = true)
    (k__law_told_right : PySem.W.keepIn K (.ref f__law_told_right) = true)
    (a__law_right : PySem.W.nsIn K mainGlobals "_law_right" = some (some (.ref f__law_right)))
    (l__law_right : K.lookup f__law_right = some ⟨oc__law_right, od__law_right, .func (PySem.W.fnOf "_law_right" "_law_right" (defArgs s__law_right) (defBody s__law_right) (defScope s__law_right) .none kV__law_right dc__law_right pm__law_right an__law_right cd__law_right ct__law_right), sl__law_right⟩)
    (c__law_right : PySem.W.codeIn K cd__law_right "_law_right" = true)
    (k__law_right : PySem.W.keepIn K (.ref f__law_right) = true)
    (a_law : PySem.W.nsIn K mainGlobals "law" = some (some (.ref f_law)))
    (l_law : K.lookup f_law = some ⟨oc_law, od_law, .func (PySem.W.fnOf "law" "law" (defArgs s_law) (defBody s_law) (defScope s_law) .none kV_law dc_law pm_law an_law cd_law ct_law), sl_law⟩)
    (c_law : PySem.W.codeIn K cd_law "law" = true)
    (k_law : PySem.W.keepIn K (.ref f_law) = true)
    (b_isinstance : PySem.W.nsIn K mainGlobals "isinstance" = some none)
    (b_int : PySem.W.nsIn K mainGlobals "int" = some none)
    (b_bool : PySem.W.nsIn K mainGlobals "bool" = some none)
    (b_list : PySem.W.nsIn K mainGlobals "list" = some none)
    (b_tuple : PySem.W.nsIn K mainGlobals "tuple" = some none)
    (b_len : PySem.W.nsIn K mainGlobals "len" = some none)
    (b_range : PySem.W.nsIn K mainGlobals "range" = some none)
    (b_divmod : PySem.W.nsIn K mainGlobals "divmod" = some none)
    (b_min : PySem.W.nsIn K mainGlobals "min" = some none)
    (b_max : PySem.W.nsIn K mainGlobals "max" = some none)
    (b_all : PySem.W.nsIn K mainGlobals "all" = some none)
    (b_abs : PySem.W.nsIn K mainGlobals "abs" = some none)
    (b_repr : PySem.W.nsIn K mainGlobals "repr" = some none)
    (b_sum : PySem.W.nsIn K mainGlobals "sum" = some none)
    (b_zip : PySem.W.nsIn K mainGlobals "zip" = some none)
    : ∃ fd : FuncData, (∀ (s : Shared) (u : Value), BindsTo s fd ⟨[u], []⟩ [("_law_script", u)]) ∧ ∀ base : Heap, K.In base → base.Ns mainGlobals mg → FnG P w K mg base CX0 22 fa fd ["_law_script"] (sp_law K) := by
  have ef : fa = f_law := by
    have z := PySem.W.mg_of X G a_law
    rw [hmg] at z
    cases z
    rfl
  subst ef
  have T : Txt mg := { b_isinstance := PySem.W.mg_none_of X G b_isinstance, b_int := PySem.W.mg_none_of X G b_int, b_bool := PySem.W.mg_none_of X G b_bool, b_list := PySem.W.mg_none_of X G b_list, b_tuple := PySem.W.mg_none_of X G b_tuple, b_len := PySem.W.mg_none_of X G b_len, b_range := PySem.W.mg_none_of X G b_range, b_divmod := PySem.W.mg_none_of X G b_divmod, b_min := PySem.W.mg_none_of X G b_min, b_max := PySem.W.mg_none_of X G b_max, b_all := PySem.W.mg_none_of X G b_all, b_abs := PySem.W.mg_none_of X G b_abs, b_repr := PySem.W.mg_none_of X G b_repr, b_sum := PySem.W.mg_none_of X G b_sum, b_zip := PySem.W.mg_none_of X G b_zip }
  have F_is_day := fun_mk (K := K) (st := s_is_day) l_is_day c_is_day k_is_day
  have bd_is_day : Binds K _ ["value"] [] := F_is_day.binds (fun _ _ _ _ _ _ => us_1 fun _ => rfl)
  have F_is_count := fun_mk (K := K) (st := s_is_count) l_is_count c_is_count k_is_count
  have bd_is_count : Binds K _ ["value"] [] := F_is_count.binds (fun _ _ _ _ _ _ => us_1 fun _ => rfl)
  have F_need_length := fun_mk (K := K) (st := s_need_length) l_need_length c_need_length k_need_length
  have bd_need_length : Binds K _ ["value"] [] := F_need_length.binds (fun _ _ _ _ _ _ => us_1 fun _ => rfl)
  have F_is_list := fun_mk (K := K) (st := s_is_list) l_is_list c_is_list k_is_list
  have bd_is_list : Binds K _ ["value"] [] := F_is_list.binds (fun _ _ _ _ _ _ => us_1 fun _ => rfl)
  have F_least_days := fun_mk (K := K) (st := s_least_days) l_least_days c_least_days k_least_days
  have bd_least_days : Binds K _ ["many", "bounds"] [] := F_least_days.binds (fun _ _ _ _ _ _ => us_2 fun _ _ => rfl)
  have F_are_kept := fun_mk (K := K) (st := s_are_kept) l_are_kept c_are_kept k_are_kept
  have bd_are_kept : Binds K _ ["bounds", "value"] [] := F_are_kept.binds (fun _ _ _ _ _ _ => us_2 fun _ _ => rfl)
  have F_all_kept := fun_mk (K := K) (st := s_all_kept) l_all_kept c_all_kept k_all_kept
  have bd_all_kept : Binds K _ ["bounds", "days"] [] := F_all_kept.binds (fun _ _ _ _ _ _ => us_2 fun _ _ => rfl)
  have F_ring_of := fun_mk (K := K) (st := s_ring_of) l_ring_of c_ring_of k_ring_of
  have bd_ring_of : Binds K _ ["many", "bounds"] [] := F_ring_of.binds (fun _ _ _ _ _ _ => us_2 fun _ _ => rfl)
  have F_is_ring := fun_mk (K := K) (st := s_is_ring) l_is_ring c_is_ring k_is_ring
  have bd_is_ring : Binds K _ ["bounds", "value"] [] := F_is_ring.binds (fun _ _ _ _ _ _ => us_2 fun _ _ => rfl)
  have F_has_ring_form := fun_mk (K := K) (st := s_has_ring_form) l_has_ring_form c_has_ring_form k_has_ring_form
  have bd_has_ring_form : Binds K _ ["value"] [] := F_has_ring_form.binds (fun _ _ _ _ _ _ => us_1 fun _ => rfl)
  have F_are_bounds := fun_mk (K := K) (st := s_are_bounds) l_are_bounds c_are_bounds k_are_bounds
  have bd_are_bounds : Binds K _ ["value"] [] := F_are_bounds.binds (fun _ _ _ _ _ _ => us_1 fun _ => rfl)
  have F__is_bound := fun_mk (K := K) (st := s__is_bound) l__is_bound c__is_bound k__is_bound
  have bd__is_bound : Binds K _ ["value"] [] := F__is_bound.binds (fun _ _ _ _ _ _ => us_1 fun _ => rfl)
  have F__need_bounds := fun_mk (K := K) (st := s__need_bounds) l__need_bounds c__need_bounds k__need_bounds
  have bd__need_bounds : Binds K _ ["value"] [] := F__need_bounds.binds (fun _ _ _ _ _ _ => us_1 fun _ => rfl)
  have F__need_bounds_below := fun_mk (K := K) (st := s__need_bounds_below) l__need_bounds_below c__need_bounds_below k__need_bounds_below
  have bd__need_bounds_below : Binds K _ ["many", "value"] [] := F__need_bounds_below.binds (fun _ _ _ _ _ _ => us_2 fun _ _ => rfl)
  have F__raised_days := fun_mk (K := K) (st := s__raised_days) l__raised_days c__raised_days k__raised_days
  have bd__raised_days : Binds K _ ["many", "bounds"] [] := F__raised_days.binds (fun _ _ _ _ _ _ => us_2 fun _ _ => rfl)
  have F__law_pot := fun_mk (K := K) (st := s__law_pot) l__law_pot c__law_pot k__law_pot
  have bd__law_pot : Binds K _ ["_law_script", "_law_k"] [] := F__law_pot.binds (fun _ _ _ _ _ _ => us_2 fun _ _ => rfl)
  have F__law_draw := fun_mk (K := K) (st := s__law_draw) l__law_draw c__law_draw k__law_draw
  have bd__law_draw : Binds K _ ["_law_pot_here", "_law_many"] [] := F__law_draw.binds (fun _ _ _ _ _ _ => us_2 fun _ _ => rfl)
  have F__law_pick := fun_mk (K := K) (st := s__law_pick) l__law_pick c__law_pick k__law_pick
  have bd__law_pick : Binds K _ ["_law_pot_here", "_law_some"] [] := F__law_pick.binds (fun _ _ _ _ _ _ => us_2 fun _ _ => rfl)
  have F__law_is_int := fun_mk (K := K) (st := s__law_is_int) l__law_is_int c__law_is_int k__law_is_int
  have bd__law_is_int : Binds K _ ["_law_value"] [] := F__law_is_int.binds (fun _ _ _ _ _ _ => us_1 fun _ => rfl)
  have F__law_bounds := fun_mk (K := K) (st := s__law_bounds) l__law_bounds c__law_bounds k__law_bounds
  have bd__law_bounds : Binds K _ ["_law_pot_here", "_law_many"] [] := F__law_bounds.binds (fun _ _ _ _ _ _ => us_2 fun _ _ => rfl)
  have F__law_least := fun_mk (K := K) (st := s__law_least) l__law_least c__law_least k__law_least
  have bd__law_least : Binds K _ ["_law_many", "_law_bounds_here"] [] := F__law_least.binds (fun _ _ _ _ _ _ => us_2 fun _ _ => rfl)
  have F__law_are_days := fun_mk (K := K) (st := s__law_are_days) l__law_are_days c__law_are_days k__law_are_days
  have bd__law_are_days : Binds K _ ["_law_bounds_here", "_law_value"] [] := F__law_are_days.binds (fun _ _ _ _ _ _ => us_2 fun _ _ => rfl)
  have F__law_is_ring := fun_mk (K := K) (st := s__law_is_ring) l__law_is_ring c__law_is_ring k__law_is_ring
  have bd__law_is_ring : Binds K _ ["_law_bounds_here", "_law_value"] [] := F__law_is_ring.binds (fun _ _ _ _ _ _ => us_2 fun _ _ => rfl)
  have F__law_bent := fun_mk (K := K) (st := s__law_bent) l__law_bent c__law_bent k__law_bent
  have bd__law_bent : Binds K _ ["_law_pot_here", "_law_value", "_law_bounds_here"] [] := F__law_bent.binds (fun _ _ _ _ _ _ => us_3 fun _ _ _ => rfl)
  have F__law_bounds_right := fun_mk (K := K) (st := s__law_bounds_right) l__law_bounds_right c__law_bounds_right k__law_bounds_right
  have bd__law_bounds_right : Binds K _ ["_law_pot_here", "_law_many", "_law_bounds_here"] [] := F__law_bounds_right.binds (fun _ _ _ _ _ _ => us_3 fun _ _ _ => rfl)
  have F__law_told_right := fun_mk (K := K) (st := s__law_told_right) l__law_told_right c__law_told_right k__law_told_right
  have bd__law_told_right : Binds K _ [] [] := F__law_told_right.binds (fun _ _ _ _ _ _ => us_0 rfl)
  have F__law_right := fun_mk (K := K) (st := s__law_right) l__law_right c__law_right k__law_right
  have bd__law_right : Binds K _ ["_law_pot_here"] [] := F__law_right.binds (fun _ _ _ _ _ _ => us_1 fun _ => rfl)
  have F_law := fun_mk (K := K) (st := s_law) l_law c_law k_law
  have bd_law : Binds K _ ["_law_script"] [] := F_law.binds (fun _ _ _ _ _ _ => us_1 fun _ => rfl)
  have kb_least_days_bounds_many := kb_of (ps := ["many", "bounds"]) (ks := ["bounds", "many"]) (n := 0) (g := fun us ws => us ++ ws.reverse) (gV := fun vs zs => vs ++ zs.reverse) F_least_days (by intro _ _ _ _ _ _ us ws h1 h2; cases us_nil h1; obtain ⟨w0, tw0, rfl, kw0⟩ := us_cons (n := 1) h2; obtain ⟨w1, tw1, rfl, kw1⟩ := us_cons (n := 0) kw0; cases us_nil kw1; rfl) (fun a b => a.append (vals_rev b))
  have kb_ring_of_bounds_many := kb_of (ps := ["many", "bounds"]) (ks := ["bounds", "many"]) (n := 0) (g := fun us ws => us ++ ws.reverse) (gV := fun vs zs => vs ++ zs.reverse) F_ring_of (by intro _ _ _ _ _ _ us ws h1 h2; cases us_nil h1; obtain ⟨w0, tw0, rfl, kw0⟩ := us_cons (n := 1) h2; obtain ⟨w1, tw1, rfl, kw1⟩ := us_cons (n := 0) kw0; cases us_nil kw1; rfl) (fun a b => a.append (vals_rev b))
  have kb_are_kept_value_bounds := kb_of (ps := ["bounds", "value"]) (ks := ["value", "bounds"]) (n := 0) (g := fun us ws => us ++ ws.reverse) (gV := fun vs zs => vs ++ zs.reverse) F_are_kept (by intro _ _ _ _ _ _ us ws h1 h2; cases us_nil h1; obtain ⟨w0, tw0, rfl, kw0⟩ := us_cons (n := 1) h2; obtain ⟨w1, tw1, rfl, kw1⟩ := us_cons (n := 0) kw0; cases us_nil kw1; rfl) (fun a b => a.append (vals_rev b))
  have kb_is_ring_value_bounds := kb_of (ps := ["bounds", "value"]) (ks := ["value", "bounds"]) (n := 0) (g := fun us ws => us ++ ws.reverse) (gV := fun vs zs => vs ++ zs.reverse) F_is_ring (by intro _ _ _ _ _ _ us ws h1 h2; cases us_nil h1; obtain ⟨w0, tw0, rfl, kw0⟩ := us_cons (n := 1) h2; obtain ⟨w1, tw1, rfl, kw1⟩ := us_cons (n := 0) kw0; cases us_nil kw1; rfl) (fun a b => a.append (vals_rev b))
  refine ⟨PySem.W.fnOf "law" "law" (defArgs s_law) (defBody s_law) (defScope s_law) .none kV_law dc_law pm_law an_law cd_law ct_law, ?bb, fun base kb nb => ?_⟩
  rotate_left
  have c_is_day : Cal P w K mg base "is_day" f_is_day _ _ _ _ := ⟨ok_is_day (P := P) (w := w) (base := base) F_is_day T, PySem.W.mg_of X G a_is_day, k_is_day, bd_is_day⟩
  have c__law_is_int : Cal P w K mg base "_law_is_int" f__law_is_int _ _ _ _ := ⟨ok__law_is_int (P := P) (w := w) (base := base) F__law_is_int T, PySem.W.mg_of X G a__law_is_int, k__law_is_int, bd__law_is_int⟩
  have c_is_count : Cal P w K mg base "is_count" f_is_count _ _ _ _ := ⟨ok_is_count (P := P) (w := w) (base := base) F_is_count T c_is_day, PySem.W.mg_of X G a_is_count, k_is_count, bd_is_count⟩
  have c_need_length : Cal P w K mg base "need_length" f_need_length _ _ _ _ := ⟨ok_need_length (P := P) (w := w) (base := base) F_need_length T c_is_count, PySem.W.mg_of X G a_need_length, k_need_length, bd_need_length⟩
  have c_is_list : Cal P w K mg base "is_list" f_is_list _ _ _ _ := ⟨ok_is_list (P := P) (w := w) (base := base) F_is_list T, PySem.W.mg_of X G a_is_list, k_is_list, bd_is_list⟩
  have c__is_bound : Cal P w K mg base "_is_bound" f__is_bound _ _ _ _ := ⟨ok__is_bound (P := P) (w := w) (base := base) F__is_bound T c_is_day c_is_count, PySem.W.mg_of X G a__is_bound, k__is_bound, bd__is_bound⟩
  have c_are_bounds : Cal P w K mg base "are_bounds" f_are_bounds _ _ _ _ := ⟨ok_are_bounds (P := P) (w := w) (base := base) F_are_bounds T c_is_list c__is_bound, PySem.W.mg_of X G a_are_bounds, k_are_bounds, bd_are_bounds⟩
  have c__need_bounds : Cal P w K mg base "_need_bounds" f__need_bounds _ _ _ _ := ⟨ok__need_bounds (P := P) (w := w) (base := base) F__need_bounds T c_are_bounds, PySem.W.mg_of X G a__need_bounds, k__need_bounds, bd__need_bounds⟩
  have c__need_bounds_below : Cal P w K mg base "_need_bounds_below" f__need_bounds_below _ _ _ _ := ⟨ok__need_bounds_below (P := P) (w := w) (base := base) F__need_bounds_below T c__need_bounds, PySem.W.mg_of X G a__need_bounds_below, k__need_bounds_below, bd__need_bounds_below⟩
  have c_all_kept : Cal P w K mg base "all_kept" f_all_kept _ _ _ _ := ⟨ok_all_kept (P := P) (w := w) (base := base) F_all_kept T, PySem.W.mg_of X G a_all_kept, k_all_kept, bd_all_kept⟩
  have c_are_kept : Cal P w K mg base "are_kept" f_are_kept _ _ _ _ := ⟨ok_are_kept (P := P) (w := w) (base := base) F_are_kept T c__need_bounds c_is_list c_is_day c_all_kept, PySem.W.mg_of X G a_are_kept, k_are_kept, bd_are_kept⟩
  have c__raised_days : Cal P w K mg base "_raised_days" f__raised_days _ _ _ _ := ⟨ok__raised_days (P := P) (w := w) (base := base) F__raised_days T, PySem.W.mg_of X G a__raised_days, k__raised_days, bd__raised_days⟩
  have c_has_ring_form : Cal P w K mg base "has_ring_form" f_has_ring_form _ _ _ _ := ⟨ok_has_ring_form (P := P) (w := w) (base := base) F_has_ring_form T c_are_bounds, PySem.W.mg_of X G a_has_ring_form, k_has_ring_form, bd_has_ring_form⟩
  have c_is_ring : Cal P w K mg base "is_ring" f_is_ring _ _ _ _ := ⟨ok_is_ring (P := P) (w := w) (base := base) F_is_ring T c__need_bounds c_has_ring_form, PySem.W.mg_of X G a_is_ring, k_is_ring, bd_is_ring⟩
  have c_least_days : Cal P w K mg base "least_days" f_least_days _ _ _ _ := ⟨ok_least_days (P := P) (w := w) (base := base) F_least_days T c_need_length c__need_bounds_below c__raised_days, PySem.W.mg_of X G a_least_days, k_least_days, bd_least_days⟩
  have c_ring_of : Cal P w K mg base "ring_of" f_ring_of _ _ _ _ := ⟨ok_ring_of (P := P) (w := w) (base := base) F_ring_of T c_need_length c__need_bounds_below c__raised_days, PySem.W.mg_of X G a_ring_of, k_ring_of, bd_ring_of⟩
  have c__law_least : Cal P w K mg base "_law_least" f__law_least _ _ _ _ := ⟨ok__law_least (P := P) (w := w) (base := base) F__law_least T, PySem.W.mg_of X G a__law_least, k__law_least, bd__law_least⟩
  have c__law_are_days : Cal P w K mg base "_law_are_days" f__law_are_days _ _ _ _ := ⟨ok__law_are_days (P := P) (w := w) (base := base) F__law_are_days T c__law_is_int, PySem.W.mg_of X G a__law_are_days, k__law_are_days, bd__law_are_days⟩
  have c__law_is_ring : Cal P w K mg base "_law_is_ring" f__law_is_ring _ _ _ _ := ⟨ok__law_is_ring (P := P) (w := w) (base := base) F__law_is_ring T c__law_is_int, PySem.W.mg_of X G a__law_is_ring, k__law_is_ring, bd__law_is_ring⟩
  have c__law_pot : Cal P w K mg base "_law_pot" f__law_pot _ _ _ _ := ⟨ok_pot (P := P) (w := w) (base := base) F__law_pot T, PySem.W.mg_of X G a__law_pot, k__law_pot, bd__law_pot⟩
  have c__law_draw : Cal P w K mg base "_law_draw" f__law_draw _ _ _ _ := ⟨ok_draw (P := P) (w := w) (base := base) F__law_draw T, PySem.W.mg_of X G a__law_draw, k__law_draw, bd__law_draw⟩
  have c__law_pick : Cal P w K mg base "_law_pick" f__law_pick _ _ _ _ := ⟨ok_pick (P := P) (w := w) (base := base) F__law_pick T c__law_draw, PySem.W.mg_of X G a__law_pick, k__law_pick, bd__law_pick⟩
  have c__law_bounds : Cal P w K mg base "_law_bounds" f__law_bounds _ _ _ _ := ⟨ok_bounds (P := P) (w := w) (base := base) F__law_bounds T c__law_draw c__law_pick, PySem.W.mg_of X G a__law_bounds, k__law_bounds, bd__law_bounds⟩
  have c__law_bent : Cal P w K mg base "_law_bent" f__law_bent _ _ _ _ := ⟨ok_bent (P := P) (w := w) (base := base) F__law_bent T c__law_draw c__law_pick c__law_is_int, PySem.W.mg_of X G a__law_bent, k__law_bent, bd__law_bent⟩
  have c__law_bounds_right : CalG P w K mg base "_law_bounds_right" f__law_bounds_right _ _ _ _ := ⟨ok_bright (P := P) (w := w) (base := base) F__law_bounds_right T c__law_least c__law_draw c__law_pick c__law_bent c__law_are_days c__law_is_ring c_least_days c_ring_of c_are_kept c_is_ring kb_least_days_bounds_many kb_ring_of_bounds_many kb_are_kept_value_bounds kb_is_ring_value_bounds, PySem.W.mg_of X G a__law_bounds_right, k__law_bounds_right, bd__law_bounds_right⟩
  have c__law_told_right : Cal P w K mg base "_law_told_right" f__law_told_right _ _ _ _ := ⟨ok_told (P := P) (w := w) (base := base) F__law_told_right T c__law_is_ring c_least_days c_ring_of c_are_kept c_is_ring, PySem.W.mg_of X G a__law_told_right, k__law_told_right, bd__law_told_right⟩
  have c__law_right : CalG P w K mg base "_law_right" f__law_right _ _ _ _ := ⟨ok_right (P := P) (w := w) (base := base) F__law_right T c__law_draw c__law_bounds c__law_bounds_right c__law_told_right, PySem.W.mg_of X G a__law_right, k__law_right, bd__law_right⟩
  exact ok_law (P := P) (w := w) (base := base) F_law T c__law_pot c__law_right
  exact fun s u => BindsTo.of_looks fun M => PySem.W.Looks.of_pure rfl
end
end K43
end
section
open PySem PySem.W PyProof.Rows L2
set_option maxHeartbeats 0 in
theorem PySem.Challenge.cw_leadrules_k43_least_days_and_rings_of_bo_holds : PySem.Challenge.rw_leadrules_k43_least_days_and_rings_of_bo.Holds := by
  w_on; o_law; k_head; (case hw => w_witness2)
  k_fill
  refine G.walkG (l := PySem.Challenge.rw_leadrules_k43_least_days_and_rings_of_bo) (n := 63) (k := 22) (x := "_law_script") (CX := CX0) (sp := K43.sp_law) rfl (by decide) rfl ⟨rfl, by decide, by decide⟩ (fun w h Y => PySem.W.kIn_of Y) ?Fq ?Sq ?Nq
  case Sq => exact fun K H a ns hl hO hS => ⟨a, ns, rfl, hS, hl, fun H2 e => rfl⟩
  case Nq => exact fun H s e s' h => h
  case Fq =>
    intro w mg fa h KX G0 hmg
    refine' K43.all_mk KX G0 hmg ?a_is_day ?l_is_day ?c_is_day ?k_is_day ?a_is_count ?l_is_count ?c_is_count ?k_is_count ?a_need_length ?l_need_length ?c_need_length ?k_need_length ?a_is_list ?l_is_list ?c_is_list ?k_is_list ?a_least_days ?l_least_days ?c_least_days ?k_least_days ?a_are_kept ?l_are_kept ?c_are_kept ?k_are_kept ?a_all_kept ?l_all_kept ?c_all_kept ?k_all_kept ?a_ring_of ?l_ring_of ?c_ring_of ?k_ring_of ?a_is_ring ?l_is_ring ?c_is_ring ?k_is_ring ?a_has_ring_form ?l_has_ring_form ?c_has_ring_form ?k_has_ring_form ?a_are_bounds ?l_are_bounds ?c_are_bounds ?k_are_bounds ?a__is_bound ?l__is_bound ?c__is_bound ?k__is_bound ?a__need_bounds ?l__need_bounds ?c__need_bounds ?k__need_bounds ?a__need_bounds_below ?l__need_bounds_below ?c__need_bounds_below ?k__need_bounds_below ?a__raised_days ?l__raised_days ?c__raised_days ?k__raised_days ?a__law_pot ?l__law_pot ?c__law_pot ?k__law_pot ?a__law_draw ?l__law_draw ?c__law_draw ?k__law_draw ?a__law_pick ?l__law_pick ?c__law_pick ?k__law_pick ?a__law_is_int ?l__law_is_int ?c__law_is_int ?k__law_is_int ?a__law_bounds ?l__law_bounds ?c__law_bounds ?k__law_bounds ?a__law_least ?l__law_least ?c__law_least ?k__law_least ?a__law_are_days ?l__law_are_days ?c__law_are_days ?k__law_are_days ?a__law_is_ring ?l__law_is_ring ?c__law_is_ring ?k__law_is_ring ?a__law_bent ?l__law_bent ?c__law_bent ?k__law_bent ?a__law_bounds_right ?l__law_bounds_right ?c__law_bounds_right ?k__law_bounds_right ?a__law_told_right ?l__law_told_right ?c__law_told_right ?k__law_told_right ?a__law_right ?l__law_right ?c__law_right ?k__law_right ?a_law ?l_law ?c_law ?k_law ?b_isinstance ?b_int ?b_bool ?b_list ?b_tuple ?b_len ?b_range ?b_divmod ?b_min ?b_max ?b_all ?b_abs ?b_repr ?b_sum ?b_zip
    (case a_is_day => k_is)
    (case l_is_day => k_is)
    (case c_is_day => k_is)
    (case k_is_day => k_is)
    (case a_is_count => k_is)
    (case l_is_count => k_is)
    (case c_is_count => k_is)
    (case k_is_count => k_is)
    (case a_need_length => k_is)
    (case l_need_length => k_is)
    (case c_need_length => k_is)
    (case k_need_length => k_is)
    (case a_is_list => k_is)
    (case l_is_list => k_is)
    (case c_is_list => k_is)
    (case k_is_list => k_is)
    (case a_least_days => k_is)
    (case l_least_days => k_is)
    (case c_least_days => k_is)
    (case k_least_days => k_is)
    (case a_are_kept => k_is)
    (case l_are_kept => k_is)
    (case c_are_kept => k_is)
    (case k_are_kept => k_is)
    (case a_all_kept => k_is)
    (case l_all_kept => k_is)
    (case c_all_kept => k_is)
    (case k_all_kept => k_is)
    (case a_ring_of => k_is)
    (case l_ring_of => k_is)
    (case c_ring_of => k_is)
    (case k_ring_of => k_is)
    (case a_is_ring => k_is)
    (case l_is_ring => k_is)
    (case c_is_ring => k_is)
    (case k_is_ring => k_is)
    (case a_has_ring_form => k_is)
    (case l_has_ring_form => k_is)
    (case c_has_ring_form => k_is)
    (case k_has_ring_form => k_is)
    (case a_are_bounds => k_is)
    (case l_are_bounds => k_is)
    (case c_are_bounds => k_is)
    (case k_are_bounds => k_is)
    (case a__is_bound => k_is)
    (case l__is_bound => k_is)
    (case c__is_bound => k_is)
    (case k__is_bound => k_is)
    (case a__need_bounds => k_is)
    (case l__need_bounds => k_is)
    (case c__need_bounds => k_is)
    (case k__need_bounds => k_is)
    (case a__need_bounds_below => k_is)
    (case l__need_bounds_below => k_is)
    (case c__need_bounds_below => k_is)
    (case k__need_bounds_below => k_is)
    (case a__raised_days => k_is)
    (case l__raised_days => k_is)
    (case c__raised_days => k_is)
    (case k__raised_days => k_is)
    (case a__law_pot => k_is)
    (case l__law_pot => k_is)
    (case c__law_pot => k_is)
    (case k__law_pot => k_is)
    (case a__law_draw => k_is)
    (case l__law_draw => k_is)
    (case c__law_draw => k_is)
    (case k__law_draw => k_is)
    (case a__law_pick => k_is)
    (case l__law_pick => k_is)
    (case c__law_pick => k_is)
    (case k__law_pick => k_is)
    (case a__law_is_int => k_is)
    (case l__law_is_int => k_is)
    (case c__law_is_int => k_is)
    (case k__law_is_int => k_is)
    (case a__law_bounds => k_is)
    (case l__law_bounds => k_is)
    (case c__law_bounds => k_is)
    (case k__law_bounds => k_is)
    (case a__law_least => k_is)
    (case l__law_least => k_is)
    (case c__law_least => k_is)
    (case k__law_least => k_is)
    (case a__law_are_days => k_is)
    (case l__law_are_days => k_is)
    (case c__law_are_days => k_is)
    (case k__law_are_days => k_is)
    (case a__law_is_ring => k_is)
    (case l__law_is_ring => k_is)
    (case c__law_is_ring => k_is)
    (case k__law_is_ring => k_is)
    (case a__law_bent => k_is)
    (case l__law_bent => k_is)
    (case c__law_bent => k_is)
    (case k__law_bent => k_is)
    (case a__law_bounds_right => k_is)
    (case l__law_bounds_right => k_is)
    (case c__law_bounds_right => k_is)
    (case k__law_bounds_right => k_is)
    (case a__law_told_right => k_is)
    (case l__law_told_right => k_is)
    (case c__law_told_right => k_is)
    (case k__law_told_right => k_is)
    (case a__law_right => k_is)
    (case l__law_right => k_is)
    (case c__law_right => k_is)
    (case k__law_right => k_is)
    (case a_law => k_is)
    (case l_law => k_is)
    (case c_law => k_is)
    (case k_law => k_is)
    (case b_isinstance => k_is)
    (case b_int => k_is)
    (case b_bool => k_is)
    (case b_list => k_is)
    (case b_tuple => k_is)
    (case b_len => k_is)
    (case b_range => k_is)
    (case b_divmod => k_is)
    (case b_min => k_is)
    (case b_max => k_is)
    (case b_all => k_is)
    (case b_abs => k_is)
    (case b_repr => k_is)
    (case b_sum => k_is)
    (case b_zip => k_is)
end
