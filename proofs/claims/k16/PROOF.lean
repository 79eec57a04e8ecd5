import PyProof.Rows.All
import Wide.All
import OpenK.AllK
import Wide.FinOn
import HandS.ForMost
import HandS.Evl
import HandS.Property
import HandS.Star
import HandS.ClsMeth
import HandS.Defaults
import HandS.MakeKwOnly
import HandS.FStr
import HandS.Conv
import HandS.Gcd
import HandS.IsInst
import HandS.Wide
import PyProof.ReprRoads
import PyProof.ListNew
import PyProof.ListRange
import HandS.OwnEq
import HandS.More
import HandS.Style
import KE.KMathGC
import HandS.Ends
import PySem.Challenge.RW_leadrules_k16_whole_rules_through_rows
set_option Elab.async false
set_option linter.all false
set_option maxRecDepth 100000
section
set_option maxHeartbeats 2000000
namespace G
open PySem PySem.Spec PyProof.Rows L2

/-! ### a def's promise where no repr is running around it -/
structure FnG (P : Program) (w : World) (K : PySem.W.Frag) (mg : Str → Option Value) (base : Heap) (CX : CXT) (k : Nat) (f : Addr) (fd : FuncData) (ps : List Str) (sp : Sp) : Prop where
  len : ∀ vs H Q E, sp vs H Q E → vs.length = ps.length
  run : ∀ (A : Around) (outer : List Env) (s : Shared) (H : Hp) (args : Args) (us : List Value) (vs : List V) (Q : VK) (E : XK), A.guards = some [] → Room k A → Env0 P w K mg base A outer s H → BindsTo s fd args (ps.zip us) → Vals vs us → sp vs H Q E →
    codeAny (model P w) A (.call (.ref f) args) (CR CX outer P w H s Q E) s
theorem FnG.of {P : Program} {w : World} {K : PySem.W.Frag} {mg : Str → Option Value} {base : Heap} {CX : CXT} {k : Nat} {f : Addr} {fd : FuncData} {ps : List Str} {sp : Sp} (F : FnOk P w K mg base CX k f fd ps sp) : FnG P w K mg base CX k f fd ps sp :=
  ⟨F.len, fun A outer s H args us vs Q E _ => F.run A outer s H args us vs Q E⟩

theorem fnG_of {CX : CXT} {P : Program} {w : World} {K : PySem.W.Frag} {mg : Str → Option Value} {base : Heap} {k : Nat} {f : Addr} {name qual : Str} {params : Arguments} {body : List Stmt} {scope : Scope} {dV kV doc pm cdv ct oc : Value} {an od : Option Addr}
    {osl : Array (Option Value)} {N ps : List Str} {sp : Sp} (lk : K.lookup f = some ⟨oc, od, .func (PySem.W.fnOf name qual params body scope dV kV doc pm an cdv ct), osl⟩) (hcd : PySem.W.codeIn K cdv qual = true) (S : FnScope N ps scope)
    (len : ∀ vs H Q E, sp vs H Q E → vs.length = ps.length)
    (hbody : ∀ (A : Around) (outer : List Env) (s : Shared) (H : Hp) (vs : List V) (Q : VK) (E : XK), A.guards = some [] → Room k (A.deeper (envOfC qual scope s.heap.objs.size f cdv)) → sp vs H Q E →
      ∃ t, PSs (cxOf CX P w K mg base N qual scope f cdv A outer s H E) body t ∧ t { nx := fun _ H' => Q .non H', rt := Q } (start N vs) H) :
    FnG P w K mg base CX (k + 1) f (PySem.W.fnOf name qual params body scope dV kV doc pm an cdv ct) ps sp := by
  refine ⟨len, fun A outer s H args us vs Q E hgd hr e0 hb r hsp => ?_⟩
  have hl := len _ _ _ _ hsp
  have KX : K.In s.heap := e0.mod.kin.keeps fun b o e => (e0.bs b o e).1
  have lim : s.heap.NoLimit := e0.mod.nolimit.keeps fun b o e => (e0.bs b o e).1
  have hkind : ∀ y ∈ ps.zip us, scope.names.lookup y.1 = some .local ∨ (scope.names.lookup y.1 = some .cell ∧ ((cellsFrom (s.heap.objs.size + 1) scope.names []).lookup y.1).isSome = true) := fun ⟨n, v⟩ hy => by
    rcases S.par n (List.of_mem_zip hy).1 with q | q
    · exact .inl q
    · exact .inr ⟨q, PySem.W.cellsFrom_some _ _ _ (.inl q)⟩
  refine codeAny_call_function hr.depth (KX _ _ lk) rfl S.co S.gen rfl (PySem.W.codeRec_of KX hcd) (hb _ _ _ _ ?_)
  refine wpAny_newFunctionEnv_cells S.kind hkind fun env he s1 x => ?_
  subst he
  refine ⟨lim.keeps x.toInCall.keep, codeAny_func ?_⟩
  obtain ⟨t, ht, hq⟩ := hbody A outer s H vs Q E hgd (hr.deeper _) hsp
  have I : Inv (cxOf CX P w K mg base N qual scope f cdv A outer s H E) [] (start N vs) H s1 := inv_start S hr.hd e0 hl r x
  refine wpAny_mono (ht.run [] s1 (start N vs) H _ I hq) (fun fl s' hs => ?_) fun e s' hs => hs
  have fin : ∀ {σ' : L2.St} {H' : Hp} {v : V} {u : Value}, Inv (cxOf CX P w K mg base N qual scope f cdv A outer s H E) [] σ' H' s' → RelV v u → Q v H' → CE outer P w H s Q u s' :=
    fun {σ' H' v u} J rv q => ⟨v, H', J.os, J.bare, J.base, J.hok, rv, q⟩
  cases fl with
  | ret u =>
    obtain ⟨v, σ', H', J, rv, q⟩ := hs
    exact fin J rv q
  | next =>
    obtain ⟨σ', H', J, q⟩ := hs
    exact fin (v := V.non) (u := Value.none) J rfl q
  | brk =>
    obtain ⟨_, _, _, q⟩ := hs
    exact False.elim q
  | cont =>
    obtain ⟨_, _, _, q⟩ := hs
    exact False.elim q

theorem okG {P : Program} {w : World} {K : PySem.W.Frag} {mg : Str → Option Value} {base : Heap} {x qual : Str} {st : Stmt} {f : Addr} {fd : FuncData} {N ps : List Str} {k : Nat} {sp : Sp} (F : Fun K x qual st f fd) (S : FnScope N ps (defScope st)) (len : ∀ vs H Q E, sp vs H Q E → vs.length = ps.length)
    (hbody : ∀ (cdv : Value) (A : Around) (outer : List Env) (s : Shared) (H : Hp) (vs : List V) (Q : VK) (E : XK), A.guards = some [] → Room k (A.deeper (envOfC qual (defScope st) s.heap.objs.size f cdv)) → sp vs H Q E →
      ∃ t, PSs (cxOf CX0 P w K mg base N qual (defScope st) f cdv A outer s H E).nox (defBody st) t ∧ t { nx := fun _ H' => Q .non H', rt := Q } (start N vs) H) : FnG P w K mg base CX0 (k + 1) f fd ps sp := by
  obtain ⟨oc, od, kV, doc, pm, an, cdv, ct, osl, rfl, lk, hcd⟩ := F.ex
  refine fnG_of lk hcd S len fun A outer s H vs Q E hg hr hsp => ?_
  obtain ⟨t, h, q⟩ := hbody cdv A outer s H vs Q E hg hr hsp
  exact ⟨t, h.nox, q⟩

section
variable {X : Cx} {CX : CXT} {k n : Nat} {f C : Addr} {fd : FuncData} {ps ks : List Str} {sp : Sp} {dvs : List V} {ds : List Value} {E : XK} {x m : Str} {p pos apos : Pos} {e o : Expr} {es : List Expr} {kws : List Keyword} {ta : TE} {t tk : TA} {g : List Value → List Value → List Value} {gV : List V → List V → List V}
theorem run_fnG {pins : List (Addr × Obj)} {σ : L2.St} {H : Hp} {s : Shared} {Q : VK} {us : List Value} {vs : List V} (F : FnG X.prog X.w X.K X.mg X.base CX k f fd ps sp) (hgd : X.A.guards = some []) (hr : Room k X.A) (hb : Binds X.K fd ps ds) (hd : Vals dvs ds) (hx : Passes CX X E)
    (I : Inv X pins σ H s) (r : Vals vs us) (h : sp (vs ++ dvs) H Q E) : wpAny (model X.prog X.w) X.A (call (.ref f) us) (EP X pins σ Q) X.xe s := by
  have r2 : Vals (vs ++ dvs) (us ++ ds) := r.append hd
  have hl : (us ++ ds).length = ps.length := by rw [← r2.length]; exact F.len _ _ _ _ h
  refine wpAny_call (codeAny_mono (F.run X.A X.stack s H ⟨us, []⟩ (us ++ ds) (vs ++ dvs) Q E hgd hr I.env0 (hb s us I.kIn hl) r2 h) fun r s' hq => ?_)
  cases r with
  | error e => exact hx pins σ H s e s' I hq
  | ok fl =>
    cases fl with
    | ret u => exact I.after hq
    | next => exact False.elim hq
    | brk => exact False.elim hq
    | cont => exact False.elim hq
/-- f(e, ..) -/
theorem pe_callG (F : FnG X.prog X.w X.K X.mg X.base CX k f fd ps sp) (hgd : X.A.guards = some []) (hr : Room k X.A) (hg : Gl X x) (hm : X.mg x = some (.ref f)) (hk : PySem.W.keepIn X.K (.ref f) = true) (hb : Binds X.K fd ps ds) (hd : Vals dvs ds) (hx : Passes CX X E)
    (ha : PA X (e :: es) t) (hdb : (x == ("__debug__" : Str)) = false := by decide) (he : starEach (e :: es) X.env = (false, eval e X.env) :: starEach es X.env := by rfl) (hpl : (backTo pos (starEach es X.env)).any (·.1) = false := by rfl) :
    PE X (.Call (.Name x p) (e :: es) [] pos) (tCall sp dvs E t) := by
  refine ⟨fun pins s σ H Q I h => ?_⟩
  refine wpAny_Call_Name_kw (ld_glob I hg hm ?_ hdb)
  refine PySem.W.callWith_K (h₀ := X.base) I.ok.mod.kin hk (thn (ha.run pos pins s σ H _ I h) fun us s1 ⟨vs, H1, I1, r, q⟩ => ⟨I1.kIn, ?_⟩) he hpl
  exact run_fnG F hgd hr hb hd hx I1 r q
/-- o.m(k = v, ..) -/
def tMethN (C : Addr) (m : Str) (n j : Nat) (sp : Sp) (gV : List V → List V → List V) (E : XK) (ta : TE) (t tk : TA) : TE := fun σ H Q => ta σ H fun x H1 => ∃ a dx fs, x = .ref a ∧ H1 a = some (.ins C dx fs) ∧ fs.lookup m = none ∧
  t σ H1 fun vs H2 => tk σ H2 fun zs H3 => vs.length = n ∧ zs.length = j ∧ sp (gV (x :: vs) zs) H3 Q E
theorem pe_methN0 {pl : Sem Bool} (he : PE X o ta) (c : Cls X.K C) (hm : Meth X.K C m f) (F : FnOk X.prog X.w X.K X.mg X.base CX k f fd ps sp) (hr : Room k X.A) (hb : KBn X.K fd ps 1 ks g gV) (hx : Passes CX X E) (hkw : PK X kws tk)
    (hall : (backToKw pos (keywordEach kws X.env)).all (·.1.isSome) = true := by rfl) (hks : (backToKw pos (keywordEach kws X.env)).filterMap (·.1) = ks := by rfl)
    (hpl : ((backTo pos (starEach [] X.env)).any (·.1) || (backToKw pos (keywordEach kws X.env)).any (·.1.isNone)) = false := by rfl)
    (ht : eval (.Call (.Attribute o m apos) [] kws pos) X.env = (do
      let ov ← eval o X.env
      standAt apos.atName
      let (f, first) ← holding [ov] (getMethod ov m pl)
      callWith pos f first (backTo pos (starEach [] X.env)) (backToKw pos (keywordEach kws X.env))) := by rfl) :
    PE X (.Call (.Attribute o m apos) [] kws pos) (tMethN C m 0 ks.length sp gV E ta tNil tk) := by
  refine ⟨fun pins s σ H Q I h => ?_⟩
  refine PySem.W.methodCall_KW (pl := pl) (thn (he.run pins s σ H _ I h) fun u s1 ⟨x, H1, I1, rx, a, dx, fs, ex, ea, l, q⟩ => ?_) ht
  subst ex
  obtain rfl : u = Value.ref a := rx
  refine getmeth_ok I1 ea c hm l ?_
  refine PySem.W.callWith_KW0 (first := [.ref a]) (h₀ := X.base) I.ok.mod.kin hm.kp hall ?_ hpl
  refine thn (hkw.run pos pins s1 σ H1 _ I1 q) fun ws s2 ⟨zs, H2, I2, rz, l1, l2, q2⟩ => ⟨I2.kIn, ?_⟩
  rw [hks]
  exact run_fnN (us := [.ref a]) (vs := [.ref a]) F hr hb hx I2 (.cons rfl .nil) rz rfl l2 q2
end

/-! ### repr of data; repr of an own instance; {x} of data -/
mutual
theorem dp_nodict {K : PySem.W.Frag} {H : Hp} : ∀ {d : PyData} {v : V}, Dp K H v d → d.hasDict = false
  | .none, _, _ => by simp [PyData.hasDict]
  | .bool _, _, _ => by simp [PyData.hasDict]
  | .int _, _, _ => by simp [PyData.hasDict]
  | .str _, _, _ => by simp [PyData.hasDict]
  | .list ds, _, h => by
    cases h with
    | lst _ ha => simpa [PyData.hasDict] using dp_nodictAll ha
  | .tuple ds, _, h => by
    cases h with
    | tup _ ha => simpa [PyData.hasDict] using dp_nodictAll ha
  | .dict _, _, h => by cases h
theorem dp_nodictAll {K : PySem.W.Frag} {H : Hp} : ∀ {ds : List PyData} {vs : List V}, DpAll K H vs ds → PyData.hasDictAll ds = false
  | [], _, _ => by simp [PyData.hasDictAll]
  | d :: ds, _, h => by
    cases h with
    | cons h1 h2 => simp [PyData.hasDictAll, dp_nodict h1, dp_nodictAll h2]
end
def rRepr (K : PySem.W.Frag) : List V → Hp → VK → Prop := fun xs H Q => ∃ (a : Addr) (d : PyData), xs = [.ref a] ∧ Dp K H (.ref a) d ∧ d.showable = true ∧ d.depth ≤ 60 ∧ d.shown.length ≤ sizeLine ∧ Q (.str d.shown) H
theorem call_reprD {X : Cx} (hgd : X.A.guards = some []) (hu : X.A.units + 64 < cLine) : CallR X (.builtin "repr") (rRepr X.K) := by
  intro pins s σ H xs us Q I r h
  obtain ⟨a, d, rfl, hd, hs, hdp, hz, q⟩ := h
  obtain ⟨u, rfl, ru⟩ := vals1 r
  obtain rfl : u = Value.ref a := ru
  obtain ⟨as, hr⟩ := Dp.reads I d _ _ hd rfl
  refine repr_of_reads' hr hs (PyData.noDict_hsm (dp_nodict hd)) hgd (by omega) (fun _ _ e => e) (fun h' u tk hk => ?_) hz
  exact ⟨.str d.shown, H, I.kept hk, ⟨_, rfl⟩, q⟩
end G
end
section
set_option maxHeartbeats 2000000
namespace G
open PySem PySem.Spec PyProof.Rows L2
section
variable {X : Cx} {CX : CXT} {k : Nat} {f C : Addr} {fd : FuncData} {ps : List Str} {sp : Sp} {E : XK}
def rReprO (C : Addr) (sp : Sp) (E : XK) : List V → Hp → VK → Prop := fun xs H Q => ∃ (a dx : Addr) (fs : List (Str × V)), xs = [.ref a] ∧ H a = some (.ins C dx fs) ∧ sp [.ref a] H (fun v H' => (∃ y, v = .str y) ∧ Q v H') E
theorem call_reprO (hs : PySem.W.findIn X.K (.ref C) "__repr__" = some (some (.ref f))) (hf : PySem.W.isFn X.K (.ref f) = true) (FF : FnG X.prog X.w X.K X.mg X.base CX k f fd ps sp) (hgd : X.A.guards = some []) (hr : Room (k + 1) X.A)
    (hb : Binds X.K fd ps []) (hx : Passes CX X E) : CallR X (.builtin "repr") (rReprO C sp E) := by
  intro pins s σ H xs us Q I r h
  obtain ⟨a, dx, fs, rfl, ea, hsp⟩ := h
  obtain ⟨u, rfl, ru⟩ := vals1 r
  obtain rfl : u = Value.ref a := ru
  obtain ⟨mA, O, _, _, _, _⟩ := ins_get I.hok ea
  obtain ⟨od, J, _⟩ := O.look
  refine Calls.call_function_entry F.kind_repr F.plain_repr F.entry_repr (F.args_repr1 _) ?_
  unfold Builtin.«repr»
  refine wpAny_bind (m := oneArg "repr" _) (wpAny_pure ?_)
  refine wpAny_bind (m := cRoomFor _ _) (wpAny_cRoomFor (by have := hr.units; show X.A.units + 1 < cLine; omega) ?_)
  refine wpAny_bind ?_
  unfold specialOf
  refine wpAny_bind (J.type.here ((PySem.W.looks_findIn I.kIn hs).here ?_))
  show wpAny _ _ (if (some (Value.ref f)).isNone = true then _ else _) _ _ _
  rw [if_neg (by simp)]
  have hl : ([Value.ref a] ++ []).length = ps.length := by
    rw [← FF.len _ _ _ _ hsp] <;> rfl
  refine wpAny_bind (m := callSpecialIfBound? (.ref a) (Str.ofString "__repr__") _) (PySem.W.ifBound_K I.kIn J hs hf ?_)
  refine wpAny_call (codeAny_mono (FF.run X.A.in1 X.stack s H ⟨[.ref a], []⟩ [.ref a] [.ref a] _ E hgd hr.in1 I.env0.in1 (hb _ [.ref a] I.kIn hl) (.cons rfl .nil) hsp) fun r s' hq => ?_)
  cases r with
  | error er => exact hx pins σ H s er s' I hq
  | ok fl =>
    cases fl with
    | ret u =>
      obtain ⟨v, H', I3, rv, ⟨y, ey⟩, q3⟩ := I.after hq
      subst ey
      obtain ⟨tk, rfl⟩ := rv
      show wpAny _ _ _ _ _ _
      refine wpAny_bind (wpAny_isInstance (typeIs_str _ _ _) isSubtype_str_str ?_)
      first
        | exact wpAny_pure ⟨_, rfl, ⟨.str y, H', I3, ⟨tk, rfl⟩, q3⟩⟩
        | (rw [if_pos rfl]; exact wpAny_pure ⟨_, rfl, ⟨.str y, H', I3, ⟨tk, rfl⟩, q3⟩⟩)
        | (simp only [if_true]; exact wpAny_pure ⟨_, rfl, ⟨.str y, H', I3, ⟨tk, rfl⟩, q3⟩⟩)
    | next => exact False.elim hq
    | brk => exact False.elim hq
    | cont => exact False.elim hq

/-- {x} of data, as a text -/
def tFmtD (K : PySem.W.Frag) (te : TE) : TE := fun σ H Q => te σ H fun x H1 => ∃ (a : Addr) (d : PyData), x = .ref a ∧ Dp K H1 (.ref a) d ∧ d.showable = true ∧ d.depth ≤ 60 ∧ d.shown.length ≤ sizeLine ∧ Q (.str d.shown) H1
theorem pe_fmtD {e : Expr} {te : TE} {pos : Pos} (hgd : X.A.guards = some []) (hu : X.A.units + 64 < cLine) (he : PE X e te) : PE X (.FormattedValue e (-1) none pos) (tFmtD X.K te) := by
  refine ⟨fun pins s σ H Q I h => ?_⟩
  refine wpAny_FormattedValue_plain (thn (he.run pins s σ H _ I h) fun v s1 hv => ?_)
  obtain ⟨x, H1, I1, r1, a, d, rfl, hd, hs, hdp, hz, q⟩ := hv
  obtain rfl : v = Value.ref a := r1
  obtain ⟨as, hr⟩ := Dp.reads I1 d _ _ hd rfl
  exact formatField_of_reads hr hs (PyData.noDict_hsm (dp_nodict hd)) hgd (by omega) (fun _ _ e => e) (fun h' u tk hk => ⟨.str d.shown, H1, I1.kept hk, ⟨_, rfl⟩, q⟩) hz
end
end G
end
section
set_option maxHeartbeats 2000000
namespace G
open PySem PySem.Spec PyProof.Rows L2

/-! ### list(enumerate(xs)) -/
def enObj (f0 f1 : Value) (it : Addr) (i : Int) (old : Value) : Obj := { cls := .type "enumerate", dict := none, data := .fields #[f0, f1, .ref it, rawInt i, .none, old], slots := #[] }
def IsEn (h : Heap) (e it : Addr) (i : Int) : Prop := ∃ f0 f1 old, h.get? e = some (enObj f0 f1 it i old) ∧ (f0 = .none ∨ ∃ a : Addr, f0 = rawInt a)
section
variable {prog : Program} {w : World} {A : Around} {E : Value → Shared → Prop} {s : Shared}
theorem wpAny_loadIfAlive {a : Addr} {Q : Option Obj → Shared → Prop} (h : Q (s.heap.get? a) s) : wpAny (model prog w) A (loadIfAlive a) Q E s := fun Γ p _ => by
  show Sem.wp _ Γ (.loadIfAlive a .pure) _ _ p s
  rw [Sem.wp_loadIfAlive]
  exact h

theorem en_handOut {e it T : Addr} {i : Int} {f0 f1 old x : Value} {Q : Unit → Shared → Prop} (he : s.heap.get? e = some (enObj f0 f1 it i old))
    (hQ : ∀ h', h'.get? e = some (enObj (rawInt T) (.bool false) it i old) → Heap.SameBut e s.heap h' → Q () { s with heap := h' }) :
    wpAny (model prog w) A (Builtin.SmallTypes.ownedTupleHandOut (.ref e) (.ref T)) Q E s := by
  unfold Builtin.SmallTypes.ownedTupleHandOut
  refine wpAny_bind (wpAny_setField_rec he (by simp [enObj]) fun h₆ he₆ hs₆ => ?_)
  refine wpAny_setField_rec he₆ (by simp [enObj]) fun h₇ he₇ hs₇ => ?_
  refine hQ h₇ ?_ ?_
  · simpa [enObj] using he₇
  · exact ⟨by rw [hs₇.1, hs₆.1], fun b hb => (hs₇.2 b hb).trans (hs₆.2 b hb)⟩

theorem en_next {e it l : Addr} {i : Nat} {items : Array Value} {x : Value} {Q : Value → Shared → Prop}
    (he : IsEn s.heap e it i) (hit : s.heap.IsListIter it l i) (hl : s.heap.IsList l items) (hx : items[i]? = some x) (hne : e ≠ it)
    (hQ : ∀ h', IsEn h' e it ((i : Int) + 1) → h'.IsListIter it l (i + 1) →
      h'.get? s.heap.objs.size = some { cls := .type "tuple", data := .seq #[.int i s.toks, x] } → 
      (∀ b o, b ≠ e → b ≠ it → s.heap.get? b = some o → h'.get? b = some o) → Q (.ref s.heap.objs.size) { s with heap := h', toks := s.toks + 1 }) :
    wpAny (model prog w) A (Builtin.«enumerate.__next__» ⟨[.ref e], []⟩) (fun fin s' => ∃ v, fin = .done (.ret v) ∧ Q v s') E s := by
  obtain ⟨f0, f1, old, he, hf0⟩ := he
  obtain ⟨hp, g, d, tk, os⟩ := s
  show wpAny _ _ (field (.ref e) 2 >>= _) _ _ _
  refine wpAny_bind (wpAny_field he rfl (x := .ref it) rfl ?_)
  refine wpAny_bind (wpAny_nextOf_list_item hit hl hx fun h₁ hit₁ hs₁ => ?_)
  replace hs₁ : Heap.SameBut it hp h₁ := hs₁
  have he₁ : h₁.get? e = some (enObj f0 f1 it i old) := (hs₁.2 e hne).trans he
  show wpAny _ _ (field (.ref e) 3 >>= _) _ _ ⟨h₁, g, d, tk, os⟩
  refine wpAny_bind (wpAny_field he₁ rfl (x := rawInt i) rfl ?_)
  show wpAny _ _ (field (.ref e) 4 >>= _) _ _ ⟨h₁, g, d, tk, os⟩
  refine wpAny_bind (wpAny_field he₁ rfl (x := .none) rfl ?_)
  show wpAny _ _ (mkInt i >>= _) _ _ ⟨h₁, g, d, tk, os⟩
  refine wpAny_bind (wpAny_mkInt ?_)
  show wpAny _ _ (setField (.ref e) 3 (rawInt ((i : Int) + 1)) >>= _) _ _ ⟨h₁, g, d, tk + 1, os⟩
  refine wpAny_bind (wpAny_setField_rec he₁ (by simp) fun h₂ he₂ hs₂ => ?_)
  replace hs₂ : Heap.SameBut e h₁ h₂ := hs₂
  replace he₂ : h₂.get? e = some (enObj f0 f1 it ((i : Int) + 1) old) := he₂
  show wpAny _ _ (setField (.ref e) 4 .none >>= _) _ _ ⟨h₂, g, d, tk + 1, os⟩
  refine wpAny_bind (wpAny_setField_rec he₂ (by simp) fun h₃ he₃ hs₃ => ?_)
  replace hs₃ : Heap.SameBut e h₂ h₃ := hs₃
  replace he₃ : h₃.get? e = some (enObj f0 f1 it ((i : Int) + 1) old) := he₃
  show wpAny _ _ (newTuple [.int i tk, x] >>= _) _ _ ⟨h₃, g, d, tk + 1, os⟩
  refine wpAny_bind (wpAny_newTuple ?_)
  have he₄ : (h₃.push { cls := .type "tuple", data := .seq #[.int i tk, x] }).get? e = some (enObj f0 f1 it ((i : Int) + 1) old) := Heap.get?_push_of_some _ he₃
  generalize hh₄ : h₃.push { cls := .type "tuple", data := .seq #[.int i tk, x] } = h₄ at he₄
  have hsz : h₃.objs.size = hp.objs.size := by rw [hs₃.1, hs₂.1, hs₁.1]
  have hel : e < hp.objs.size := Heap.lt_size he
  have ht₄ : h₄.get? hp.objs.size = some { cls := .type "tuple", data := .seq #[.int i tk, x] } := by rw [← hh₄, ← hsz]; exact Heap.get?_push_size _ rfl
  have hk₄ : ∀ b o, b ≠ e → b ≠ it → hp.get? b = some o → h₄.get? b = some o := fun b o hbe hbi hb => by
    rw [← hh₄]; exact Heap.get?_push_of_some _ (hs₃.extBut b o hbe (hs₂.extBut b o hbe (hs₁.extBut b o hbi hb)))
  have hit₄ : h₄.IsListIter it l (i + 1) := by
    rw [← hh₄]; obtain ⟨o, ho, r⟩ := (hit₁.extBut hs₂.extBut (Ne.symm hne)).extBut hs₃.extBut (Ne.symm hne); exact ⟨o, Heap.get?_push_of_some _ ho, r⟩
  show wpAny _ _ (Builtin.SmallTypes.ownedTupleIsFree (.ref e) >>= _) _ _ ⟨h₄, g, d, tk + 1, os⟩
  rw [hsz]
  clear hh₄ he₃ hs₃ he₂ hs₂ he₁ hs₁ hit₁ hsz h₃ h₂ h₁
  -- the tuple that is free is handed out, and the object is as before otherwise
  have free : wpAny (model prog w) A (do
      rule "enumerate.__next__.owned-tuple-again"
      let old ← field (.ref e) 5
      setField (.ref e) 5 x
      Builtin.SmallTypes.ownedTupleHandOut (.ref e) (.ref hp.objs.size)
      letGo [old] [.ref hp.objs.size]
      ret (.ref hp.objs.size)) (fun fin s' => ∃ v, fin = .done (.ret v) ∧ Q v s') E ⟨h₄, g, d, tk + 1, os⟩ := by
    refine wpAny_bind (wpAny_rule ?_)
    refine wpAny_bind (wpAny_field he₄ rfl (x := old) rfl ?_)
    refine wpAny_bind (wpAny_setField_rec he₄ (by simp [enObj]) fun h₅ he₅ hs₅ => ?_)
    replace hs₅ : Heap.SameBut e h₄ h₅ := hs₅
    replace he₅ : h₅.get? e = some (enObj f0 f1 it ((i : Int) + 1) x) := he₅
    refine wpAny_bind (en_handOut (x := x) he₅ fun h₇ he₇ hs₇ => ?_)
    replace hs₇ : Heap.SameBut e h₅ h₇ := hs₇
    refine wpAny_bind (wpAny_letGo (wpAny_pure ⟨_, rfl, hQ h₇ ⟨_, _, _, he₇, .inr ⟨_, rfl⟩⟩ ?_ ?_ ?_⟩))
    · exact (hit₄.extBut hs₅.extBut (Ne.symm hne)).extBut hs₇.extBut (Ne.symm hne)
    · exact hs₇.extBut _ _ (Nat.ne_of_gt hel) (hs₅.extBut _ _ (Nat.ne_of_gt hel) ht₄)
    · exact fun b o hbe hbi hb => hs₇.extBut b o hbe (hs₅.extBut b o hbe (hk₄ b o hbe hbi hb))
  refine wpAny_bind ?_
  unfold Builtin.SmallTypes.ownedTupleIsFree
  rcases hf0 with rfl | ⟨a, rfl⟩
  · refine wpAny_bind (wpAny_field he₄ rfl (x := .none) rfl (wpAny_pure ?_))
    simp only [if_true]
    exact free
  · refine wpAny_bind (wpAny_field he₄ rfl (x := rawInt a) rfl ?_)
    show wpAny _ _ (loadIfAlive (Int.toNat (a : Int)) >>= _) _ _ _
    refine wpAny_bind (wpAny_loadIfAlive ?_)
    cases hal : h₄.get? (Int.toNat (a : Int)) with
    | none =>
      simp only [Option.isNone_none, if_true]
      refine wpAny_pure ?_
      simp only [if_true]
      exact free
    | some oa =>
      simp only [Option.isNone_some, Bool.false_eq_true, if_false]
      refine wpAny_bind (wpAny_field he₄ rfl (x := f1) rfl ?_)
      have fin : ∀ h₅ : Heap, IsEn h₅ e it ((i : Int) + 1) → Heap.SameBut e h₄ h₅ → ∃ v, Fin.done (Flow.ret (.ref hp.objs.size)) = .done (.ret v) ∧ Q v ⟨h₅, g, d, tk + 1, os⟩ := fun h₅ he₅ hs₅ => by
        refine ⟨_, rfl, hQ h₅ he₅ ?_ ?_ ?_⟩
        · exact hit₄.extBut hs₅.extBut (Ne.symm hne)
        · exact hs₅.extBut _ _ (Nat.ne_of_gt hel) ht₄
        · exact fun b o hbe hbi hb => hs₅.extBut b o hbe (hk₄ b o hbe hbi hb)
      by_cases hb : (f1 != .bool true) = true
      · rw [if_pos hb]
        refine wpAny_bind (wpAny_setField_rec he₄ (by simp [enObj]) fun h₅ he₅ hs₅ => ?_)
        refine wpAny_pure ?_
        simp only [Bool.false_eq_true, if_false]
        exact wpAny_pure (fin h₅ ⟨_, _, _, (by simpa [enObj] using he₅), .inr ⟨_, rfl⟩⟩ hs₅)
      · rw [if_neg hb]
        refine wpAny_bind (wpAny_pure (wpAny_pure ?_))
        simp only [Bool.false_eq_true, if_false]
        exact wpAny_pure (fin h₄ ⟨_, _, _, he₄, .inr ⟨_, rfl⟩⟩ ⟨rfl, fun _ _ => rfl⟩)
end
end G
end
section
set_option maxHeartbeats 2000000
namespace G
open PySem PySem.Spec PyProof.Rows L2
namespace F
theorem enum_no_len : typeLookup (.type "enumerate") "__len__" = pure none := by rw [typeLookup_type, builtinLookup_eq_fast]; kernel_rfl
theorem enum_no_hint : typeLookup (.type "enumerate") "__length_hint__" = pure none := by rw [typeLookup_type, builtinLookup_eq_fast]; kernel_rfl
end F
section
variable {prog : Program} {w : World} {A : Around} {E : Value → Shared → Prop} {s : Shared} {R : Result → Shared → Prop}
theorem IsEn.typeIs {e it : Addr} {i : Int} (he : IsEn s.heap e it i) : s.TypeIs (.ref e) "enumerate" := by
  obtain ⟨f0, f1, old, he, _⟩ := he
  exact ⟨_, he, rfl⟩
theorem en_pyNext {e it l : Addr} {i : Nat} {items : Array Value} {x : Value} {Q : Option Value → Shared → Prop}
    (he : IsEn s.heap e it i) (hit : s.heap.IsListIter it l i) (hl : s.heap.IsList l items) (hx : items[i]? = some x) (hne : e ≠ it)
    (hQ : ∀ h', IsEn h' e it ((i : Int) + 1) → h'.IsListIter it l (i + 1) →
      h'.get? s.heap.objs.size = some { cls := .type "tuple", data := .seq #[.int i s.toks, x] } → 
      (∀ b o, b ≠ e → b ≠ it → s.heap.get? b = some o → h'.get? b = some o) → Q (some (.ref s.heap.objs.size)) { s with heap := h', toks := s.toks + 1 }) :
    wpAny (model prog w) A (pyNext (.ref e)) Q E s := by
  have hT := he.typeIs
  unfold pyNext
  exact wpAny_bind (wpAny_attempt (wpAny_callSpecial?_slot (name := Str.ofString "__next__") hT PySem.F.slot_enumerate_next
    (wpAny_call_entry PySem.F.slot_enumerate_next hT PySem.F.entry_enumerate_next
      (en_next he hit hl hx hne fun h' a b c k => wpAny_pure (hQ h' a b c k)) (PySem.F.args_enumerate_next_1 _))))
theorem en_pyEnd {e it l : Addr} {i : Nat} {items : Array Value} {Q : Option Value → Shared → Prop} (hh : A.handled = none)
    (he : IsEn s.heap e it i) (hit : s.heap.IsListIter it l i) (hl : s.heap.IsList l items) (hx : items[i]? = none)
    (hQ : ∀ h', Heap.ExtBut it s.heap h' → Q none { s with heap := h' }) : wpAny (model prog w) A (pyNext (.ref e)) Q E s := by
  have hT := he.typeIs
  obtain ⟨f0, f1, old, he, _⟩ := he
  unfold pyNext
  refine wpAny_bind (wpAny_attempt (wpAny_callSpecial?_slot (name := Str.ofString "__next__") hT PySem.F.slot_enumerate_next
    (wpAny_call_entry PySem.F.slot_enumerate_next hT PySem.F.entry_enumerate_next ?_ (PySem.F.args_enumerate_next_1 _))))
  show wpAny _ _ (field (.ref e) 2 >>= _) _ _ _
  refine wpAny_bind (wpAny_field he rfl (x := .ref it) rfl ?_)
  refine wpAny_bind (wpAny_nextOf_list_end hh hit hl hx fun h' x he' hx' => ?_)
  obtain ⟨o, ho, hc⟩ := hx'
  refine wpAny_bind (wpAny_isInstance (T := "StopIteration") (b := true) ⟨o, ho, hc⟩ isSubtype_stop ?_)
  exact wpAny_pure (hQ _ he')

theorem en_pyIter {e it : Addr} {i : Int} {Q : Value → Shared → Prop} (he : IsEn s.heap e it i) (h : Q (.ref e) s) : wpAny (model prog w) A (pyIter (.ref e)) Q E s := by
  have hT := he.typeIs
  refine wpAny_pyIter_slot hT PySem.F.slot_enumerate_iter (wpAny_call_entry PySem.F.slot_enumerate_iter hT PySem.F.entry_enumerate_iter ?_ (PySem.F.args_enumerate_iter_1 _))
  show wpAny _ _ (ret (.ref e)) _ _ s
  exact wpAny_pure ⟨_, rfl, "enumerate", _, hT, PySem.F.slot_enumerate_next.lookup, h⟩
/-- the tuples made so far -/
def Tups (h : Heap) (acc items : Array Value) (n B : Nat) : Prop := acc.size = n ∧ ∀ j, j < n → ∃ (T : Addr) (tk : Tok) (x : Value), acc[j]? = some (.ref T) ∧ items[j]? = some x ∧ B ≤ T ∧ h.get? T = some { cls := .type "tuple", data := .seq #[.int j tk, x] }

theorem en_loop {e it l S : Addr} {items : Array Value} {res : Value} (hh : A.handled = none) (hei : e ≠ it) (hle : l ≠ e) (hli : l ≠ it) (hSe : S ≠ e) (hSi : S ≠ it) (hSl : S ≠ l) (hn : items.size ≤ sizeLine) {B : Nat} (hBe : e < B) (hBi : it < B) (hBS : S < B) :
    ∀ (k i : Nat) (s : Shared) (acc : Array Value) (c : Nat), items.size - i = k → i ≤ items.size → B ≤ s.heap.objs.size → IsEn s.heap e it i → s.heap.IsListIter it l i → s.heap.IsList l items →
    s.heap.get? S = some { cls := .type "list", dict := none, data := .seq acc c, slots := #[] } → Tups s.heap acc items i B →
    (∀ h' tk acc' c', (∀ b o, b ≠ S → b ≠ e → b ≠ it → s.heap.get? b = some o → h'.get? b = some o) → h'.get? S = some { cls := .type "list", dict := none, data := .seq acc' c', slots := #[] } → Tups h' acc' items items.size B → R (.ok (.ret res)) { s with heap := h', toks := tk }) →
    codeAny (model prog w) A (.builtin "list.extend.loop" ⟨[.ref S, .ref e, res], []⟩) R s := by
  intro k
  induction k with
  | zero =>
    intro i s acc c hk hi hB he hit hl hS hT hR
    have hin : i = items.size := by omega
    subst hin
    refine codeAny_builtin PySem.F.entry_extend_loop ?_
    rw [Around.under_plainId PySem.F.plain_extend_loop _]
    show wpAny _ A.in1 (pyNext (.ref e) >>= _) _ _ s
    refine wpAny_bind (en_pyEnd (A := A.in1) hh he hit hl (Array.getElem?_eq_none (Nat.le_refl _)) fun h' hx => ?_)
    refine wpAny_pure (hR h' s.toks acc c (fun b o _ _ hb q => hx b o hb q) (hx S _ hSi hS) ⟨hT.1, fun j hj => ?_⟩)
    obtain ⟨T, tk, x, a1, a2, a3, a4⟩ := hT.2 j hj
    exact ⟨T, tk, x, a1, a2, a3, hx T _ (Nat.ne_of_gt (Nat.lt_of_lt_of_le hBi a3)) a4⟩
  | succ k ih =>
    intro i s acc c hk hi hB he hit hl hS hT hR
    have hlt : i < items.size := by omega
    refine codeAny_builtin PySem.F.entry_extend_loop ?_
    rw [Around.under_plainId PySem.F.plain_extend_loop _]
    show wpAny _ A.in1 (pyNext (.ref e) >>= _) _ _ s
    have hx : items[i]? = some items[i] := Array.getElem?_eq_getElem hlt
    refine wpAny_bind (en_pyNext (A := A.in1) he hit hl hx hei fun h' he' hit' hT' hk' => ?_)
    have hS' := hk' S _ hSe hSi hS
    show wpAny _ A.in1 (updateSeq S (·.push (.ref s.heap.objs.size)) >>= _) _ _ _
    refine wpAny_bind ?_
    have hSz : S ≠ s.heap.objs.size := Nat.ne_of_lt (Heap.lt_size hS)
    have oth : ∀ b o, b ≠ S → h'.get? b = some o → (h'.update S (Obj.mapSeq (·.push (Value.ref s.heap.objs.size)))).get? b = some o := fun b o hb q => (Heap.get?_update_other _ _ (Ne.symm hb)).trans q
    refine wpAny_updateSeq hS' rfl (wpAny_pure ⟨plainId_quiet PySem.F.plain_extend_loop _, ih (i + 1) _ (acc.push (.ref s.heap.objs.size)) _ (by omega) hlt ?hB ?he ?hit ?hl (Heap.get?_update_self _ hS' rfl) ?hT ?hR⟩) (by rw [hT.1]; exact Nat.le_trans hi hn) (by show (acc.push _).size ≤ sizeLine + 1; rw [Array.size_push, hT.1]; exact Nat.succ_le_succ (Nat.le_trans hi hn))
    case hB =>
      have q := Heap.lt_size (oth _ _ hSz.symm hT')
      exact Nat.le_trans hB (Nat.le_of_lt q)
    case he =>
      obtain ⟨f0, f1, old, q, r⟩ := he'
      exact ⟨f0, f1, old, by
        show (h'.update S _).get? e = _
        have e1 : (((i + 1 : Nat)) : Int) = (i : Int) + 1 := by omega
        rw [e1]
        exact oth e _ hSe.symm q, r⟩
    case hit => exact hit'.at fun o q => oth it o hSi.symm q
    case hl => exact hl.at fun o q => oth l o hSl.symm (hk' l o hle hli q)
    case hT =>
      refine ⟨by rw [Array.size_push, hT.1], fun j hj => ?_⟩
      by_cases hji : j < i
      · obtain ⟨T, tk, x, a1, a2, a3, a4⟩ := hT.2 j hji
        refine ⟨T, tk, x, ?_, a2, a3, oth T _ (Nat.ne_of_gt (Nat.lt_of_lt_of_le hBS a3)) (hk' T _ (Nat.ne_of_gt (Nat.lt_of_lt_of_le hBe a3)) (Nat.ne_of_gt (Nat.lt_of_lt_of_le hBi a3)) a4)⟩
        rw [Array.getElem?_push, if_neg (by rw [hT.1]; omega)]
        exact a1
      · have hje : j = i := by omega
        subst hje
        refine ⟨s.heap.objs.size, s.toks, _, ?_, hx, hB, oth _ _ hSz.symm hT'⟩
        rw [Array.getElem?_push, if_pos hT.1.symm]
    case hR =>
      intro h2 tk2 acc2 c2 hk2 hS2 hT2
      exact hR h2 tk2 acc2 c2 (fun b o b1 b2 b3 q => hk2 b o b1 b2 b3 (oth b o b1 (hk' b o b2 b3 q))) hS2 hT2

theorem en_init {e it l S : Addr} {items : Array Value} (hh : A.handled = none) (hei : e ≠ it) (hle : l ≠ e) (hli : l ≠ it) (hSe : S ≠ e) (hSi : S ≠ it) (hSl : S ≠ l) (hn : items.size ≤ sizeLine)
    (he : IsEn s.heap e it 0) (hit : s.heap.IsListIter it l 0) (hl : s.heap.IsList l items) (hS : s.heap.get? S = some { cls := .type "list", data := .seq #[] })
    (hR : ∀ h' tk acc' c', (∀ b o, b ≠ S → b ≠ e → b ≠ it → s.heap.get? b = some o → h'.get? b = some o) → h'.get? S = some { cls := .type "list", dict := none, data := .seq acc' c', slots := #[] } → Tups h' acc' items items.size s.heap.objs.size → R (.ok (.ret .none)) { s with heap := h', toks := tk }) :
    wpAny (model prog w) A.in1 (Builtin.«list.__init__» ⟨[.ref S, .ref e], []⟩)
      (fun fin s' => match fin with | .done f => R (.ok f) s' | .again c' => c'.quiet = true ∧ codeAny (model prog w) A c' R s') (fun e s' => R (.error e) s') s := by
  show wpAny _ A.in1 (do let old ← Builtin.List.listItems (.ref S); Builtin.List.listUpdate (.ref S) (fun _ => #[]); letGo old.toList.reverse; Builtin.List.listExtendWith (.ref S) (.ref e) .none) _ _ s
  refine wpAny_bind ?_
  unfold Builtin.List.listItems
  refine wpAny_bind (wpAny_seqItems hS rfl (wpAny_pure ?_))
  show wpAny _ A.in1 (updateSeq S (fun _ => #[]) >>= fun _ => letGo (#[] : Array Value).toList.reverse >>= fun _ => Builtin.List.listExtendWith (.ref S) (.ref e) .none) _ _ s
  refine wpAny_bind (wpAny_updateSeq hS rfl ?_)
  have hS₂ := Heap.get?_update_self (Obj.mapSeq (fun _ => (#[] : Array Value))) hS rfl
  have oth : ∀ b o, b ≠ S → s.heap.get? b = some o → (s.heap.update S (Obj.mapSeq (fun _ => (#[] : Array Value)))).get? b = some o :=
    fun b o hb e => (Heap.get?_update_other _ _ (Ne.symm hb)).trans e
  have en2 : ∀ {h h' : Heap}, (∀ o, h.get? e = some o → h'.get? e = some o) → IsEn h e it 0 → IsEn h' e it 0 := fun k ⟨f0, f1, old, q, r⟩ => ⟨f0, f1, old, k _ q, r⟩
  refine wpAny_bind (wpAny_letGo ?_)
  have he₂ := en2 (fun o q => oth e o hSe.symm q) he
  unfold Builtin.List.listExtendWith
  refine wpAny_bind (wpAny_typeOf (IsEn.typeIs (s := { s with heap := s.heap.update S (Obj.mapSeq (fun _ => (#[] : Array Value))) }) he₂) ?_)
  have h1 : Builtin.List.listSameRef (.ref S) (.ref e) = false := by simp [Builtin.List.listSameRef, hSe]
  have h2 : (Value.type "enumerate" == Value.type "list") = false := by decide
  have h3 : (Value.type "enumerate" == Value.type "tuple") = false := by decide
  simp only [h1, h2, h3, Bool.or_false, Bool.false_eq_true, if_false]
  have he3 := he₂
  obtain ⟨f0, f1, old, q0, r0⟩ := he3
  refine wpAny_bind (en_pyIter (s := { s with heap := s.heap.update S (Obj.mapSeq (fun _ => (#[] : Array Value))) }) he₂ ?_)
  refine wpAny_bind (wpAny_holding ?_)
  unfold Builtin.List.listLengthHint
  refine wpAny_bind (wpAny_specialOf (IsEn.typeIs (s := { s with heap := s.heap.update S (Obj.mapSeq (fun _ => (#[] : Array Value))) }) he₂) F.enum_no_len ?_)
  show wpAny _ A.in1 (specialOf (Value.ref e) (Str.ofString "__length_hint__") >>= _) _ _ _
  refine wpAny_bind (wpAny_specialOf (IsEn.typeIs (s := { s with heap := s.heap.update S (Obj.mapSeq (fun _ => (#[] : Array Value))) }) he₂) F.enum_no_hint ?_)
  refine wpAny_pure ?_
  show wpAny _ A.in1 (rule "list.extend.makes-room" >>= fun _ => Builtin.List.listTouch (.ref S) >>= fun _ =>
    again (.builtin "list.extend.loop" ⟨[.ref S, .ref e, .none], []⟩)) _ _ _
  refine wpAny_bind (wpAny_rule ?_)
  refine wpAny_bind ?_
  show wpAny _ A.in1 (updateSeq S (·.push .none) >>= fun _ => updateSeq S (·.pop)) _ _ _
  refine wpAny_bind (wpAny_updateSeq hS₂ rfl ?_)
  have hS₃ := Heap.get?_update_self (Obj.mapSeq (·.push Value.none)) hS₂ rfl
  refine wpAny_updateSeq (hz := by seq_fits) hS₃ rfl ?_
  have hS₄ := Heap.get?_update_self (Obj.mapSeq (·.pop)) hS₃ rfl
  have oth2 : ∀ b o, b ≠ S → s.heap.get? b = some o → (((s.heap.update S (Obj.mapSeq (fun _ => (#[] : Array Value)))).update S (Obj.mapSeq (·.push Value.none))).update S (Obj.mapSeq (·.pop))).get? b = some o :=
    fun b o hb q => (Heap.get?_update_other _ _ (Ne.symm hb)).trans ((Heap.get?_update_other _ _ (Ne.symm hb)).trans (oth b o hb q))
  have hlt : ∀ b o, s.heap.get? b = some o → b < s.heap.objs.size := fun b o q => Heap.lt_size q
  obtain ⟨_, _, _, qe, _⟩ := id he
  obtain ⟨oi, qi, _⟩ := id hit
  refine wpAny_pure ⟨plainId_quiet PySem.F.plain_extend_loop _, en_loop hh hei hle hli hSe hSi hSl hn (hlt _ _ qe) (hlt _ _ qi) (hlt _ _ hS) items.size 0 _ _ _ rfl (Nat.zero_le _) ?_
    (en2 (fun o q => oth2 e o hSe.symm q) he) (hit.at fun o q => oth2 it o hSi.symm q) (hl.at fun o q => oth2 l o hSl.symm q) hS₄ ⟨rfl, fun j hj => absurd hj (Nat.not_lt_zero _)⟩ fun h' tk acc' c' hk hS' hT => ?_⟩
  · show _ ≤ (((s.heap.update S _).update S _).update S _).objs.size
    simp
  · exact hR h' tk acc' c' (fun b o b1 b2 b3 q => hk b o b1 b2 b3 (oth2 b o b1 q)) hS' hT
end
end G
end
section
set_option maxHeartbeats 2000000
namespace G
open PySem PySem.Spec PyProof.Rows L2
section
variable {prog : Program} {w : World} {A : Around} {E : Value → Shared → Prop} {s : Shared}
theorem call_list_enum {e it l : Addr} {items : Array Value} {Q : Value → Shared → Prop} (hh : A.handled = none) (hei : e ≠ it) (hle : l ≠ e) (hli : l ≠ it) (hn : items.size ≤ sizeLine)
    (he : IsEn s.heap e it 0) (hit : s.heap.IsListIter it l 0) (hl : s.heap.IsList l items)
    (hQ : ∀ h' tk acc' c', (∀ b o, b ≠ e → b ≠ it → s.heap.get? b = some o → h'.get? b = some o) → h'.get? s.heap.objs.size = some { cls := .type "list", dict := none, data := .seq acc' c', slots := #[] } →
      Tups h' acc' items items.size (s.heap.objs.size + 1) → Q (.ref s.heap.objs.size) { s with heap := h', toks := tk }) :
    wpAny (model prog w) A (call (.type "list") [.ref e]) Q E s := by
  obtain ⟨_, _, _, qe, _⟩ := id he
  obtain ⟨oi, qi, _⟩ := id hit
  obtain ⟨ol, ql, _⟩ := id hl
  have lt : ∀ {b : Addr} {o : Obj}, s.heap.get? b = some o → s.heap.objs.size ≠ b := fun q => Nat.ne_of_gt (Heap.lt_size q)
  refine callType_codes (Q₁ := fun obj s₁ => obj = .ref s.heap.objs.size ∧ s₁ = { s with heap := s.heap.push { cls := .type "list", data := .seq #[] } }) PySem.F.called_list (PySem.F.typeCall_list_1 _) PySem.F.entry_list_init
    (code_list_new _ ⟨rfl, rfl⟩) fun obj s₁ h₁ => ?_
  obtain ⟨rfl, rfl⟩ := h₁
  have hS : (s.heap.push { cls := .type "list", data := .seq #[] }).get? s.heap.objs.size = some { cls := .type "list", data := .seq #[] } := Heap.get?_push_size _ rfl
  refine ⟨⟨_, hS, rfl⟩, PySem.F.args_list_init_2 _ _, en_init (s := { s with heap := s.heap.push { cls := .type "list", data := .seq #[] } }) (A := A.in1) hh hei hle hli (lt qe) (lt qi) (lt ql) hn ?_
    (hit.at fun o q => Heap.get?_push_of_some _ q) (hl.at fun o q => Heap.get?_push_of_some _ q) hS fun h' tk acc' c' hk hS' hT => ?_⟩
  · obtain ⟨f0, f1, old, q, r⟩ := he
    exact ⟨f0, f1, old, Heap.get?_push_of_some _ q, r⟩
  · refine ⟨rfl, hQ h' tk acc' c' (fun b o b1 b2 q => hk b o (lt q).symm b1 b2 (Heap.get?_push_of_some _ q)) hS' ?_⟩
    have e1 : (s.heap.push { cls := .type "list", data := .seq #[] }).objs.size = s.heap.objs.size + 1 := Heap.size_push ..
    rw [← e1]
    exact hT
end

open Classical in
/-- what is new: the list at S, a pair for each item -/
noncomputable def enH (H : Hp) (S : Addr) (acc : List Addr) (xs : List V) : Hp := fun b =>
  if b = S then some (.lst (acc.map V.ref)) else if h : ∃ (j : Nat) (x : V), acc[j]? = some b ∧ xs[j]? = some x then some (.tup [.int ((Classical.choose h : Nat) : Int), Classical.choose (Classical.choose_spec h)]) else H b

section
variable {X : Cx}
def tListEn (K : PySem.W.Frag) (te : TE) : TE := fun σ H Q => te σ H fun x H1 => ∃ (a : Addr) (xs : List V), x = .ref a ∧ SqL K H1 a xs ∧
  ∀ (l : Addr) (ts : List Addr) (H2 : Hp), H1 l = none → Evl.Ex H1 H2 → H2 l = some (.lst (ts.map V.ref)) → ts.length = xs.length → (∀ (j : Nat) (T : Addr) (x : V), ts[j]? = some T → xs[j]? = some x → H2 T = some (.tup [.int (j : Int), x])) → Q (.ref l) H2
theorem pe_listEn {e : Expr} {te : TE} {p pos p2 pos2 : Pos} (hc : X.calm = true) (hg : Gl X "list") (hm : X.mg "list" = none) (hg2 : Gl X "enumerate") (hm2 : X.mg "enumerate" = none) (ha : PE X e te)
    (na2 : starEach [e] X.env = (false, eval e X.env) :: starEach [] X.env := by rfl)
    (na : starEach [.Call (.Name "enumerate" p2) [e] [] pos2] X.env = (false, eval (.Call (.Name "enumerate" p2) [e] [] pos2) X.env) :: starEach [] X.env := by rfl) :
    PE X (.Call (.Name "list" p) [.Call (.Name "enumerate" p2) [e] [] pos2] [] pos) (tListEn X.K te) := by
  refine ⟨fun pins s σ H Q I h => ?_⟩
  refine Call_ (ld_blt I hg hm boot_list (PyProof.Rows.callWith_type1 (args_cons ?_ na) na))
  refine Call_ (ld_blt I hg2 hm2 boot_enumerate (PyProof.Rows.callWith_type1 (one_arg ha I h (fun v s1 x H1 I1 r q => ?_) na2) na2))
  obtain ⟨a, xs, rfl, hs, q⟩ := q
  obtain rfl : v = Value.ref a := r
  obtain ⟨its, rv, pl, hz⟩ := I1.list hs
  have lits : its.length = xs.length := rv.length.symm
  refine call_enumerate_list pl.isList fun h1 he hit hsz hk => args_nil ?_
  have hal : a < s1.heap.objs.size := by obtain ⟨o, q, _⟩ := pl.isList; exact Heap.lt_size q
  refine call_list_enum (s := { s1 with heap := h1 }) (A := X.A) (I1.ok.hd hc) (Nat.succ_ne_self _) (Nat.ne_of_lt (Nat.lt_succ_of_lt hal)) (Nat.ne_of_lt hal) (by rw [List.size_toArray, lits]; exact hz)
    ⟨_, _, _, he, .inl rfl⟩ hit (pl.isList.at fun o q => hk a o q) fun h' tk acc c' hk' hS' hT => ?_
  -- the addresses
  have hacc : ∀ j, j < acc.size → ∃ T : Addr, acc[j]? = some (.ref T) := fun j hj => by
    obtain ⟨T, _, _, e1, _⟩ := hT.2 j (by rw [← hT.1]; exact hj)
    exact ⟨T, e1⟩
  let adr : Value → Addr := fun v => match v with | .ref T => T | _ => 0
  let ts : List Addr := acc.toList.map adr
  have tsl : ts.length = xs.length := by
    show (acc.toList.map adr).length = _
    rw [List.length_map, Array.length_toList, hT.1, List.size_toArray, lits]
  have tsj : ∀ j (T : Addr), ts[j]? = some T → acc[j]? = some (.ref T) ∧ j < its.length := fun j T hj => by
    have hlt : j < ts.length := (List.getElem?_eq_some_iff.mp hj).1
    have hlt2 : j < acc.size := by rw [hT.1, List.size_toArray, lits, ← tsl]; exact hlt
    obtain ⟨T', e1⟩ := hacc j hlt2
    have e2 : ts[j]? = some T' := by
      show (acc.toList.map adr)[j]? = some T'
      rw [List.getElem?_map, Array.getElem?_toList, e1] <;> rfl
    rw [hj] at e2
    cases e2
    exact ⟨e1, by rw [lits, ← tsl]; exact hlt⟩
  -- what stands at each
  have tup : ∀ (j : Nat) (T : Addr) (x : V), ts[j]? = some T → xs[j]? = some x → ∃ (tk : Tok) (u : Value), RelV x u ∧ s1.heap.objs.size ≤ T ∧ T ≠ h1.objs.size ∧ h'.get? T = some { cls := .type "tuple", data := .seq #[.int (j : Int) tk, u] } := fun j T x hj hx => by
    obtain ⟨e1, hj2⟩ := tsj j T hj
    obtain ⟨T', tk, u, a1, a2, a3, a4⟩ := hT.2 j (by rw [List.size_toArray]; exact hj2)
    rw [e1] at a1
    cases a1
    obtain ⟨u', hu', ru⟩ := rv.get hx
    have e3 : its[j]? = some u := by simpa using a2
    rw [hu'] at e3
    have e4 := Option.some.inj e3
    subst e4
    have a3' : h1.objs.size + 1 ≤ T := a3
    refine ⟨tk, _, ru, Nat.le_trans (by rw [hsz]; exact Nat.le_add_right _ _) (Nat.le_of_succ_le a3'), Nat.ne_of_gt a3', a4⟩
  have ltS : s1.heap.objs.size ≤ h1.objs.size := by rw [hsz]; exact Nat.le_add_right _ _
  have kept : ∀ b o, s1.heap.get? b = some o → h'.get? b = some o := fun b o q => by
    have hb := Heap.lt_size q
    exact hk' b o (Nat.ne_of_lt (Nat.lt_succ_of_lt hb)) (Nat.ne_of_lt hb) (hk b o q)
  have low : ∀ b, b < s1.heap.objs.size → enH H1 h1.objs.size ts xs b = H1 b := fun b hb => by
    unfold enH
    rw [if_neg (Nat.ne_of_lt (Nat.lt_of_lt_of_le hb ltS)), dif_neg]
    rintro ⟨j, x, e1, e2⟩
    obtain ⟨_, _, _, e3, _⟩ := tup j b x e1 e2
    exact absurd hb (Nat.not_lt_of_le e3)
  have old : ∀ b o, H1 b = some o → enH H1 h1.objs.size ts xs b = some o := fun b o q => by rw [low b (I1.hok.lt q)]; exact q
  have atS : enH H1 h1.objs.size ts xs h1.objs.size = some (.lst (ts.map V.ref)) := by unfold enH; rw [if_pos rfl]
  have atT : ∀ (j : Nat) (T : Addr) (x : V), ts[j]? = some T → xs[j]? = some x → enH H1 h1.objs.size ts xs T = some (.tup [.int (j : Int), x]) := fun j T x hj hx => by
    obtain ⟨tk, u, ru, _, hne, e1⟩ := tup j T x hj hx
    have hex : ∃ (j : Nat) (x : V), ts[j]? = some T ∧ xs[j]? = some x := ⟨j, x, hj, hx⟩
    unfold enH
    rw [if_neg hne, dif_pos hex]
    have key : ∀ (j0 : Nat) (x0 : V), ts[j0]? = some T → xs[j0]? = some x0 → j0 = j ∧ x0 = x := fun j0 x0 q1 q2 => by
      obtain ⟨tk2, u2, ru2, _, _, e2⟩ := tup j0 T x0 q1 q2
      rw [e1] at e2
      have e3 : (Value.int (j : Int) tk) = Value.int (j0 : Int) tk2 := by
        have := Option.some.inj e2
        injection this with _ _ d _
        injection d with d1 _
        have := congrArg (fun a : Array Value => a[0]?) d1
        simpa using this
      injection e3 with e4 _
      have e5 : j0 = j := by omega
      subst e5
      rw [hx] at q2
      exact ⟨rfl, (Option.some.inj q2).symm⟩
    obtain ⟨k1, k2⟩ := key _ _ (Classical.choose_spec (Classical.choose_spec hex)).1 (Classical.choose_spec (Classical.choose_spec hex)).2
    have e7 : V.int ((Classical.choose hex : Nat) : Int) = V.int (j : Int) := by rw [k1]
    rw [e7, k2]
  have un : Un X.fs [] H1 (enH H1 h1.objs.size ts xs) s1.heap h' := by
    refine ⟨fun b o q _ _ _ => kept b o q, fun b o q _ _ _ => ⟨o.slots, kept b o q⟩, fun b o q n _ => by rw [low b (Heap.lt_size q)]; exact n, fun b o q _ => ⟨o, kept b o q⟩, fun b xs q => old b _ q, fun b o u q => old b _ q, fun b ps q => ⟨#[], by rw [old b _ q]; simp⟩⟩
  have hok : HOk X.prog X.w (enH H1 h1.objs.size ts xs) h' := fun b o q => by
    by_cases hb : b = h1.objs.size
    · subst hb
      rw [atS] at q
      cases q
      refine ⟨?_, acc.toList, c', ?_, ?_⟩
      · rw [List.length_map, tsl]; exact hz
      · have : ∀ (l : List Value), (∀ v ∈ l, ∃ T : Addr, v = .ref T) → Vals ((l.map adr).map V.ref) l := fun l => by
          induction l with
          | nil => exact fun _ => .nil
          | cons v l ih =>
            intro hv
            obtain ⟨T, rfl⟩ := hv v (List.mem_cons_self ..)
            exact .cons rfl (ih fun u hu => hv u (List.mem_cons_of_mem _ hu))
        refine this acc.toList fun v hv => ?_
        obtain ⟨j, hj⟩ := List.getElem?_of_mem hv
        have hj' : acc[j]? = some v := by rw [← hj, Array.getElem?_toList]
        have hlt : j < acc.size := by
          have := (List.getElem?_eq_some_iff.mp hj).1
          rwa [Array.length_toList] at this
        obtain ⟨T, e1⟩ := hacc j hlt
        rw [hj'] at e1
        exact ⟨T, Option.some.inj e1⟩
      · rw [Array.toArray_toList]; exact hS'
    · by_cases hex : ∃ (j : Nat) (x : V), ts[j]? = some b ∧ xs[j]? = some x
      · obtain ⟨j, x, e1, e2⟩ := hex
        rw [atT j b x e1 e2] at q
        cases q
        obtain ⟨tk, u, ru, _, _, e3⟩ := tup j b x e1 e2
        exact ⟨by show 2 ≤ sizeLine; decide, [.int j tk, u], .cons ⟨_, rfl⟩ (.cons ru .nil), ⟨_, e3, rfl, _, rfl⟩⟩
      · have e0 : enH H1 h1.objs.size ts xs b = H1 b := by unfold enH; rw [if_neg hb, dif_neg hex]
        rw [e0] at q
        exact (I1.hok b o q).stay (fun c v _ r => kept c v r) (fun c r => old c _ r) fun c ys r => old c _ r
  exact ⟨.ref h1.objs.size, _, I1.un (t' := tk) un hok, rfl, q h1.objs.size ts _ (I1.hok.fresh ltS) (fun b o q => old b o q) atS tsl atT⟩
end
end G
end
section
set_option maxHeartbeats 2000000
namespace G
open PySem L2 Evl

/-! ### data at any depth -/
mutual
theorem dp_mono {K : PySem.W.Frag} {H H' : Hp} (e : Ex H H') : ∀ {d : PyData} {v : V}, Dp K H v d → Dp K H' v d
  | .none, _, h => by cases h; exact .non
  | .bool _, _, h => by cases h; exact .bl _
  | .int _, _, h => by cases h; exact .int _
  | .str _, _, h => by cases h; exact .str _
  | .list ds, _, h => by
    cases h with
    | lst hs ha => exact .lst (ex_l e hs) (dp_monoAll e ha)
  | .tuple ds, _, h => by
    cases h with
    | tup hs ha => exact .tup (ex_t e hs) (dp_monoAll e ha)
  | .dict _, _, h => by cases h
theorem dp_monoAll {K : PySem.W.Frag} {H H' : Hp} (e : Ex H H') : ∀ {ds : List PyData} {vs : List V}, DpAll K H vs ds → DpAll K H' vs ds
  | [], _, h => by cases h; exact .nil
  | d :: ds, _, h => by
    cases h with
    | cons h1 h2 => exact .cons (dp_mono e h1) (dp_monoAll e h2)
end
def dInts (ns : List Int) : PyData := .list (ns.map PyData.int)
theorem dpAll_ints {K : PySem.W.Frag} {H : Hp} : ∀ (ns : List Int), DpAll K H (ns.map V.int) (ns.map PyData.int)
  | [] => .nil
  | n :: ns => .cons (.int n) (dpAll_ints ns)
theorem dp_ints {K : PySem.W.Frag} {H : Hp} {a : Addr} {ns : List Int} (h : SqL K H a (ns.map V.int)) : Dp K H (.ref a) (dInts ns) := .lst h (dpAll_ints ns)
theorem dp_get {K : PySem.W.Frag} {H : Hp} : ∀ {ds : List PyData} {vs : List V} {j : Nat} {d : PyData}, DpAll K H vs ds → ds[j]? = some d → ∃ v, vs[j]? = some v ∧ Dp K H v d
  | _, _, _, _, .nil, e => by simp at e
  | _, _, 0, _, .cons h _, e => by simp at e; subst e; exact ⟨_, rfl, h⟩
  | _, _, j + 1, _, .cons _ h, e => by
    obtain ⟨v, h1, h2⟩ := dp_get (j := j) h (by simpa using e)
    exact ⟨v, by simpa using h1, h2⟩
theorem dp_len {K : PySem.W.Frag} {H : Hp} : ∀ {ds : List PyData} {vs : List V}, DpAll K H vs ds → vs.length = ds.length
  | _, _, .nil => rfl
  | _, _, .cons _ h => by simp [dp_len h]

/-! ### what evaluates to data -/
variable {K : PySem.W.Frag} {σ : L2.St} {H H' : Hp} {ta tb te tx : TE} {tt : TT} {x y z v : V} {d : PyData} {ds : List PyData} {p C dx : Addr} {fs : List (Str × V)} {f m : Str} {sp : Sp} {dvs vs : List V} {E : XK} {tA tr tk : TA}
def EvD (K : PySem.W.Frag) (te : TE) (σ : L2.St) (H : Hp) (d : PyData) : Prop := ∀ H1, Ex H H1 → ∀ Q : VK, (∀ v H2, Ex H1 H2 → Dp K H2 v d → Q v H2) → te σ H1 Q
def EvAD (K : PySem.W.Frag) (ta : TA) (σ : L2.St) (H : Hp) (ds : List PyData) : Prop := ∀ H1, Ex H H1 → ∀ Q : List V → Hp → Prop, (∀ vs H2, Ex H1 H2 → DpAll K H2 vs ds → Q vs H2) → ta σ H1 Q
theorem EvD.mono (e : Ex H H') (h : EvD K te σ H d) : EvD K te σ H' d := fun H1 a Q q => h H1 (e.trans a) Q q
theorem EvL.mono (e : Ex H H') {xs : List V} (h : EvL te σ H xs) : EvL te σ H' xs := fun H1 a Q q => h H1 (e.trans a) Q q
theorem evd_v (h : Ev te σ H v) (hd : ∀ H1, Ex H H1 → Dp K H1 v d) : EvD K te σ H d := fun H1 e Q q => h H1 e Q fun H2 e2 => q v H2 e2 (hd H2 (e.trans e2))
theorem evd_int {i : Int} (h : Ev te σ H (.int i)) : EvD K te σ H (.int i) := evd_v h fun _ _ => .int i
theorem evd_bl {b : Bool} (h : Ev te σ H (.bl b)) : EvD K te σ H (.bool b) := evd_v h fun _ _ => .bl b
theorem evd_ref (h : Ev te σ H v) (hd : Dp K H v d) : EvD K te σ H d := evd_v h fun _ e => dp_mono e hd
theorem evd_l {xs : List V} (h : EvL te σ H xs) (hd : ∀ H1, Ex H H1 → DpAll K H1 xs ds) : EvD K te σ H (.list ds) := fun H1 e Q q => h H1 e Q fun p H2 _ e2 h2 => q _ H2 e2 (.lst (sq_of h2) (hd H2 (e.trans e2)))
theorem evd_ints {ns : List Int} (h : EvL te σ H (ns.map V.int)) : EvD K te σ H (dInts ns) := evd_l h fun _ _ => dpAll_ints ns
theorem evd_u {xs : List V} (h : EvU te σ H xs) (hd : ∀ H1, Ex H H1 → DpAll K H1 xs ds) : EvD K te σ H (.tuple ds) := fun H1 e Q q => h H1 e Q fun p H2 _ e2 h2 => q _ H2 e2 (.tup (st_of h2) (hd H2 (e.trans e2)))
theorem evad_nil : EvAD K tNil σ H [] := fun H1 _ _ q => q [] H1 (Ex.refl H1) .nil
theorem evad_cons (h : EvD K ta σ H d) (hr : EvAD K tr σ H ds) : EvAD K (tCons ta tr) σ H (d :: ds) := fun H1 e Q q =>
  h H1 e _ fun v H2 e2 hv => hr H2 (e.trans e2) _ fun vs H3 e3 hvs => q _ H3 (e2.trans e3) (.cons (dp_mono e3 hv) hvs)
theorem evd_lst (h : EvAD K tA σ H ds) (hl : ds.length ≤ 100000) : EvD K (tLst tA) σ H (.list ds) := fun H1 e Q q =>
  h H1 e _ fun vs H2 e2 hv => ⟨sz_of (by rw [dp_len hv]; exact hl), fun p hp => q _ _ (e2.trans (Ex.new hp)) (.lst (sq_of upd_same) (dp_monoAll (Ex.new hp) hv))⟩
theorem evd_tup (h : EvAD K tA σ H ds) (hl : ds.length ≤ 100000) : EvD K (tTup tA) σ H (.tuple ds) := fun H1 e Q q =>
  h H1 e _ fun vs H2 e2 hv => ⟨sz_of (by rw [dp_len hv]; exact hl), fun p hp => q _ _ (e2.trans (Ex.new hp)) (.tup (st_of upd_same) (dp_monoAll (Ex.new hp) hv))⟩
theorem evd_is {d' : PyData} (h : EvD K te σ H d) (e : d = d') : EvD K te σ H d' := e ▸ h
theorem dp_app {Hx : Hp} : ∀ {as bs : List V} {cs es : List PyData}, DpAll K Hx as cs → DpAll K Hx bs es → DpAll K Hx (as ++ bs) (cs ++ es)
  | _, _, _, _, .nil, h2 => h2
  | _, _, _, _, .cons q1 q2, h2 => .cons q1 (dp_app q2 h2)
theorem dp_repl {Hx : Hp} {as : List V} {cs : List PyData} (h : DpAll K Hx as cs) : ∀ k : Nat, DpAll K Hx (List.replicate k as).flatten (List.replicate k cs).flatten
  | 0 => .nil
  | k + 1 => by
    rw [List.replicate_succ, List.replicate_succ, List.flatten_cons, List.flatten_cons]
    exact dp_app h (dp_repl h k)
/-- xs * k of a new list of data -/
theorem evd_rep {k : Nat} (h : EvAD K tA σ H ds) (hl : ds.length ≤ 1000) (hk : k ≤ 10) (hb : Ev tb σ H (.int (k : Int))) : EvD K (tOp rRep (tLst tA) tb) σ H (.list ((List.replicate k ds).flatten)) := fun H1 e Q q => by
  refine h H1 e _ fun vs H2 e2 hv => ⟨sz_of (by rw [dp_len hv]; omega), fun p hp => ?_⟩
  refine hb _ (e.trans (e2.trans (Ex.new hp))) _ fun H3 e3 => ?_
  have hvl := dp_len hv
  have hm : vs.length * k ≤ 10000 := Nat.le_trans (Nat.mul_le_mul (by rw [hvl]; exact hl) hk) (by decide)
  refine ⟨p, (k : Int), vs, rfl, rfl, e3 p _ upd_same, by omega, by omega, by rw [Int.toNat_natCast]; exact sz_of (by omega), fun q' hq' => ?_⟩
  refine q _ _ (((e2.trans (Ex.new hp)).trans e3).trans (Ex.new hq')) (.lst (sq_of upd_same) ?_)
  rw [Int.toNat_natCast]
  exact dp_repl (dp_monoAll (((Ex.new hp).trans e3).trans (Ex.new hq')) hv) k

/-! ### fields, methods, properties -/
theorem ev_fld {tv : V} (h : Ev ta σ H (.ref p)) (ho : H p = some (.ins C dx fs)) (hc : Cls K C) (hn : NoAttr K C f) (hl : fs.lookup f = some tv) : Ev (tFld K ta f) σ H tv := fun H1 e Q q =>
  h H1 e _ fun H2 e2 => ⟨p, C, dx, fs, tv, rfl, (e.trans e2) p _ ho, hc, hn, hl, q H2 e2⟩
theorem ev_con {u : Value} (h : Ev ta σ H (.ref p)) (ho : H p = some (.ins C dx fs)) (hc : Cls K C) (hk : Con K C f v u) (hl : fs.lookup f = none) : Ev (tCon K ta f) σ H v := fun H1 e Q q =>
  h H1 e _ fun H2 e2 => ⟨p, C, dx, fs, v, u, rfl, (e.trans e2) p _ ho, hc, hk, hl, q H2 e2⟩
theorem ev_prop (h : Ev ta σ H (.ref p)) (ho : H p = some (.ins C dx fs)) (hs : SpV sp (.ref p :: dvs) H z) : Ev (tProp C sp dvs E ta) σ H z := fun H1 e Q q =>
  h H1 e _ fun H2 e2 => ⟨p, dx, fs, rfl, (e.trans e2) p _ ho, hs H2 (e.trans e2) Q (fun H3 e3 => q H3 (e2.trans e3)) E⟩
theorem ev_meth (h : Ev ta σ H (.ref p)) (ho : H p = some (.ins C dx fs)) (hl : fs.lookup m = none) (ha : EvA tA σ H vs) (hs : SpV sp (.ref p :: (vs ++ dvs)) H z) : Ev (tMeth C m sp dvs E ta tA) σ H z := fun H1 e Q q =>
  h H1 e _ fun H2 e2 => ⟨p, dx, fs, rfl, (e.trans e2) p _ ho, hl, ha H2 (e.trans e2) _ fun H3 e3 => hs H3 ((e.trans e2).trans e3) Q (fun H4 e4 => q H4 ((e2.trans e3).trans e4)) E⟩
theorem el_meth {xs : List V} (h : Ev ta σ H (.ref p)) (ho : H p = some (.ins C dx fs)) (hl : fs.lookup m = none) (ha : EvA tA σ H vs) (hs : SpL sp (.ref p :: (vs ++ dvs)) H xs) : EvL (tMeth C m sp dvs E ta tA) σ H xs := fun H1 e Q q =>
  h H1 e _ fun H2 e2 => ⟨p, dx, fs, rfl, (e.trans e2) p _ ho, hl, ha H2 (e.trans e2) _ fun H3 e3 => hs H3 ((e.trans e2).trans e3) Q (fun q' H4 n4 e4 h4 => q q' H4 (fresh_back (e2.trans e3) n4) ((e2.trans e3).trans e4) h4) E⟩
def SpD (K : PySem.W.Frag) (sp : Sp) (vs : List V) (H : Hp) (d : PyData) : Prop := ∀ H1, Ex H H1 → ∀ Q : VK, (∀ v H2, Ex H1 H2 → Dp K H2 v d → Q v H2) → ∀ E : XK, sp vs H1 Q E
theorem evd_meth (h : Ev ta σ H (.ref p)) (ho : H p = some (.ins C dx fs)) (hl : fs.lookup m = none) (ha : EvA tA σ H vs) (hs : SpD K sp (.ref p :: (vs ++ dvs)) H d) : EvD K (tMeth C m sp dvs E ta tA) σ H d := fun H1 e Q q =>
  h H1 e _ fun H2 e2 => ⟨p, dx, fs, rfl, (e.trans e2) p _ ho, hl, ha H2 (e.trans e2) _ fun H3 e3 => hs H3 ((e.trans e2).trans e3) Q (fun v H4 e4 h4 => q v H4 ((e2.trans e3).trans e4) h4) E⟩
theorem evd_call (ha : EvA tA σ H vs) (hs : SpD K sp (vs ++ dvs) H d) : EvD K (tCall sp dvs E tA) σ H d := fun H1 e Q q =>
  ha H1 e _ fun H2 e2 => hs H2 (e.trans e2) Q (fun v H3 e3 h3 => q v H3 (e2.trans e3) h3) E
theorem ev_methN {n j : Nat} {gV : List V → List V → List V} {zs : List V} (h : Ev ta σ H (.ref p)) (ho : H p = some (.ins C dx fs)) (hl : fs.lookup m = none) (ha : EvA tA σ H vs) (hk : EvA tk σ H zs) (h1 : vs.length = n) (h2 : zs.length = j)
    (hs : SpV sp (gV (.ref p :: vs) zs) H z) : Ev (tMethN C m n j sp gV E ta tA tk) σ H z := fun H1 e Q q =>
  h H1 e _ fun H2 e2 => ⟨p, dx, fs, rfl, (e.trans e2) p _ ho, hl, ha H2 (e.trans e2) _ fun H3 e3 => hk H3 ((e.trans e2).trans e3) _ fun H4 e4 => ⟨h1, h2, hs H4 (((e.trans e2).trans e3).trans e4) Q (fun H5 e5 => q H5 (((e2.trans e3).trans e4).trans e5)) E⟩⟩
theorem el_methN {n j : Nat} {gV : List V → List V → List V} {zs xs : List V} (h : Ev ta σ H (.ref p)) (ho : H p = some (.ins C dx fs)) (hl : fs.lookup m = none) (ha : EvA tA σ H vs) (hk : EvA tk σ H zs) (h1 : vs.length = n) (h2 : zs.length = j)
    (hs : SpL sp (gV (.ref p :: vs) zs) H xs) : EvL (tMethN C m n j sp gV E ta tA tk) σ H xs := fun H1 e Q q =>
  h H1 e _ fun H2 e2 => ⟨p, dx, fs, rfl, (e.trans e2) p _ ho, hl, ha H2 (e.trans e2) _ fun H3 e3 => hk H3 ((e.trans e2).trans e3) _ fun H4 e4 => ⟨h1, h2, hs H4 (((e.trans e2).trans e3).trans e4) Q (fun q' H5 n5 e5 h5 => q q' H5 (fresh_back ((e2.trans e3).trans e4) n5) (((e2.trans e3).trans e4).trans e5) h5) E⟩⟩
theorem evd_methL {xs : List V} {ds : List PyData} (h : EvL te σ H xs) (hd : ∀ H1, Ex H H1 → DpAll K H1 xs ds) : EvD K te σ H (.list ds) := evd_l h hd

/-- repr of data -/
theorem ev_repr {ds : List PyData} (h : EvD K ta σ H (.list ds)) (hs : PyData.showable (.list ds) = true) (hdp : PyData.depth (.list ds) ≤ 60) (hz : (PyData.shown (.list ds)).length ≤ sizeLine) : Ev (tCB (rRepr K) (tCons ta tNil)) σ H (.str (PyData.shown (.list ds))) := fun H1 e Q q =>
  h H1 e _ fun v H2 e2 hv => by
    cases hv with
    | lst h1 h2 => exact ⟨_, _, rfl, .lst h1 h2, hs, hdp, hz, q H2 e2⟩
variable {D : Ends} {tu tw tz : TS}
theorem s_asgD {i : Nat} (h : EvD K te σ H d) (k : ∀ v H1, Ex H H1 → Dp K H1 v d → D.nx (σ.set i (some v)) H1) : tAsg te (gName i) D σ H := h H (Ex.refl H) _ fun v H1 e hv => k v H1 e hv
theorem q_asgD {i : Nat} (h : EvD K te σ H d) (k : ∀ v H1, Ex H H1 → Dp K H1 v d → tz D (σ.set i (some v)) H1) : tSeq (tAsg te (gName i)) tz D σ H := s_asgD (D := { D with nx := tz D }) h k
theorem s_retD (h : EvD K te σ H d) (k : ∀ v H1, Ex H H1 → Dp K H1 v d → D.rt v H1) : tRet te D σ H := h H (Ex.refl H) _ k
end G
end
section
set_option maxHeartbeats 2000000
namespace G
open PySem L2 Evl
variable {K : PySem.W.Frag} {σ : L2.St} {H H' : Hp} {ta tb te tx : TE} {tt : TT} {x y z v : V} {p C dx : Addr} {tA tr tk : TA}

/-! ### calls of built-ins, by their answers -/
theorem rc_len {n : Nat} {ys : List V} (h : SqL K H p ys ∨ SqT K H p ys) (hn : ys.length = n) : RC (fun xs H Q => ∃ p ys, xs = [.ref p] ∧ (SqL K H p ys ∨ SqT K H p ys) ∧ Q (.int (ys.length : Int)) H) [.ref p] H (.int (n : Int)) := fun H1 e Q q =>
  ⟨p, ys, rfl, h.imp (ex_l e) (ex_t e), by rw [hn]; exact q H1 (Ex.refl _)⟩
theorem rc_abs {i : Int} : RC (fun xs H Q => ∃ i, xs = [.int i] ∧ Q (.int (if i < 0 then -i else i)) H) [.int i] H (.int (if i < 0 then -i else i)) := fun H1 e Q q => ⟨i, rfl, q H1 (Ex.refl _)⟩
theorem rc_max2 {i j : Int} : RC (fun xs H Q => ∃ i j, xs = [.int i, .int j] ∧ Q (.int (if j > i then j else i)) H) [.int i, .int j] H (.int (if j > i then j else i)) := fun H1 e Q q => ⟨i, j, rfl, q H1 (Ex.refl _)⟩
theorem rc_min2 {i j : Int} : RC (fun xs H Q => ∃ i j, xs = [.int i, .int j] ∧ Q (.int (if j < i then j else i)) H) [.int i, .int j] H (.int (if j < i then j else i)) := fun H1 e Q q => ⟨i, j, rfl, q H1 (Ex.refl _)⟩
theorem rc_int1 {i : Int} : RC (fun xs H Q => (∃ i, xs = [.int i] ∧ Q (.int i) H) ∨ ∃ k, xs = [.bl k] ∧ Q (.int (if k then 1 else 0)) H) [.int i] H (.int i) := fun H1 e Q q => .inl ⟨i, rfl, q H1 (Ex.refl _)⟩
theorem rc_sum {ns : List Int} (h : SqL K H p (ns.map V.int)) : RC (rSum K) [.ref p] H (.int ns.sum) := fun H1 e Q q => ⟨p, ns, rfl, ex_l e h, q H1 (Ex.refl _)⟩
theorem rc_all {bs : List Bool} (h : SqL K H p (bs.map V.bl)) : RC (rAll K) [.ref p] H (.bl (bs.all id)) := fun H1 e Q q => ⟨p, bs, rfl, ex_l e h, q H1 (Ex.refl _)⟩
theorem rc_max {ns : List Int} {m : Int} (h : SqL K H p (ns.map V.int)) (hm : m ∈ ns) (hle : ∀ y, y ∈ ns → y ≤ m) : RC (rMax K) [.ref p] H (.int m) := fun H1 e Q q =>
  ⟨p, ns, rfl, ex_l e h, List.length_pos_of_mem hm, fun k hk hkl => by
    have e1 : k = m := Int.le_antisymm (hle k hk) (hkl m hm)
    rw [e1]; exact q H1 (Ex.refl _)⟩
theorem rc_min {ns : List Int} {m : Int} (h : SqL K H p (ns.map V.int)) (hm : m ∈ ns) (hle : ∀ y, y ∈ ns → m ≤ y) : RC (rMin K) [.ref p] H (.int m) := fun H1 e Q q =>
  ⟨p, ns, rfl, ex_l e h, List.length_pos_of_mem hm, fun k hk hkl => by
    have e1 : k = m := Int.le_antisymm (hkl m hm) (hle k hk)
    rw [e1]; exact q H1 (Ex.refl _)⟩
theorem rc_gcd {a b : Int} : RC rGcd [.int a, .int b] H (.int ((Nat.gcd a.natAbs b.natAbs : Nat) : Int)) := fun H1 e Q q => ⟨a, b, rfl, q H1 (Ex.refl _)⟩
theorem rc_isi {c : V} {t u : Value} {b : Bool} (k : ClsV c u) (ty : ∀ H1, Ex H H1 → TyX K H1 x t) (hb : PySem.W.kitOne K t u = some b) : RC (rIsi K) [x, c] H (.bl b) := fun H1 e Q q => ⟨x, c, t, u, b, rfl, k, ty H1 e, hb, q H1 (Ex.refl _)⟩
theorem rc_list {xs : List V} (h : SqL K H p xs ∨ SqT K H p xs) : RCL (fun xs H Q => ∃ p ys, xs = [.ref p] ∧ (SqL K H p ys ∨ SqT K H p ys) ∧ ∀ l, H l = none → Q (.ref l) (upd H l (.lst ys))) [.ref p] H xs := fun H1 e Q q =>
  ⟨p, xs, rfl, h.imp (ex_l e) (ex_t e), fun l hl => q l _ hl (Ex.new hl) upd_same⟩
/-- a built-in asked of a list that is new -/
theorem ev_cbL {r : List V → Hp → VK → Prop} {xs : List V} (h : EvL ta σ H xs) (hr : ∀ p H1, Ex H H1 → H1 p = some (.lst xs) → RC r [.ref p] H1 z) : Ev (tCB r (tCons ta tNil)) σ H z := fun H1 e Q q =>
  h H1 e _ fun p H2 _ e2 h2 => hr p H2 (e.trans e2) h2 H2 (Ex.refl _) Q fun H3 e3 => q H3 (e2.trans e3)

theorem q_par {D : Ends} {tz : TS} {i j : Nat} {v w : V} (h : EvA tA σ H [v, w]) (k : ∀ H1, Ex H H1 → tz D ((σ.set i (some v)).set j (some w)) H1) : tSeq (tPar i j tA) tz D σ H := h H (Ex.refl H) _ fun H1 e => ⟨v, w, rfl, k H1 e⟩
theorem s_par {D : Ends} {i j : Nat} {v w : V} (h : EvA tA σ H [v, w]) (k : ∀ H1, Ex H H1 → D.nx ((σ.set i (some v)).set j (some w)) H1) : tPar i j tA D σ H := h H (Ex.refl H) _ fun H1 e => ⟨v, w, rfl, k H1 e⟩
theorem ev_allT {n : Nat} (h : EvL te σ H (given n (fun _ => true) (fun _ => V.bl true))) : Ev (tCB (rAll K) (tCons te tNil)) σ H (.bl true) := ev_cbL h fun p H1 e h1 => by
  have e1 : given n (fun _ => true) (fun _ => V.bl true) = (List.replicate n true).map V.bl := by
    unfold given
    rw [List.filter_eq_self.mpr (fun _ _ => rfl)]
    apply List.ext_getElem <;> simp
  have := rc_all (K := K) (H := H1) (p := p) (bs := List.replicate n true) (sq_of (by rw [← e1]; exact h1))
  have e2 : (List.replicate n true).all id = true := by simp
  rw [e2] at this
  exact this
theorem ev_chain {tc : TE} {r r' : R2} {w : V} (ha : Ev ta σ H x) (hb : Ev tb σ H y) (hr : RV r x y H (.bl true)) (hc : Ev tc σ H w) (hr' : RV r' y w H z) : Ev (tChain r r' ta tb tc) σ H z := fun H1 e Q q =>
  ha H1 e _ fun H2 e2 => hb H2 (e.trans e2) _ fun H3 e3 => hr H3 ((e.trans e2).trans e3) _ fun H4 e4 => ⟨true, rfl, by
    rw [if_pos rfl]
    exact hc H4 (((e.trans e2).trans e3).trans e4) _ fun H5 e5 => hr' H5 ((((e.trans e2).trans e3).trans e4).trans e5) Q fun H6 e6 => q H6 ((((e2.trans e3).trans e4).trans e5).trans e6)⟩
theorem el_lcT {a : Addr} {xs : List V} {tl : TE} {j : Nat} {vs : List Nat} (f : Nat → Bool) (v : Nat → V) (h : Ev tl σ H (.ref a)) (hx : SqT K H a xs) (hz : xs.length ≤ 40000) (hw : ∀ x, wipe ((wipe σ vs).set j (some x)) vs = wipe σ vs)
    (ht : ∀ (i : Nat) (x : V) H1, Ex H H1 → xs[i]? = some x → EvT tt ((wipe σ vs).set j (some x)) H1 (f i)) (he : ∀ (i : Nat) (x : V) H1, Ex H H1 → xs[i]? = some x → f i = true → Ev te ((wipe σ vs).set j (some x)) H1 (v i)) :
    EvL (tLc (iTup K tl) (gName j) tt te vs) σ H (given xs.length f v) := fun H0 e Q q => h H0 e _ fun H1 e1 => ⟨a, rfl, ⟨xs, ex_t (e.trans e1) hx⟩, fun Dl hD =>
  lc_tup (xs := xs) (Cw H1 f v Dl) ⟨hD, Ex.new hD, upd_same⟩ (fun i H' _ p => ex_t ((e.trans e1).trans p.2.1) hx) (fun i x H' hi p => ⟨hw x, cw_turn p (by have := (List.getElem?_eq_some_iff.mp hi).1; omega) (ht i x H1 (e.trans e1) hi) (fun hf => he i x H1 (e.trans e1) hi hf)⟩)
    (fun H' p => q Dl H' (fresh_back e1 p.1) (e1.trans p.2.1) p.2.2)⟩
theorem lc_yes : EvT tYes σ H true := fun H1 _ _ q => q H1 (Ex.refl _)
theorem rv_ixTn {xs : List V} {k : Int} (h : SqT K H p xs) (ha : atI xs k = some v) : RV (rIxT K) (.ref p) (.int k) H v := rv_ixT h ha
section
variable {X : Cx} {e : Expr} {f : Str} {pos : Pos}
theorem ixL (hK : X.K = K) : IxR X (rIxL K) := hK ▸ ix_list
theorem ixT (hK : X.K = K) : IxR X (rIxT K) := hK ▸ ix_tup
theorem lenS (hK : X.K = K) : CallR X (.builtin "len") (fun xs H Q => ∃ p ys, xs = [.ref p] ∧ (SqL K H p ys ∨ SqT K H p ys) ∧ Q (.int (ys.length : Int)) H) := hK ▸ call_len_seq
theorem pe_fldK (hK : X.K = K) (he : PE X e ta) (hb : attributeBase e f X.env (eval e X.env) = eval e X.env) : PE X (.Attribute e f pos) (tFld K ta f) := hK ▸ pe_fld he hb
theorem eqD (hK : X.K = K) (hu : X.A.units + 64 < cLine) : OpR X (compareOp .Eq) (rEqD K) := hK ▸ op_eqD hu
theorem neD (hK : X.K = K) (hu : X.A.units + 64 < cLine) : OpR X (compareOp .NotEq) (rNeD K) := hK ▸ op_neD hu
theorem maxL (hK : X.K = K) (hc : X.calm = true) : CallR X (.builtin "max") (rMax K) := hK ▸ cr_max hc
theorem minL (hK : X.K = K) (hc : X.calm = true) : CallR X (.builtin "min") (rMin K) := hK ▸ cr_min hc
theorem sumL (hK : X.K = K) (hc : X.calm = true) : CallR X (.builtin "sum") (rSum K) := hK ▸ cr_sum hc
theorem allL (hK : X.K = K) (hc : X.calm = true) : CallR X (.builtin "all") (rAll K) := hK ▸ cr_all hc
end
theorem eu_divmod {i j : Int} (ha : Ev ta σ H (.int i)) (hb : Ev tb σ H (.int j)) (h0 : 0 < j) (h1 : j < 1073741824) :
    EvU (tCB (fun xs H Q => ∃ i j, xs = [.int i, .int j] ∧ CDiv i j ∧ ∀ p, H p = none → Q (.ref p) (upd H p (.tup [.int (i / j), .int (i % j)]))) (tCons ta (tCons tb tNil))) σ H [.int (i / j), .int (i % j)] := fun H1 e Q q =>
  ha H1 e _ fun H2 e2 => hb H2 (e.trans e2) _ fun H3 e3 => ⟨i, j, rfl, ⟨h0, h1⟩, fun p hp => q p _ (fresh_back (e2.trans e3) hp) ((e2.trans e3).trans (Ex.new hp)) upd_same⟩
theorem q_asgT2 {D : Ends} {tz : TS} {i j : Nat} {v w : V} (h : EvU te σ H [v, w]) (k : ∀ H1, Ex H H1 → tz D ((σ.set i (some v)).set j (some w)) H1) : tSeq (tAsg te (gTup K 2 (gCons (gName i) (gCons (gName j) gNil)))) tz D σ H :=
  h H (Ex.refl H) _ fun u H1 _ e hu => ⟨u, [v, w], rfl, st_of hu, rfl, _, _, rfl, _, _, rfl, rfl, k H1 e⟩
theorem q_asgG {D : Ends} {tz : TS} {g : TG} {xs : List V} (h : EvU te σ H xs) (k : ∀ p H1, H p = none → Ex H H1 → H1 p = some (.tup xs) → g (.ref p) σ H1 fun σ' H' => tz D σ' H') : tSeq (tAsg te g) tz D σ H := h H (Ex.refl H) _ fun p H1 hp e h1 => k p H1 hp e h1
theorem rv_cat {i j : Str} (h : i.length + j.length ≤ sizeLine) : RV (fun x y H Q => ∃ i j, x = .str i ∧ y = .str j ∧ i.length + j.length ≤ sizeLine ∧ Q (.str (i ++ j)) H) (.str i) (.str j) H (.str (i ++ j)) := fun H1 _ Q q => ⟨i, j, rfl, rfl, h, q H1 (Ex.refl _)⟩
/-! ### comprehensions whose target is a pair -/
section
variable {D : Ends} {f : Nat → Bool} {g : Nat → V} {i j : Nat} {vs : List Nat}
/-- what evaluates to a new list of new pairs (number, item) -/
def EvR (te : TE) (σ : L2.St) (H : Hp) (xs : List V) : Prop := ∀ H1, Ex H H1 → ∀ Q : VK, (∀ (l : Addr) (ts : List Addr) (H2 : Hp), H1 l = none → Ex H1 H2 → H2 l = some (.lst (ts.map V.ref)) → ts.length = xs.length → (∀ (j : Nat) (T : Addr) (x : V), ts[j]? = some T → xs[j]? = some x → H2 T = some (.tup [.int (j : Int), x])) → Q (.ref l) H2) → te σ H1 Q
theorem evr_en {a : Addr} {xs : List V} (h : Ev ta σ H (.ref a)) (hs : SqL K H a xs) : EvR (tListEn K ta) σ H xs := fun H1 e Q q => h H1 e _ fun H2 e2 => ⟨a, xs, rfl, ex_l (e.trans e2) hs, fun l ts H3 hl e3 h3 hz ht => q l ts H3 (fresh_back e2 hl) (e2.trans e3) h3 hz ht⟩
def SpR (sp : Sp) (vs : List V) (H : Hp) (xs : List V) : Prop := ∀ H1, Ex H H1 → ∀ Q : VK, (∀ (l : Addr) (ts : List Addr) (H2 : Hp), H1 l = none → Ex H1 H2 → H2 l = some (.lst (ts.map V.ref)) → ts.length = xs.length → (∀ (j : Nat) (T : Addr) (x : V), ts[j]? = some T → xs[j]? = some x → H2 T = some (.tup [.int (j : Int), x])) → Q (.ref l) H2) → ∀ E : XK, sp vs H1 Q E
theorem evr_meth {m : Str} {sp : Sp} {dvs ws : List V} {E : XK} {fs : List (Str × V)} {xs : List V} (h : Ev ta σ H (.ref p)) (ho : H p = some (.ins C dx fs)) (hl : fs.lookup m = none) (ha : EvA tA σ H ws) (hs : SpR sp (.ref p :: (ws ++ dvs)) H xs) : EvR (tMeth C m sp dvs E ta tA) σ H xs := fun H1 e Q q =>
  h H1 e _ fun H2 e2 => ⟨p, dx, fs, rfl, (e.trans e2) p _ ho, hl, ha H2 (e.trans e2) _ fun H3 e3 => hs H3 ((e.trans e2).trans e3) Q (fun l ts H4 n4 e4 h4 hz ht => q l ts H4 (fresh_back (e2.trans e3) n4) ((e2.trans e3).trans e4) h4 hz ht) E⟩
theorem evd_r {ns : List Int} (h : EvR te σ H (ns.map V.int)) : EvD K te σ H (.list (ns.mapIdx fun j n => .tuple [.int (j : Int), .int n])) := fun H1 e Q q => h H1 e _ fun l ts H2 _ e2 h2 hz ht => by
  refine q _ H2 e2 (.lst (sq_of h2) ?_)
  have key : ∀ (k : Nat) (us : List Addr) (ms : List Int), us.length = ms.length → (∀ (j : Nat) (T : Addr) (n : Int), us[j]? = some T → ms[j]? = some n → H2 T = some (.tup [.int ((k + j : Nat) : Int), .int n])) →
      DpAll K H2 (us.map V.ref) (ms.mapIdx fun j n => .tuple [.int ((k + j : Nat) : Int), .int n]) := by
    intro k us
    induction us generalizing k with
    | nil =>
      intro ms hl _
      cases ms with
      | nil => exact .nil
      | cons m ms => simp at hl
    | cons u us ih =>
      intro ms hl hh
      cases ms with
      | nil => simp at hl
      | cons m ms =>
        rw [List.mapIdx_cons]
        refine .cons (.tup (st_of (hh 0 u m rfl rfl)) (.cons (.int _) (.cons (.int _) .nil))) ?_
        have := ih (k + 1) ms (by simpa using hl) (fun j T n q1 q2 => by
          have := hh (j + 1) T n (by simpa using q1) (by simpa using q2)
          have e1 : k + 1 + j = k + (j + 1) := by omega
          rw [e1]; exact this)
        have e2 : (fun (j : Nat) (n : Int) => PyData.tuple [.int ((k + 1 + j : Nat) : Int), .int n]) = (fun (j : Nat) (n : Int) => PyData.tuple [.int ((k + (j + 1) : Nat) : Int), .int n]) := by
          funext j n
          have e1 : k + 1 + j = k + (j + 1) := by omega
          rw [e1]
        rw [e2] at this
        exact this
  have := key 0 ts ns (by simpa using hz) (fun j T n q1 q2 => by
    have := ht j T (.int n) q1 (by simp [q2])
    rw [Nat.zero_add]; exact this)
  simpa using this
theorem cw_pair {a : Addr} {Dl : Addr} {n : Nat} {H1 Hc : Hp} {i0 : Nat} {k w : V} {σ2 : L2.St} (p : Cw H1 f g Dl i0 Hc) (hi : i0 < 50000) (ht : EvT tt σ2 H1 (f i0)) (he : f i0 = true → Ev te σ2 H1 (g i0)) :
    tt σ2 Hc fun b H3 => if b = true then te σ2 H3 fun y H4 => ∃ acc, H4 Dl = some (.lst acc) ∧ acc.length < sizeLine ∧ Cw H1 f g Dl (i0 + 1) (upd H4 Dl (.lst (acc ++ [y]))) else Cw H1 f g Dl (i0 + 1) H3 := cw_turn p hi ht he
/-- [e for a, b in rows if ..] -/
theorem el_lcR {tl : TE} {xs : List V} (f : Nat → Bool) (g : Nat → V) (h : EvR tl σ H xs) (hz : xs.length ≤ 40000) (hw : ∀ x y, wipe (((wipe σ vs).set i (some x)).set j (some y)) vs = wipe σ vs)
    (ht : ∀ (k : Nat) (x : V) H1, Ex H H1 → xs[k]? = some x → EvT tt (((wipe σ vs).set i (some (.int (k : Int)))).set j (some x)) H1 (f k))
    (he : ∀ (k : Nat) (x : V) H1, Ex H H1 → xs[k]? = some x → f k = true → Ev te (((wipe σ vs).set i (some (.int (k : Int)))).set j (some x)) H1 (g k)) :
    EvL (tLc (iList K tl) (gTup K 2 (gCons (gName i) (gCons (gName j) gNil))) tt te vs) σ H (given xs.length f g) := fun H0 e Q q => h H0 e _ fun a ts H1 ha e1 h1 hl htp => ⟨a, rfl, ⟨ts.map V.ref, sq_of h1⟩, fun Dl hD =>
  lc_list (xs := ts.map V.ref) (Cw H1 f g Dl) ⟨hD, Ex.new hD, upd_same⟩ (fun i0 H' _ p => sq_of (p.2.1 a _ h1)) (fun i0 x0 H' hi p => by
    have hlt : i0 < ts.length := by have := (List.getElem?_eq_some_iff.mp hi).1; simpa using this
    obtain ⟨T, hT⟩ : ∃ T, ts[i0]? = some T := ⟨ts[i0], List.getElem?_eq_getElem hlt⟩
    obtain ⟨w, hw'⟩ : ∃ w, xs[i0]? = some w := ⟨xs[i0]'(by omega), List.getElem?_eq_getElem (by omega)⟩
    have e0 : x0 = V.ref T := by rw [List.getElem?_map, hT] at hi; simpa using hi.symm
    subst e0
    refine ⟨T, [.int (i0 : Int), w], rfl, st_of (p.2.1 T _ (htp i0 T w hT hw')), rfl, _, _, rfl, _, _, rfl, rfl, ?_⟩
    exact ⟨hw _ _, cw_turn p (by omega) (ht i0 w H1 (e.trans e1) hw') (fun hf => he i0 w H1 (e.trans e1) hw' hf)⟩)
    (fun H' p => by
      have e9 : (ts.map V.ref).length = xs.length := by rw [List.length_map, hl]
      rw [e9] at p
      exact q Dl H' (fresh_back e1 p.1) (e1.trans p.2.1) p.2.2)⟩
/-- [e for k, x in enumerate(xs) if ..] -/
theorem el_lcE {a : Addr} {tl : TE} {xs : List V} (f : Nat → Bool) (g : Nat → V) (h : Ev tl σ H (.ref a)) (hs : SqL K H a xs) (hz : xs.length ≤ 40000) (hw : ∀ x y, wipe (((wipe σ vs).set i (some x)).set j (some y)) vs = wipe σ vs)
    (ht : ∀ (k : Nat) (x : V) H1, Ex H H1 → xs[k]? = some x → EvT tt (((wipe σ vs).set i (some (.int (k : Int)))).set j (some x)) H1 (f k))
    (he : ∀ (k : Nat) (x : V) H1, Ex H H1 → xs[k]? = some x → f k = true → Ev te (((wipe σ vs).set i (some (.int (k : Int)))).set j (some x)) H1 (g k)) :
    EvL (tLc (iEnum K (tCons tl tNil)) (gTup K 2 (gCons (gName i) (gCons (gName j) gNil))) tt te vs) σ H (given xs.length f g) := fun H0 e Q q => h H0 e _ fun H1 e1 => by
  have hs1 : SqL K H1 a xs := ex_l (e.trans e1) hs
  refine ⟨a, xs, rfl, hs1, fun Dl hD => ?_⟩
  refine ⟨fun i0 m H' => m = xs.length - i0 ∧ i0 ≤ xs.length ∧ Cw H1 f g Dl i0 H', ⟨xs.length, by simp, Nat.zero_le _, hD, Ex.new hD, upd_same⟩, ?_⟩
  rintro i0 m H' ⟨rfl, hi, pc⟩
  have hs2 : SqL K H' a xs := ex_l pc.2.1 hs1
  by_cases hlt : i0 < xs.length
  · refine .inr ⟨⟨xs, xs[i0], hs2, List.getElem?_eq_getElem hlt⟩, fun H'' => Cw H1 f g Dl (i0 + 1) H'', fun H'' p' => ⟨xs.length - (i0 + 1), by omega, rfl, hlt, p'⟩, fun x0 H'' y => ?_⟩
    obtain ⟨T, w, rfl, hT, rfl, hx⟩ := y
    have hw' := hx xs hs2
    refine ⟨T, [.int (i0 : Int), w], rfl, st_of upd_same, rfl, _, _, rfl, _, _, rfl, rfl, ?_⟩
    have pc2 : Cw H1 f g Dl i0 (upd H' T (.tup [.int (i0 : Int), w])) := ⟨pc.1, pc.2.1.trans (Ex.new hT), by rw [upd_ne (ne_of_none pc.2.2 hT)]; exact pc.2.2⟩
    exact ⟨hw _ _, cw_turn pc2 (by omega) (ht i0 w H1 (e.trans e1) hw') (fun hf => he i0 w H1 (e.trans e1) hw' hf)⟩
  · have e0 : i0 = xs.length := by omega
    subst e0
    exact .inl ⟨⟨xs, hs2, Nat.le_refl _⟩, q Dl H' (fresh_back e1 pc.1) (e1.trans pc.2.1) pc.2.2⟩
end
end G
end
section
set_option maxHeartbeats 2000000
namespace G
open PySem
mutual
def bnd : PyData → Nat
  | .none => 4
  | .bool _ => 5
  | .int _ => 22
  | .str _ => 100000000
  | .list xs => bndAll xs + 2
  | .tuple xs => bndAll xs + 4
  | .dict _ => 100000000
def bndAll : List PyData → Nat
  | [] => 0
  | x :: xs => bnd x + 2 + bndAll xs
end
mutual
def smallD : PyData → Bool
  | .none => true
  | .bool _ => true
  | .int i => decide (i.natAbs < 10 ^ 20)
  | .str _ => false
  | .list xs => smallAll xs
  | .tuple xs => smallAll xs
  | .dict _ => false
def smallAll : List PyData → Bool
  | [] => true
  | x :: xs => smallD x && smallAll xs
end
theorem log_small {n : Nat} (h : n < 10 ^ 20) : n.log2 < 1920 := by
  by_cases h0 : n = 0
  · subst h0; decide
  · refine (Nat.log2_lt h0).mpr (Nat.lt_of_lt_of_le h (by decide))
mutual
theorem small_show : ∀ {d : PyData}, smallD d = true → d.showable = true
  | .none, _ => by simp [PyData.showable]
  | .bool _, _ => by simp [PyData.showable]
  | .int i, h => by simp only [smallD, decide_eq_true_eq] at h; simpa [PyData.showable] using log_small h
  | .str _, h => by simp [smallD] at h
  | .list xs, h => by simp only [smallD] at h; simpa [PyData.showable] using small_showAll h
  | .tuple xs, h => by simp only [smallD] at h; simpa [PyData.showable] using small_showAll h
  | .dict _, h => by simp [smallD] at h
theorem small_showAll : ∀ {ds : List PyData}, smallAll ds = true → PyData.showableAll ds = true
  | [], _ => by simp [PyData.showableAll]
  | d :: ds, h => by
    simp only [smallAll, Bool.and_eq_true] at h
    simp [PyData.showableAll, small_show h.1, small_showAll h.2]
end
theorem cat_len (a b : Str) : (a ++ b).length = a.length + b.length := Str.length_append a b
theorem list_text_len (ts : List Str) : (listText ts).length ≤ piled ts + 2 := by
  rw [listText_eq_join, cat_len, cat_len]
  have e1 : ((("[" : String) : Str)).length = 1 := by decide
  have e2 : ((("]" : String) : Str)).length = 1 := by decide
  by_cases h : ts = []
  · subst h
    have e3 : (Str.join ", " []).length = 0 := by decide
    omega
  · have := join_length_add ts h
    omega
theorem tuple_text_len (ts : List Str) : (tupleText ts).length ≤ piled ts + 4 := by
  unfold tupleText
  rw [cat_len, cat_len]
  have e1 : ((("(" : String) : Str)).length = 1 := by decide
  have e2 : (((if ts.length == 1 then ",)" else ")" : String) : Str)).length ≤ 2 := by split <;> decide
  by_cases h : ts = []
  · subst h
    have e3 : (Str.join ", " []).length = 0 := by decide
    omega
  · have := join_length_add ts h
    omega
mutual
theorem small_len : ∀ {d : PyData}, smallD d = true → d.shown.length ≤ bnd d
  | .none, _ => by simp only [PyData.shown, bnd]; decide
  | .bool b, _ => by simp only [PyData.shown, bnd]; cases b <;> decide
  | .int i, h => by
    simp only [smallD, decide_eq_true_eq] at h
    have := int_text_length_le10 (k := 20) (by decide) h
    simp only [PyData.shown, bnd]
    rw [ofString_length]
    omega
  | .str _, h => by simp [smallD] at h
  | .list xs, h => by
    simp only [smallD] at h
    have := small_lenAll h
    simp only [PyData.shown, bnd]
    exact Nat.le_trans (list_text_len _) (by omega)
  | .tuple xs, h => by
    simp only [smallD] at h
    have := small_lenAll h
    simp only [PyData.shown, bnd]
    exact Nat.le_trans (tuple_text_len _) (by omega)
  | .dict _, h => by simp [smallD] at h
theorem small_lenAll : ∀ {ds : List PyData}, smallAll ds = true → piled (PyData.shownAll ds) ≤ bndAll ds
  | [], _ => by simp [PyData.shownAll, piled, bndAll]
  | d :: ds, h => by
    simp only [smallAll, Bool.and_eq_true] at h
    have h1 := small_len h.1
    have h2 := small_lenAll h.2
    simp only [PyData.shownAll, piled_cons, bndAll]
    omega
end
theorem small_ints {ns : List Int} (h : ∀ n, n ∈ ns → n.natAbs < 10 ^ 20) : smallAll (ns.map PyData.int) = true := by
  induction ns with
  | nil => rfl
  | cons n ns ih =>
    rw [List.map_cons]
    simp only [smallAll, smallD, Bool.and_eq_true, decide_eq_true_eq]
    exact ⟨h n (List.mem_cons_self ..), ih fun m hm => h m (List.mem_cons_of_mem _ hm)⟩
theorem bnd_ints (ns : List Int) : bndAll (ns.map PyData.int) = 24 * ns.length := by
  induction ns with
  | nil => rfl
  | cons n ns ih => rw [List.map_cons, bndAll, ih, List.length_cons, bnd]; omega
end G
end
section
namespace TM
/-! the mathematics of lists of days -/
def onL (ns : List Int) (x : Int) : Int := ns.getD (x % (ns.length : Int)).toNat 0 + x / (ns.length : Int) * (ns.length : Int)
structure Good (ns : List Int) : Prop where
  pos : 1 ≤ ns.length
  most : ns.length ≤ 600
  up : ∀ i j : Nat, i ≤ j → j < ns.length → ns.getD i 0 ≤ ns.getD j 0
  span : ns.getD (ns.length - 1) 0 - ns.getD 0 0 ≤ (ns.length : Int)
section
variable {ns : List Int} (g : Good ns)
include g
theorem Good.posI : (0 : Int) < (ns.length : Int) := by have := g.pos; omega
theorem on_at {i : Nat} (hi : i < ns.length) (t : Int) : onL ns ((i : Int) + t * (ns.length : Int)) = ns.getD i 0 + t * (ns.length : Int) := by
  have hp := g.posI
  unfold onL
  have e1 : ((i : Int) + t * (ns.length : Int)) % (ns.length : Int) = (i : Int) := by
    rw [Int.add_mul_emod_self_right, Int.emod_eq_of_lt (by omega) (by omega)]
  have e2 : ((i : Int) + t * (ns.length : Int)) / (ns.length : Int) = t := by
    rw [Int.add_mul_ediv_right _ _ (by omega), Int.ediv_eq_zero_of_lt (by omega) (by omega), Int.zero_add]
  rw [e1, e2, Int.toNat_natCast]
theorem split_at (x : Int) : ∃ (i : Nat) (t : Int), i < ns.length ∧ x = (i : Int) + t * (ns.length : Int) := by
  have hp := g.posI
  refine ⟨(x % (ns.length : Int)).toNat, x / (ns.length : Int), ?_, ?_⟩
  · have h1 := Int.emod_nonneg x (show (ns.length : Int) ≠ 0 by omega)
    have h2 := Int.emod_lt_of_pos x hp
    omega
  · have h1 := Int.emod_nonneg x (show (ns.length : Int) ≠ 0 by omega)
    rw [Int.toNat_of_nonneg h1]
    have := Int.emod_add_mul_ediv x (ns.length : Int)
    rw [Int.mul_comm] at this
    omega
theorem on_len (x : Int) : onL ns (x + (ns.length : Int)) = onL ns x + (ns.length : Int) := by
  obtain ⟨i, t, hi, rfl⟩ := split_at g x
  have e : (i : Int) + t * (ns.length : Int) + (ns.length : Int) = (i : Int) + (t + 1) * (ns.length : Int) := by rw [Int.add_mul, Int.one_mul]; omega
  rw [e, on_at g hi, on_at g hi, Int.add_mul, Int.one_mul]; omega
theorem on_step (x : Int) : onL ns x ≤ onL ns (x + 1) := by
  obtain ⟨i, t, hi, rfl⟩ := split_at g x
  by_cases hl : i + 1 < ns.length
  · have e : (i : Int) + t * (ns.length : Int) + 1 = ((i + 1 : Nat) : Int) + t * (ns.length : Int) := by omega
    rw [e, on_at g hi, on_at g hl]
    have := g.up i (i + 1) (by omega) hl
    omega
  · have e0 : i + 1 = ns.length := by omega
    have e : (i : Int) + t * (ns.length : Int) + 1 = ((0 : Nat) : Int) + (t + 1) * (ns.length : Int) := by
      rw [Int.add_mul, Int.one_mul]; omega
    have h0 : 0 < ns.length := by omega
    rw [e, on_at g hi, on_at g h0, Int.add_mul, Int.one_mul]
    have := g.span
    have e1 : ns.length - 1 = i := by omega
    rw [e1] at this
    omega
theorem on_mono {x y : Int} (h : x ≤ y) : onL ns x ≤ onL ns y := by
  obtain ⟨k, hk⟩ : ∃ k : Nat, y = x + k := ⟨(y - x).toNat, by omega⟩
  subst hk
  clear h
  induction k with
  | zero => simp
  | succ k ih =>
    refine Int.le_trans ih ?_
    have := on_step g (x + k)
    have e : x + ((k + 1 : Nat) : Int) = x + (k : Int) + 1 := by omega
    rw [e]; exact this
end
/-- m is the first day with which y is served -/
def IsBy (ns : List Int) (y m : Int) : Prop := y ≤ onL ns m ∧ onL ns (m - 1) < y
theorem isBy_uniq {ns : List Int} (g : Good ns) {y m k : Int} (h : IsBy ns y m) (h' : IsBy ns y k) : m = k := by
  have a1 : ¬ m ≤ k - 1 := fun q => by have := on_mono g q; have := h.1; have := h'.2; omega
  have a2 : ¬ k ≤ m - 1 := fun q => by have := on_mono g q; have := h'.1; have := h.2; omega
  omega
/-- so many of ns, from the left, are below d -/
def IsCnt (ns : List Int) (d : Int) (c : Nat) : Prop := c ≤ ns.length ∧ (∀ i, i < c → ns.getD i 0 < d) ∧ ∀ i, c ≤ i → i < ns.length → d ≤ ns.getD i 0
theorem isBy_of_cnt {ns : List Int} (g : Good ns) {y : Int} {c : Nat} (h : IsCnt ns (y - (y - ns.getD 0 0 - 1) / (ns.length : Int) * (ns.length : Int)) c) :
    IsBy ns y ((c : Int) + (y - ns.getD 0 0 - 1) / (ns.length : Int) * (ns.length : Int)) := by
  have hp := g.posI
  have h0 : 0 < ns.length := by have := g.pos; omega
  generalize ht : (y - ns.getD 0 0 - 1) / (ns.length : Int) = t at *
  have hr1 := Int.emod_nonneg (y - ns.getD 0 0 - 1) (show (ns.length : Int) ≠ 0 by omega)
  have hr2 := Int.emod_lt_of_pos (y - ns.getD 0 0 - 1) hp
  have hr := Int.emod_add_mul_ediv (y - ns.getD 0 0 - 1) (ns.length : Int)
  rw [ht, Int.mul_comm] at hr
  obtain ⟨hc, hlo, hhi⟩ := h
  have c1 : 1 ≤ c := by
    refine Classical.byContradiction fun q => ?_
    have := hhi 0 (by omega) h0
    omega
  constructor
  · by_cases hl : c < ns.length
    · rw [on_at g hl]
      have := hhi c (Nat.le_refl _) hl
      omega
    · have e : c = ns.length := by omega
      have e2 : (c : Int) + t * (ns.length : Int) = ((0 : Nat) : Int) + (t + 1) * (ns.length : Int) := by rw [Int.add_mul, Int.one_mul]; omega
      rw [e2, on_at g h0, Int.add_mul, Int.one_mul]
      omega
  · have e : (c : Int) + t * (ns.length : Int) - 1 = ((c - 1 : Nat) : Int) + t * (ns.length : Int) := by omega
    rw [e, on_at g (by omega)]
    have := hlo (c - 1) (by omega)
    omega
theorem cnt_ex {ns : List Int} (g : Good ns) (d : Int) : ∃ c, IsCnt ns d c := by
  have key : ∀ n, n ≤ ns.length → ∃ c, c ≤ n ∧ (∀ i, i < c → ns.getD i 0 < d) ∧ ∀ i, c ≤ i → i < n → d ≤ ns.getD i 0 := by
    intro n
    induction n with
    | zero => exact fun _ => ⟨0, Nat.le_refl _, fun i h => absurd h (Nat.not_lt_zero _), fun i _ h => absurd h (Nat.not_lt_zero _)⟩
    | succ n ih =>
      intro hn
      obtain ⟨c, h1, h2, h3⟩ := ih (by omega)
      by_cases hd : d ≤ ns.getD n 0
      · exact ⟨c, by omega, h2, fun i q1 q2 => by
          by_cases e : i = n
          · subst e; exact hd
          · exact h3 i q1 (by omega)⟩
      · refine ⟨n + 1, Nat.le_refl _, fun i q => ?_, fun i q1 q2 => absurd q2 (by omega)⟩
        have := g.up i n (by omega) (by omega)
        omega
  exact key ns.length (Nat.le_refl _)
theorem cnt_uniq {ns : List Int} {d : Int} {a b : Nat} (h : IsCnt ns d a) (h' : IsCnt ns d b) : a = b := by
  have q1 : ¬ a < b := fun q => by have := h.2.2 a (Nat.le_refl _) (by have := h'.1; omega); have := h'.2.1 a q; omega
  have q2 : ¬ b < a := fun q => by have := h'.2.2 b (Nat.le_refl _) (by have := h.1; omega); have := h.2.1 b q; omega
  omega
theorem by_ex {ns : List Int} (g : Good ns) (y : Int) : ∃ m, IsBy ns y m := by
  obtain ⟨c, hc⟩ := cnt_ex g (y - (y - ns.getD 0 0 - 1) / (ns.length : Int) * (ns.length : Int))
  exact ⟨_, isBy_of_cnt g hc⟩
open Classical in
noncomputable def byL (ns : List Int) (y : Int) : Int := if h : ∃ m, IsBy ns y m then Classical.choose h else 0
theorem byL_is {ns : List Int} (g : Good ns) (y : Int) : IsBy ns y (byL ns y) := by
  unfold byL
  rw [dif_pos (by_ex g y)]
  exact Classical.choose_spec (by_ex g y)
theorem byL_eq {ns : List Int} (g : Good ns) {y m : Int} (h : IsBy ns y m) : byL ns y = m := isBy_uniq g (byL_is g y) h
theorem by_le {ns : List Int} (g : Good ns) {x y : Int} : byL ns y ≤ x ↔ y ≤ onL ns x := by
  have h := byL_is g y
  constructor
  · exact fun q => Int.le_trans h.1 (on_mono g q)
  · intro q
    refine Classical.byContradiction fun n => ?_
    have := on_mono g (show x ≤ byL ns y - 1 by omega)
    have := h.2
    omega
/-- the day of a served one less itself is at most M, at least m -/
theorem on_le {ns : List Int} (g : Good ns) {M : Int} (h : ∀ i, i < ns.length → ns.getD i 0 - (i : Int) ≤ M) (x : Int) : onL ns x ≤ x + M := by
  obtain ⟨i, t, hi, rfl⟩ := split_at g x
  rw [on_at g hi]
  have := h i hi
  omega
theorem start_le {ns : List Int} (g : Good ns) {M y : Int} (h : ∀ i, i < ns.length → ns.getD i 0 - (i : Int) ≤ M) : y - M - 1 ≤ byL ns y := by
  have h1 := (byL_is g y).1
  have h2 := on_le g h (byL ns y)
  omega
end TM
end
section
namespace TM
/-! the mathematics of rules through rows -/
def IsMinL (l : List Int) (m : Int) : Prop := m ∈ l ∧ ∀ y, y ∈ l → m ≤ y
def IsMaxL (l : List Int) (m : Int) : Prop := m ∈ l ∧ ∀ y, y ∈ l → y ≤ m
theorem isMinL_ex : ∀ {l : List Int}, l ≠ [] → ∃ m, IsMinL l m
  | [], h => absurd rfl h
  | [a], _ => ⟨a, by simp, fun y hy => by simp at hy; omega⟩
  | a :: b :: l, _ => by
    obtain ⟨m, h1, h2⟩ := isMinL_ex (l := b :: l) (by simp)
    by_cases q : a ≤ m
    · exact ⟨a, by simp, fun y hy => by
        rcases List.mem_cons.mp hy with e | hy
        · omega
        · have := h2 y hy; omega⟩
    · exact ⟨m, List.mem_cons_of_mem _ h1, fun y hy => by
        rcases List.mem_cons.mp hy with e | hy
        · omega
        · exact h2 y hy⟩
theorem isMaxL_ex : ∀ {l : List Int}, l ≠ [] → ∃ m, IsMaxL l m
  | [], h => absurd rfl h
  | [a], _ => ⟨a, by simp, fun y hy => by simp at hy; omega⟩
  | a :: b :: l, _ => by
    obtain ⟨m, h1, h2⟩ := isMaxL_ex (l := b :: l) (by simp)
    by_cases q : m ≤ a
    · exact ⟨a, by simp, fun y hy => by
        rcases List.mem_cons.mp hy with e | hy
        · omega
        · have := h2 y hy; omega⟩
    · exact ⟨m, List.mem_cons_of_mem _ h1, fun y hy => by
        rcases List.mem_cons.mp hy with e | hy
        · omega
        · exact h2 y hy⟩
open Classical in
noncomputable def mxI (l : List Int) : Int := if h : ∃ m, IsMaxL l m then Classical.choose h else 0
open Classical in
noncomputable def mnI (l : List Int) : Int := if h : ∃ m, IsMinL l m then Classical.choose h else 0
theorem mxI_is {l : List Int} (h : l ≠ []) : IsMaxL l (mxI l) := by
  unfold mxI
  rw [dif_pos (isMaxL_ex h)]
  exact Classical.choose_spec (isMaxL_ex h)
theorem mnI_is {l : List Int} (h : l ≠ []) : IsMinL l (mnI l) := by
  unfold mnI
  rw [dif_pos (isMinL_ex h)]
  exact Classical.choose_spec (isMinL_ex h)
def early (L : Int) (r : Int × Int) (d : Int) : Int := r.2 + (d - r.1) / L * L
def late (L : Int) (r : Int × Int) (d : Int) : Int := r.2 - (r.1 - d) / L * L
section
variable {L : Int} (hL : 0 < L)
include hL
theorem early_near (r : Int × Int) (d : Int) : r.2 + (d - r.1) - L < early L r d ∧ early L r d ≤ r.2 + (d - r.1) := by
  have h1 := Int.emod_nonneg (d - r.1) (show L ≠ 0 by omega)
  have h2 := Int.emod_lt_of_pos (d - r.1) hL
  have h3 := Int.emod_add_mul_ediv (d - r.1) L
  rw [Int.mul_comm] at h3
  unfold early
  omega
theorem late_near (r : Int × Int) (d : Int) : r.2 - (r.1 - d) ≤ late L r d ∧ late L r d < r.2 - (r.1 - d) + L := by
  have h1 := Int.emod_nonneg (r.1 - d) (show L ≠ 0 by omega)
  have h2 := Int.emod_lt_of_pos (r.1 - d) hL
  have h3 := Int.emod_add_mul_ediv (r.1 - d) L
  rw [Int.mul_comm] at h3
  unfold late
  omega
theorem early_per (r : Int × Int) (d : Int) : early L r (d + L) = early L r d + L := by
  unfold early
  have e : d + L - r.1 = d - r.1 + 1 * L := by omega
  rw [e, Int.add_mul_ediv_right _ _ (by omega), Int.add_mul, Int.one_mul]
  omega
theorem late_per (r : Int × Int) (d : Int) : late L r (d + L) = late L r d + L := by
  unfold late
  have e : r.1 - (d + L) = r.1 - d + (-1) * L := by omega
  rw [e, Int.add_mul_ediv_right _ _ (by omega), Int.add_mul]
  omega
theorem early_mono (r : Int × Int) {d e : Int} (h : d ≤ e) : early L r d ≤ early L r e := by
  unfold early
  have := Int.mul_le_mul_of_nonneg_right (Int.ediv_le_ediv hL (show d - r.1 ≤ e - r.1 by omega)) (Int.le_of_lt hL)
  omega
theorem late_mono (r : Int × Int) {d e : Int} (h : d ≤ e) : late L r d ≤ late L r e := by
  unfold late
  have := Int.mul_le_mul_of_nonneg_right (Int.ediv_le_ediv hL (show r.1 - e ≤ r.1 - d by omega)) (Int.le_of_lt hL)
  omega
omit hL in
theorem early_self (r : Int × Int) : early L r r.1 = r.2 := by unfold early; rw [Int.sub_self, Int.zero_ediv, Int.zero_mul]; omega
omit hL in
theorem late_self (r : Int × Int) : late L r r.1 = r.2 := by unfold late; rw [Int.sub_self, Int.zero_ediv, Int.zero_mul]; omega
omit hL in
theorem early_late (r o : Int × Int) : early L r o.1 ≤ o.2 ↔ r.2 ≤ late L o r.1 := by
  unfold early late
  generalize (o.1 - r.1) / L * L = z
  omega
end
noncomputable def earT (L : Int) (rs : List (Int × Int)) (d : Int) : Int := mxI (rs.map fun r => early L r d)
noncomputable def latT (L : Int) (rs : List (Int × Int)) (d : Int) : Int := mnI (rs.map fun r => late L r d)
section
variable {L : Int} {rs ss : List (Int × Int)} (h0 : rs ≠ [])
include h0
theorem ear_is (d : Int) : IsMaxL (rs.map fun r => early L r d) (earT L rs d) := mxI_is (by simpa using h0)
theorem lat_is (d : Int) : IsMinL (rs.map fun r => late L r d) (latT L rs d) := mnI_is (by simpa using h0)
theorem ear_ge {d : Int} {r : Int × Int} (h : r ∈ rs) : early L r d ≤ earT L rs d := (ear_is h0 d).2 _ (List.mem_map_of_mem h)
theorem lat_le {d : Int} {r : Int × Int} (h : r ∈ rs) : latT L rs d ≤ late L r d := (lat_is h0 d).2 _ (List.mem_map_of_mem h)
theorem ear_ex (d : Int) : ∃ r, r ∈ rs ∧ earT L rs d = early L r d := by
  obtain ⟨r, h1, h2⟩ := List.mem_map.mp (ear_is (L := L) h0 d).1
  exact ⟨r, h1, h2.symm⟩
theorem lat_ex (d : Int) : ∃ r, r ∈ rs ∧ latT L rs d = late L r d := by
  obtain ⟨r, h1, h2⟩ := List.mem_map.mp (lat_is (L := L) h0 d).1
  exact ⟨r, h1, h2.symm⟩
theorem ear_mono (hL : 0 < L) {d e : Int} (h : d ≤ e) : earT L rs d ≤ earT L rs e := by
  obtain ⟨r, h1, h2⟩ := ear_ex (L := L) h0 d
  have := ear_ge (L := L) (d := e) h0 h1
  have := early_mono hL r h
  omega
theorem lat_mono (hL : 0 < L) {d e : Int} (h : d ≤ e) : latT L rs d ≤ latT L rs e := by
  obtain ⟨r, h1, h2⟩ := lat_ex (L := L) h0 e
  have := lat_le (L := L) (d := d) h0 h1
  have := late_mono hL r h
  omega
theorem ear_per (hL : 0 < L) (d : Int) : earT L rs (d + L) = earT L rs d + L := by
  obtain ⟨r, h1, h2⟩ := ear_ex (L := L) h0 d
  obtain ⟨s, g1, g2⟩ := ear_ex (L := L) h0 (d + L)
  have a1 := ear_ge (L := L) (d := d + L) h0 h1
  have a2 := ear_ge (L := L) (d := d) h0 g1
  have a3 := early_per hL r d
  have a4 := early_per hL s d
  omega
theorem lat_per (hL : 0 < L) (d : Int) : latT L rs (d + L) = latT L rs d + L := by
  obtain ⟨r, h1, h2⟩ := lat_ex (L := L) h0 d
  obtain ⟨s, g1, g2⟩ := lat_ex (L := L) h0 (d + L)
  have a1 := lat_le (L := L) (d := d + L) h0 h1
  have a2 := lat_le (L := L) (d := d) h0 g1
  have a3 := late_per hL r d
  have a4 := late_per hL s d
  omega
end
def keptB (L : Int) (rs : List (Int × Int)) : Bool := rs.all fun r => rs.all fun o => decide (early L r o.1 ≤ o.2)
theorem kept_iff {L : Int} {rs : List (Int × Int)} : keptB L rs = true ↔ ∀ r, r ∈ rs → ∀ o, o ∈ rs → early L r o.1 ≤ o.2 := by
  unfold keptB
  rw [List.all_eq_true]
  constructor
  · intro h r hr o ho
    have := h r hr
    rw [List.all_eq_true] at this
    exact of_decide_eq_true (this o ho)
  · intro h r hr
    rw [List.all_eq_true]
    exact fun o ho => decide_eq_true (h r hr o ho)
theorem kept_ear {L : Int} {rs : List (Int × Int)} (h0 : rs ≠ []) : (rs.all fun o => decide (earT L rs o.1 = o.2)) = keptB L rs := by
  rw [Bool.eq_iff_iff, kept_iff, List.all_eq_true]
  constructor
  · intro h r hr o ho
    have h1 := of_decide_eq_true (h o ho)
    have h2 := ear_ge (L := L) (d := o.1) h0 hr
    omega
  · intro h o ho
    refine decide_eq_true ?_
    obtain ⟨r, g1, g2⟩ := ear_ex (L := L) h0 o.1
    have h1 := h r g1 o ho
    have h2 := ear_ge (L := L) (d := o.1) h0 ho
    rw [early_self] at h2
    omega
theorem kept_lat {L : Int} {rs : List (Int × Int)} (h0 : rs ≠ []) : (rs.all fun o => decide (latT L rs o.1 = o.2)) = keptB L rs := by
  rw [Bool.eq_iff_iff, kept_iff, List.all_eq_true]
  constructor
  · intro h r hr o ho
    have h1 := of_decide_eq_true (h r hr)
    have h2 := lat_le (L := L) (d := r.1) h0 ho
    exact (early_late r o).mpr (by omega)
  · intro h o ho
    refine decide_eq_true ?_
    obtain ⟨r, g1, g2⟩ := lat_ex (L := L) h0 o.1
    have h1 := (early_late o r).mp (h o ho r g1)
    have h2 := lat_le (L := L) (d := o.1) h0 ho
    rw [late_self] at h2
    omega
/-- the list of a rule's first days -/
def listF (n : Nat) (f : Int → Int) : List Int := (List.range n).map fun (i : Nat) => f (i : Int)
theorem listF_len (n : Nat) (f : Int → Int) : (listF n f).length = n := by unfold listF; rw [List.length_map, List.length_range]
theorem listF_at {n : Nat} {f : Int → Int} {i : Nat} (h : i < n) : (listF n f).getD i 0 = f (i : Int) := by
  unfold listF
  rw [List.getD_eq_getElem?_getD, List.getElem?_map, List.getElem?_range h] <;> rfl
section
variable {n : Nat} {f : Int → Int} (h1 : 1 ≤ n) (h2 : n ≤ 600) (hm : ∀ d e : Int, d ≤ e → f d ≤ f e) (hp : ∀ d : Int, f (d + (n : Int)) = f d + (n : Int))
include h1 h2 hm hp
theorem listF_good : Good (listF n f) := by
  refine ⟨by rw [listF_len]; exact h1, by rw [listF_len]; exact h2, fun i j hij hj => ?_, ?_⟩
  · rw [listF_len] at hj
    rw [listF_at (by omega), listF_at hj]
    exact hm _ _ (by omega)
  · rw [listF_len, listF_at (by omega), listF_at (by omega)]
    have a1 := hm ((n - 1 : Nat) : Int) (((0 : Nat) : Int) + (n : Int)) (by omega)
    have a2 := hp ((0 : Nat) : Int)
    omega
omit h1 h2 hm in
theorem per_mul (d : Int) (t : Int) : f (d + t * (n : Int)) = f d + t * (n : Int) := by
  have up : ∀ k : Nat, ∀ d : Int, f (d + (k : Int) * (n : Int)) = f d + (k : Int) * (n : Int) := by
    intro k
    induction k with
    | zero => intro d; simp
    | succ k ih =>
      intro d
      have e : d + ((k + 1 : Nat) : Int) * (n : Int) = d + (k : Int) * (n : Int) + (n : Int) := by rw [Int.natCast_add, Int.add_mul]; simp; omega
      rw [e, hp, ih, Int.natCast_add, Int.add_mul]
      simp
      omega
  by_cases h : 0 ≤ t
  · obtain ⟨k, rfl⟩ : ∃ k : Nat, t = (k : Int) := ⟨t.toNat, by omega⟩
    exact up k d
  · obtain ⟨k, rfl⟩ : ∃ k : Nat, t = -(k : Int) := ⟨(-t).toNat, by omega⟩
    have := up k (d + -(k : Int) * (n : Int))
    rw [Int.neg_mul] at this ⊢
    rw [show d + -((k : Int) * (n : Int)) + (k : Int) * (n : Int) = d by omega] at this
    omega
theorem listF_on (x : Int) : onL (listF n f) x = f x := by
  have g := listF_good h1 h2 hm hp
  obtain ⟨i, t, hi, rfl⟩ := split_at g x
  rw [on_at g hi]
  rw [listF_len] at hi ⊢
  rw [listF_at hi, per_mul hp]
end
theorem on_mul {ns : List Int} (g : Good ns) (x t : Int) : onL ns (x + t * (ns.length : Int)) = onL ns x + t * (ns.length : Int) := per_mul (fun d => on_len g d) x t
theorem list_on {ns : List Int} (g : Good ns) : listF ns.length (onL ns) = ns := by
  apply List.ext_getElem
  · rw [listF_len]
  · intro i h1 h2
    have e := listF_at (f := onL ns) h2
    rw [List.getD_eq_getElem?_getD, List.getElem?_eq_getElem h1] at e
    have e2 := on_at g h2 0
    rw [Int.zero_mul, Int.add_zero, Int.add_zero] at e2
    have e3 : (listF ns.length (onL ns))[i] = onL ns (i : Int) := e
    rw [e3, e2, List.getD_eq_getElem?_getD, List.getElem?_eq_getElem h2]
    rfl
/-- rows of a rule -/
def Reads (ns : List Int) (rs : List (Int × Int)) : Prop := ∀ r, r ∈ rs → onL ns r.1 = r.2
theorem early_on {ns : List Int} (g : Good ns) {r : Int × Int} (h : onL ns r.1 = r.2) (d : Int) : early (ns.length : Int) r d ≤ onL ns d := by
  have hp := g.posI
  have h1 := Int.emod_nonneg (d - r.1) (show (ns.length : Int) ≠ 0 by omega)
  have h3 := Int.emod_add_mul_ediv (d - r.1) (ns.length : Int)
  rw [Int.mul_comm] at h3
  unfold early
  rw [← h, ← on_mul g]
  exact on_mono g (by omega)
theorem on_late {ns : List Int} (g : Good ns) {r : Int × Int} (h : onL ns r.1 = r.2) (d : Int) : onL ns d ≤ late (ns.length : Int) r d := by
  have hp := g.posI
  have h1 := Int.emod_nonneg (r.1 - d) (show (ns.length : Int) ≠ 0 by omega)
  have h3 := Int.emod_add_mul_ediv (r.1 - d) (ns.length : Int)
  rw [Int.mul_comm] at h3
  unfold late
  have e : r.2 - (r.1 - d) / (ns.length : Int) * (ns.length : Int) = onL ns (r.1 + -((r.1 - d) / (ns.length : Int)) * (ns.length : Int)) := by
    rw [on_mul g, h, Int.neg_mul]
    omega
  rw [e]
  exact on_mono g (by rw [Int.neg_mul]; omega)
theorem reads_kept {ns : List Int} (g : Good ns) {rs : List (Int × Int)} (h : Reads ns rs) : keptB (ns.length : Int) rs = true :=
  kept_iff.mpr fun r hr o ho => by rw [← h o ho]; exact early_on g (h r hr) o.1
theorem ear_on {ns : List Int} (g : Good ns) {rs : List (Int × Int)} (h0 : rs ≠ []) (h : Reads ns rs) (d : Int) : earT (ns.length : Int) rs d ≤ onL ns d := by
  obtain ⟨r, h1, h2⟩ := ear_ex (L := (ns.length : Int)) h0 d
  rw [h2]
  exact early_on g (h r h1) d
theorem on_lat {ns : List Int} (g : Good ns) {rs : List (Int × Int)} (h0 : rs ≠ []) (h : Reads ns rs) (d : Int) : onL ns d ≤ latT (ns.length : Int) rs d := by
  obtain ⟨r, h1, h2⟩ := lat_ex (L := (ns.length : Int)) h0 d
  rw [h2]
  exact on_late g (h r h1) d
/-- a row of each day of a length tells the rule -/
theorem early_all {ns : List Int} (g : Good ns) {r : Int × Int} (h : onL ns r.1 = r.2) {d t : Int} (e : d = r.1 + t * (ns.length : Int)) : early (ns.length : Int) r d = onL ns d := by
  have hp := g.posI
  subst e
  unfold early
  rw [show r.1 + t * (ns.length : Int) - r.1 = t * (ns.length : Int) by omega, Int.mul_ediv_cancel _ (by omega), on_mul g, h]
theorem late_all {ns : List Int} (g : Good ns) {r : Int × Int} (h : onL ns r.1 = r.2) {d t : Int} (e : d = r.1 + t * (ns.length : Int)) : late (ns.length : Int) r d = onL ns d := by
  have hp := g.posI
  subst e
  unfold late
  rw [show r.1 - (r.1 + t * (ns.length : Int)) = -t * (ns.length : Int) by rw [Int.neg_mul]; omega, Int.mul_ediv_cancel _ (by omega), on_mul g, h, Int.neg_mul]
  omega
theorem ends_cover {n : Nat} (hn : 1 ≤ n) (first d : Int) : ∃ (i : Nat) (t : Int), i < n ∧ d = first + (i : Int) + t * (n : Int) := by
  have h1 := Int.emod_nonneg (d - first) (show (n : Int) ≠ 0 by omega)
  have h2 := Int.emod_lt_of_pos (d - first) (show (0 : Int) < n by omega)
  have h3 := Int.emod_add_mul_ediv (d - first) (n : Int)
  rw [Int.mul_comm] at h3
  exact ⟨((d - first) % (n : Int)).toNat, (d - first) / (n : Int), by omega, by omega⟩
def endRows (ns : List Int) (first : Int) : List (Int × Int) := (List.range ns.length).map fun (i : Nat) => (first + (i : Int), onL ns (first + (i : Int)))
theorem end_reads {ns : List Int} {first : Int} : Reads ns (endRows ns first) := fun r hr => by
  obtain ⟨i, _, rfl⟩ := List.mem_map.mp hr
  rfl
theorem end_ear {ns : List Int} (g : Good ns) {first : Int} {rs : List (Int × Int)} (hr : ∀ r, r ∈ rs ↔ r ∈ endRows ns first) (d : Int) : earT (ns.length : Int) rs d = onL ns d := by
  obtain ⟨i, t, hi, e⟩ := ends_cover g.pos first d
  have hm : (first + (i : Int), onL ns (first + (i : Int))) ∈ rs := (hr _).mpr (List.mem_map.mpr ⟨i, List.mem_range.mpr hi, rfl⟩)
  have h0 : rs ≠ [] := fun z => by rw [z] at hm; cases hm
  have a1 := ear_ge (L := (ns.length : Int)) (d := d) h0 hm
  have a2 := early_all g (r := (first + (i : Int), onL ns (first + (i : Int)))) rfl (d := d) (t := t) e
  have a3 := ear_on g h0 (fun r q => end_reads r ((hr r).mp q)) d
  omega
theorem end_lat {ns : List Int} (g : Good ns) {first : Int} {rs : List (Int × Int)} (hr : ∀ r, r ∈ rs ↔ r ∈ endRows ns first) (d : Int) : latT (ns.length : Int) rs d = onL ns d := by
  obtain ⟨i, t, hi, e⟩ := ends_cover g.pos first d
  have hm : (first + (i : Int), onL ns (first + (i : Int))) ∈ rs := (hr _).mpr (List.mem_map.mpr ⟨i, List.mem_range.mpr hi, rfl⟩)
  have h0 : rs ≠ [] := fun z => by rw [z] at hm; cases hm
  have a1 := lat_le (L := (ns.length : Int)) (d := d) h0 hm
  have a2 := late_all g (r := (first + (i : Int), onL ns (first + (i : Int)))) rfl (d := d) (t := t) e
  have a3 := on_lat g h0 (fun r q => end_reads r ((hr r).mp q)) d
  omega
end TM
end
section
set_option maxHeartbeats 2000000
namespace G
open PySem PySem.Spec PyProof.Rows L2 Evl
/-! ### == and != of two instances by the text's own == -/
section
variable {prog : Program} {w : World} {A : Around} {Er : Value → Shared → Prop} {s : Shared} {K : PySem.W.Frag} {x C f : Addr} {ox : Obj} {od : Option Obj} {b : Value}
theorem bound_ne {M : Model} {args : List Value} {Q : Option Value → Shared → Prop} (X : K.In s.heap) (I : PySem.W.InstAt s.heap x ox C od) (hs : PySem.W.findIn K (.ref C) "__ne__" = some (some (.builtin "object.__ne__")))
    (h : wpAny M A (call (.builtin "object.__ne__") (.ref x :: args)) (fun v => Q (some v)) Er s) : wpAny M A (callSpecialIfBound? (.ref x) "__ne__" args) Q Er s := by
  simp only [callSpecialIfBound?, bindSpecialIfBound?]
  refine wpAny_holding (wpAny_bind (wpAny_bind (wpAny_bind (I.type.here ((PySem.W.looks_findIn X hs).here ?_)))))
  refine wpAny_bind (wpAny_askSetting (wpAny_ite ?_))
  have fin : wpAny M A (call (.builtin "object.__ne__") ([.ref x] ++ args) >>= fun v => pure (some v)) Q Er s := wpAny_bind (wpAny_mono h (fun v s' q => wpAny_pure q) fun _ _ q => q)
  split
  · exact wpAny_bind (wpAny_of_eq (F.cmp_object.ne.bind _) (wpAny_pure (by exact fin)))
  · exact wpAny_tryCatch (wpAny_bind (wpAny_of_eq (F.cmp_object.ne.bind _) (wpAny_pure (by exact fin))))
theorem entry_ne {Q : Fin → Shared → Prop} (hu : A.units < cLine) (X : K.In s.heap) (I : PySem.W.InstAt s.heap x ox C od) (hs : PySem.W.findIn K (.ref C) "__eq__" = some (some (.ref f))) (hf : PySem.W.isFn K (.ref f) = true)
    (h : wpAny (model prog w) A (call (.ref f) [.ref x, b]) (fun v s' => ∃ c, v = .bool c ∧ Q (.done (.ret (.bool (!c)))) s') Er s) : wpAny (model prog w) A (Builtin.«object.__ne__» ⟨[.ref x, b], []⟩) Q Er s := by
  unfold Builtin.«object.__ne__»
  repeat (first
    | with_reducible refine wpAny_cRoomFor hu ?_
    | (refine wpAny_bind (m := callSpecialIfBound? (.ref x) (Str.ofString "__eq__") [b])
        (PySem.W.ifBound_K X I hs hf (wpAny_mono h (fun r s' hr => by
          obtain ⟨c, rfl, hq⟩ := hr
          repeat (first | exact hq | exact wpAny_pure hq | exact wpAny_truthy_bool hq | (refine wpAny_bind (m := truthy (.bool _)) (wpAny_truthy_bool ?_)) | wp_step)) fun _ _ e => e)))
    | wp_step)
theorem rich_ne {Q : Value → Shared → Prop} (hu : A.units + 1 < cLine) (X : K.In s.heap) (I : PySem.W.InstAt s.heap x ox C od) (hb : PySem.W.Looks (model prog w) s.heap (typeOf b) (.ref C))
    (hm : PySem.W.mroIn K C (.type "object") = some true) (hn : PySem.W.findIn K (.ref C) "__ne__" = some (some (.builtin "object.__ne__"))) (hs : PySem.W.findIn K (.ref C) "__eq__" = some (some (.ref f))) (hf : PySem.W.isFn K (.ref f) = true)
    (h : wpAny (model prog w) A.in1 (call (.ref f) [.ref x, b]) (fun v s' => ∃ c, v = .bool c ∧ Q (.bool (!c)) s') Er s) : wpAny (model prog w) A (richCompare .NotEq (.ref x) b) Q Er s := by
  have one : wpAny (model prog w) A (tryCompare (.ref x) "__ne__" b) (fun r s' => ∃ v, r = some v ∧ Q v s') Er s := by
    unfold tryCompare
    refine wpAny_bind (bound_ne X I hn (wpAny_call (codeAny_call_builtin F.cmp_object.ne.plain F.cmpEntry_ne (PySem.W.check_slot F.cmpKind_ne F.cmpSplit_ne (I.type.andThen (PySem.W.looks_mroIn X hm)) (F.cmpArgs_ne _ _)
      (entry_ne (A := A.in1) hu X I hs hf (wpAny_mono h (fun v s' hv => ?_) fun _ _ e => e))))))
    obtain ⟨c, rfl, hq⟩ := hv
    exact ⟨c, rfl, wpAny_pure ⟨_, rfl, hq⟩⟩
  unfold richCompare
  simp only [oneThing_ref, cmpInfo_NotEq]
  refine wpAny_holding (wpAny_bind (wpAny_cRoomFor (Nat.lt_of_succ_lt hu) ?_))
  refine wpAny_bind (I.type.here (wpAny_bind (hb.here ?_)))
  simp only [bne_self_eq_false, Bool.false_eq_true, if_false]
  refine wpAny_bind (wpAny_pure ?_)
  simp only [Bool.false_eq_true, if_false]
  refine wpAny_bind (wpAny_mono one (fun r s' z => ?_) fun _ _ e => e)
  obtain ⟨v, rfl, hq⟩ := z
  exact wpAny_pure hq
end
section
variable {X : Cx} {CX : CXT} {k : Nat} {f C : Addr} {fd : FuncData} {ps : List Str} {sp : Sp} {E : XK}
/-- x == y, x != y of two instances of the class at C, by its own == -/
def rEqO (C : Addr) (sp : Sp) (E : XK) : R2 := fun x y H Q => ∃ a b dx dy fs gs, x = .ref a ∧ y = .ref b ∧ H a = some (.ins C dx fs) ∧ H b = some (.ins C dy gs) ∧ sp [.ref a, .ref b] H (fun v H' => (∃ c, v = .bl c) ∧ Q v H') E
def rNeO (C : Addr) (sp : Sp) (E : XK) : R2 := fun x y H Q => ∃ a b dx dy fs gs, x = .ref a ∧ y = .ref b ∧ H a = some (.ins C dx fs) ∧ H b = some (.ins C dy gs) ∧ sp [.ref a, .ref b] H (fun v H' => ∃ c, v = .bl c ∧ Q (.bl (!c)) H') E
theorem call_eqO {A : Around} {pins : List (Addr × Obj)} {s : Shared} {σ : L2.St} {H : Hp} {a b : Addr} {Q : VK} (F : FnOk X.prog X.w X.K X.mg X.base CX k f fd ps sp) (hb : Binds X.K fd ps []) (hx : Passes CX X E) (hr : Room k A) (hfr : A.frames = X.A.frames) (I : Inv X pins σ H s)
    (h : sp [.ref a, .ref b] H Q E) : wpAny (model X.prog X.w) A (call (.ref f) [.ref a, .ref b]) (EP X pins σ Q) X.xe s := by
  have r2 : Vals [V.ref a, V.ref b] [Value.ref a, Value.ref b] := .cons rfl (.cons rfl .nil)
  have hl := F.len _ _ _ _ h
  have e0 : Env0 X.prog X.w X.K X.mg X.base A X.stack s H := { I.env0 with frames := hfr.trans I.env0.frames }
  refine wpAny_call (codeAny_mono (F.run A X.stack s H ⟨[.ref a, .ref b], []⟩ [.ref a, .ref b] [.ref a, .ref b] Q E hr e0 (by simpa using hb s [.ref a, .ref b] I.kIn (by simpa using hl)) r2 h) fun r s' hq => ?_)
  match r, hq with
  | .error e, hq => exact hx pins σ H s e s' I hq
  | .ok (.ret u), hq => exact I.after hq
  | .ok .next, hq => exact hq.elim
  | .ok .brk, hq => exact hq.elim
  | .ok .cont, hq => exact hq.elim
theorem op_eqO (F : FnOk X.prog X.w X.K X.mg X.base CX k f fd ps sp) (hs : PySem.W.findIn X.K (.ref C) "__eq__" = some (some (.ref f))) (hf : PySem.W.isFn X.K (.ref f) = true) (hb : Binds X.K fd ps []) (hx : Passes CX X E) (hr : Room k X.A) :
    OpR X (compareOp .Eq) (rEqO C sp E) := by
  intro pins s σ H x y u v Q I rx ry h
  obtain ⟨a, b, dx, dy, fs, gs, rfl, rfl, ha, hb', h⟩ := h
  cases rx
  cases ry
  obtain ⟨mA, J, _⟩ := ins_get I.hok ha
  obtain ⟨mB, J', _⟩ := ins_get I.hok hb'
  obtain ⟨od, J, _⟩ := J.look
  obtain ⟨od', J', _⟩ := J'.look
  obtain ⟨m, hF⟩ := I.fr
  refine PySem.W.cmp_ofEq (PySem.W.cmp_K (op := .Eq) (tb := .ref C) hr.units0 hF I.ok.mod.kin J J'.type (by simp [PySem.W.notFirst]) hs hf ?_)
  refine wpAny_mono (call_eqO F hb hx hr rfl I h) (fun w s' hq => ?_) fun _ _ q => q
  obtain ⟨z, H', I', rz, ⟨c, rfl⟩, q⟩ := hq
  cases rz
  exact ⟨.bl c, H', I', rfl, q⟩
theorem op_neO (F : FnOk X.prog X.w X.K X.mg X.base CX k f fd ps sp) (hm : PySem.W.mroIn X.K C (.type "object") = some true) (hn : PySem.W.findIn X.K (.ref C) "__ne__" = some (some (.builtin "object.__ne__"))) (hs : PySem.W.findIn X.K (.ref C) "__eq__" = some (some (.ref f)))
    (hf : PySem.W.isFn X.K (.ref f) = true) (hb : Binds X.K fd ps []) (hx : Passes CX X E) (hr : Room (k + 1) X.A) : OpR X (compareOp .NotEq) (rNeO C sp E) := by
  intro pins s σ H x y u v Q I rx ry h
  obtain ⟨a, b, dx, dy, fs, gs, rfl, rfl, ha, hb', h⟩ := h
  cases rx
  cases ry
  obtain ⟨mA, J, _⟩ := ins_get I.hok ha
  obtain ⟨mB, J', _⟩ := ins_get I.hok hb'
  obtain ⟨od, J, _⟩ := J.look
  obtain ⟨od', J', _⟩ := J'.look
  have hu := hr.units
  refine PySem.W.cmp_ofNotEq (rich_ne (by omega) I.kIn J J'.type hm hn hs hf ?_)
  refine wpAny_mono (call_eqO (A := X.A.in1) F hb hx hr.in1 rfl I h) (fun w s' hq => ?_) fun _ _ q => q
  obtain ⟨z, H', I', rz, c, rfl, q⟩ := hq
  cases rz
  exact ⟨c, rfl, .bl (!c), H', I', rfl, q⟩
end
end G
end
section
set_option maxHeartbeats 2000000
namespace G
open PySem L2 Evl
/-! ### lists and tuples of pairs of numbers -/
abbrev Row := Int × Int
def rowV (r : Row) : List V := [.int r.1, .int r.2]
def RowsAt (H : Hp) (ts : List Addr) (rs : List Row) : Prop := ts.length = rs.length ∧ ∀ (j : Nat) (T : Addr) (r : Row), ts[j]? = some T → rs[j]? = some r → H T = some (.tup (rowV r))
def RowsL (H : Hp) (a : Addr) (rs : List Row) : Prop := ∃ ts : List Addr, H a = some (.lst (ts.map V.ref)) ∧ RowsAt H ts rs
def RowsU (H : Hp) (a : Addr) (rs : List Row) : Prop := ∃ ts : List Addr, H a = some (.tup (ts.map V.ref)) ∧ RowsAt H ts rs
variable {K : PySem.W.Frag} {σ : L2.St} {H H' : Hp} {ta tb te tl tx : TE} {tt : TT} {x y z v w : V} {p a q C dx : Addr} {tA tr tk : TA} {ts us : List Addr} {rs ss : List Row} {vs : List Nat} {i j : Nat} {Q : VK} {D : Ends} {tz : TS}
theorem RowsAt.mono (h : RowsAt H ts rs) (e : Ex H H') : RowsAt H' ts rs := ⟨h.1, fun j T r a b => e T _ (h.2 j T r a b)⟩
theorem RowsL.mono (h : RowsL H a rs) (e : Ex H H') : RowsL H' a rs := let ⟨ts, h1, h2⟩ := h; ⟨ts, e a _ h1, h2.mono e⟩
theorem RowsU.mono (h : RowsU H a rs) (e : Ex H H') : RowsU H' a rs := let ⟨ts, h1, h2⟩ := h; ⟨ts, e a _ h1, h2.mono e⟩
theorem RowsAt.nil : RowsAt H [] [] := ⟨rfl, fun j T r h => by simp at h⟩
theorem RowsAt.app (h : RowsAt H ts rs) (h2 : RowsAt H us ss) : RowsAt H (ts ++ us) (rs ++ ss) := by
  refine ⟨by rw [List.length_append, List.length_append, h.1, h2.1], fun j T r a b => ?_⟩
  by_cases hj : j < ts.length
  · rw [List.getElem?_append_left hj] at a
    rw [List.getElem?_append_left (by rw [← h.1]; exact hj)] at b
    exact h.2 j T r a b
  · rw [List.getElem?_append_right (by omega)] at a
    rw [List.getElem?_append_right (by rw [← h.1]; omega), ← h.1] at b
    exact h2.2 _ T r a b
theorem RowsAt.one {T : Addr} {r : Row} (h : H T = some (.tup (rowV r))) : RowsAt H [T] [r] := ⟨rfl, fun j U s a b => by
  cases j with
  | zero => simp at a b; subst a; subst b; exact h
  | succ j => simp at a⟩
theorem RowsAt.rev (h : RowsAt H ts rs) : RowsAt H ts.reverse rs.reverse := by
  refine ⟨by rw [List.length_reverse, List.length_reverse, h.1], fun j T r a b => ?_⟩
  have hj : j < ts.length := by have := (List.getElem?_eq_some_iff.mp a).1; simpa using this
  rw [List.getElem?_reverse hj] at a
  rw [List.getElem?_reverse (by rw [← h.1]; exact hj), ← h.1] at b
  exact h.2 _ T r a b
theorem RowsAt.rep {T : Addr} {r : Row} (n : Nat) (h : H T = some (.tup (rowV r))) : RowsAt H (List.replicate n T) (List.replicate n r) := ⟨by simp, fun j U s a b => by
  obtain ⟨_, rfl⟩ := List.mem_replicate.mp (List.mem_of_getElem? a)
  obtain ⟨_, rfl⟩ := List.mem_replicate.mp (List.mem_of_getElem? b)
  exact h⟩
theorem RowsAt.get (h : RowsAt H ts rs) {k : Nat} {y : V} (hy : (ts.map V.ref)[k]? = some y) : ∃ T r, y = .ref T ∧ rs[k]? = some r ∧ H T = some (.tup (rowV r)) := by
  rw [List.getElem?_map] at hy
  obtain ⟨T, hT, rfl⟩ := Option.map_eq_some_iff.mp hy
  have hk : k < rs.length := by rw [← h.1]; exact (List.getElem?_eq_some_iff.mp hT).1
  exact ⟨T, rs[k], rfl, List.getElem?_eq_getElem hk, h.2 k T _ hT (List.getElem?_eq_getElem hk)⟩
theorem RowsAt.at (h : RowsAt H ts rs) {k : Nat} {r : Row} (hr : rs[k]? = some r) : ∃ T, (ts.map V.ref)[k]? = some (.ref T) ∧ H T = some (.tup (rowV r)) := by
  have hk : k < ts.length := by rw [h.1]; exact (List.getElem?_eq_some_iff.mp hr).1
  exact ⟨ts[k], by rw [List.getElem?_map, List.getElem?_eq_getElem hk] <;> rfl, h.2 k _ r (List.getElem?_eq_getElem hk) hr⟩
theorem given_rows {f : Row → V} : given rs.length (fun _ => true) (fun k => f (rs.getD k (0, 0))) = rs.map f := by
  unfold given
  rw [List.filter_eq_self.mpr (fun _ _ => rfl)]
  apply List.ext_getElem
  · simp
  · intro k h1 h2
    have hk : k < rs.length := by simpa using h2
    simp [List.getD_eq_getElem?_getD, List.getElem?_eq_getElem hk]
theorem getD_row {k : Nat} {r : Row} (h : rs[k]? = some r) : rs.getD k (0, 0) = r := by rw [List.getD_eq_getElem?_getD, h] <;> rfl
/-- [e for row in rows] -/
theorem el_rowsL (f : Row → V) (h : Ev tl σ H (.ref a)) (hs : RowsL H a rs) (hz : rs.length ≤ 40000) (hw : ∀ x, wipe ((wipe σ vs).set j (some x)) vs = wipe σ vs)
    (he : ∀ (T : Addr) (r : Row) H1, Ex H H1 → r ∈ rs → H1 T = some (.tup (rowV r)) → Ev te ((wipe σ vs).set j (some (.ref T))) H1 (f r)) : EvL (tLc (iList K tl) (gName j) tYes te vs) σ H (rs.map f) := by
  obtain ⟨ts, h1, h2⟩ := hs
  have e0 : (ts.map V.ref).length = rs.length := by rw [List.length_map, h2.1]
  rw [← given_rows, ← e0]
  refine el_lcL (fun _ => true) (fun k => f (rs.getD k (0, 0))) h (sq_of h1) (by omega) hw (fun _ _ _ _ _ => lc_yes) (fun k y H1 e1 hk _ => ?_)
  obtain ⟨T, r, rfl, hr, hT⟩ := h2.get hk
  rw [getD_row hr]
  exact he T r H1 e1 (List.mem_of_getElem? hr) (e1 T _ hT)
theorem el_rowsU (f : Row → V) (h : Ev tl σ H (.ref a)) (hs : RowsU H a rs) (hz : rs.length ≤ 40000) (hw : ∀ x, wipe ((wipe σ vs).set j (some x)) vs = wipe σ vs)
    (he : ∀ (T : Addr) (r : Row) H1, Ex H H1 → r ∈ rs → H1 T = some (.tup (rowV r)) → Ev te ((wipe σ vs).set j (some (.ref T))) H1 (f r)) : EvL (tLc (iTup K tl) (gName j) tYes te vs) σ H (rs.map f) := by
  obtain ⟨ts, h1, h2⟩ := hs
  have e0 : (ts.map V.ref).length = rs.length := by rw [List.length_map, h2.1]
  rw [← given_rows, ← e0]
  refine el_lcT (fun _ => true) (fun k => f (rs.getD k (0, 0))) h (st_of h1) (by omega) hw (fun _ _ _ _ _ => lc_yes) (fun k y H1 e1 hk _ => ?_)
  obtain ⟨T, r, rfl, hr, hT⟩ := h2.get hk
  rw [getD_row hr]
  exact he T r H1 e1 (List.mem_of_getElem? hr) (e1 T _ hT)
/-- [e for a, b in rows] -/
theorem el_rows2L (f : Row → V) (h : Ev tl σ H (.ref a)) (hs : RowsL H a rs) (hz : rs.length ≤ 40000) (hw : ∀ x y, wipe (((wipe σ vs).set i (some x)).set j (some y)) vs = wipe σ vs)
    (he : ∀ (r : Row) H1, Ex H H1 → r ∈ rs → Ev te (((wipe σ vs).set i (some (.int r.1))).set j (some (.int r.2))) H1 (f r)) : EvL (tLc (iList K tl) (gTup K 2 (gCons (gName i) (gCons (gName j) gNil))) tYes te vs) σ H (rs.map f) := fun H0 e Q q => h H0 e _ fun H1 e1 => by
  obtain ⟨ts, h1, h2⟩ := hs
  have e0 : (ts.map V.ref).length = rs.length := by rw [List.length_map, h2.1]
  have hs1 := (e.trans e1) a _ h1
  have h21 := h2.mono (e.trans e1)
  refine ⟨a, rfl, ⟨_, sq_of hs1⟩, fun Dl hD => lc_list (xs := ts.map V.ref) (Cw H1 (fun _ => true) (fun k => f (rs.getD k (0, 0))) Dl) ⟨hD, Ex.new hD, upd_same⟩ (fun k H' _ p => sq_of (p.2.1 a _ hs1)) (fun k y H' hi p => ?_) (fun H' p => ?_)⟩
  · obtain ⟨T, r, rfl, hr, hT⟩ := h21.get hi
    have hk : k < rs.length := (List.getElem?_eq_some_iff.mp hr).1
    refine ⟨T, _, rfl, st_of (p.2.1 T _ hT), rfl, _, _, rfl, _, _, rfl, rfl, hw _ _, cw_turn p (by omega) lc_yes (fun _ => ?_)⟩
    rw [getD_row hr]
    exact he r H1 (e.trans e1) (List.mem_of_getElem? hr)
  · rw [e0] at p
    refine q Dl H' (fresh_back e1 p.1) (e1.trans p.2.1) ?_
    rw [p.2.2, given_rows]
theorem el_rows2U (f : Row → V) (h : Ev tl σ H (.ref a)) (hs : RowsU H a rs) (hz : rs.length ≤ 40000) (hw : ∀ x y, wipe (((wipe σ vs).set i (some x)).set j (some y)) vs = wipe σ vs)
    (he : ∀ (r : Row) H1, Ex H H1 → r ∈ rs → Ev te (((wipe σ vs).set i (some (.int r.1))).set j (some (.int r.2))) H1 (f r)) : EvL (tLc (iTup K tl) (gTup K 2 (gCons (gName i) (gCons (gName j) gNil))) tYes te vs) σ H (rs.map f) := fun H0 e Q q => h H0 e _ fun H1 e1 => by
  obtain ⟨ts, h1, h2⟩ := hs
  have e0 : (ts.map V.ref).length = rs.length := by rw [List.length_map, h2.1]
  have hs1 := (e.trans e1) a _ h1
  have h21 := h2.mono (e.trans e1)
  refine ⟨a, rfl, ⟨_, st_of hs1⟩, fun Dl hD => lc_tup (xs := ts.map V.ref) (Cw H1 (fun _ => true) (fun k => f (rs.getD k (0, 0))) Dl) ⟨hD, Ex.new hD, upd_same⟩ (fun k H' _ p => st_of (p.2.1 a _ hs1)) (fun k y H' hi p => ?_) (fun H' p => ?_)⟩
  · obtain ⟨T, r, rfl, hr, hT⟩ := h21.get hi
    have hk : k < rs.length := (List.getElem?_eq_some_iff.mp hr).1
    refine ⟨T, _, rfl, st_of (p.2.1 T _ hT), rfl, _, _, rfl, _, _, rfl, rfl, hw _ _, cw_turn p (by omega) lc_yes (fun _ => ?_)⟩
    rw [getD_row hr]
    exact he r H1 (e.trans e1) (List.mem_of_getElem? hr)
  · rw [e0] at p
    refine q Dl H' (fresh_back e1 p.1) (e1.trans p.2.1) ?_
    rw [p.2.2, given_rows]
/-- all(..) of such a list -/
theorem rc_allR {f : Row → Bool} (h : H p = some (.lst (rs.map fun r => V.bl (f r)))) : RC (rAll K) [.ref p] H (.bl (rs.all f)) := by
  have := rc_all (K := K) (H := H) (p := p) (bs := rs.map f) (sq_of (by rw [List.map_map]; exact h))
  have e2 : (rs.map f).all id = rs.all f := by rw [List.all_map]; rfl
  rw [e2] at this
  exact this

/-! ### what evaluates to a new list of pairs -/
def EvP (te : TE) (σ : L2.St) (H : Hp) (rs : List Row) : Prop := ∀ H1, Ex H H1 → ∀ Q : VK, (∀ p H2, H1 p = none → Ex H1 H2 → RowsL H2 p rs → Q (.ref p) H2) → te σ H1 Q
def SpP (sp : Sp) (vs : List V) (H : Hp) (rs : List Row) : Prop := ∀ H1, Ex H H1 → ∀ Q : VK, (∀ p H2, H1 p = none → Ex H1 H2 → RowsL H2 p rs → Q (.ref p) H2) → ∀ E : XK, sp vs H1 Q E
theorem q_asgP (h : EvP te σ H rs) (k : ∀ p H1, H p = none → Ex H H1 → RowsL H1 p rs → tz D (σ.set i (some (.ref p))) H1) : tSeq (tAsg te (gName i)) tz D σ H := h H (Ex.refl H) _ k
/-- a list whose elements are those of others -/
theorem evp_of {xs : List V} (h : EvL te σ H xs) (hx : ∀ H1, Ex H H1 → ∃ ts, xs = ts.map V.ref ∧ RowsAt H1 ts rs) : EvP te σ H rs := fun H1 e Q q => h H1 e Q fun p H2 hp e2 h2 => by
  obtain ⟨ts, rfl, hr⟩ := hx H2 (e.trans e2)
  exact q p H2 hp e2 ⟨ts, h2, hr⟩
/-- list(rows) -/
theorem evp_list (h : Ev ta σ H (.ref a)) (hs : RowsL H a rs) : EvP (tCB (fun xs H Q => ∃ p ys, xs = [.ref p] ∧ (SqL K H p ys ∨ SqT K H p ys) ∧ ∀ l, H l = none → Q (.ref l) (upd H l (.lst ys))) (tCons ta tNil)) σ H rs := by
  obtain ⟨ts, h1, h2⟩ := hs
  exact evp_of (el_cb (ea_cons h ea_nil) (rc_list (.inl (sq_of h1)))) fun H1 e => ⟨ts, rfl, h2.mono e⟩
/-- rows[::-1] -/
theorem evp_rev (h : Ev ta σ H (.ref a)) (hs : RowsL H a rs) : EvP (tRevL K ta) σ H rs.reverse := fun H1 e Q q => h H1 e _ fun H2 e2 => by
  obtain ⟨ts, h1, h2⟩ := hs
  refine ⟨a, _, rfl, sq_of ((e.trans e2) a _ h1), fun p hp => q p _ (fresh_back e2 hp) (e2.trans (Ex.new hp)) ⟨ts.reverse, by rw [upd_same, List.map_reverse], (h2.mono ((e.trans e2).trans (Ex.new hp))).rev⟩⟩
/-- rows + more -/
theorem evp_cat (ha : Ev ta σ H (.ref a)) (hb : Ev tb σ H (.ref q)) (hs : RowsL H a rs) (hr : RowsL H q ss) (hz : rs.length + ss.length ≤ 100000) : EvP (tOp rCat ta tb) σ H (rs ++ ss) := fun H1 e Q k => ha H1 e _ fun H2 e2 => hb H2 (e.trans e2) _ fun H3 e3 => by
  obtain ⟨ts, h1, h2⟩ := hs
  obtain ⟨us, g1, g2⟩ := hr
  have e03 := (e.trans e2).trans e3
  refine ⟨a, q, _, _, rfl, rfl, e03 a _ h1, e03 q _ g1, sz_of (by rw [List.length_map, List.length_map, h2.1, g2.1]; exact hz), fun p hp => k p _ (fresh_back (e2.trans e3) hp) ((e2.trans e3).trans (Ex.new hp)) ⟨ts ++ us, by rw [upd_same, List.map_append], ?_⟩⟩
  exact (h2.mono (e03.trans (Ex.new hp))).app (g2.mono (e03.trans (Ex.new hp)))
/-- [row] -/
theorem evp_one {r : Row} (h : Ev ta σ H (.ref q)) (hq : H q = some (.tup (rowV r))) : EvP (tLst (tCons ta tNil)) σ H [r] := evp_of (el_lst (ea_cons h ea_nil) (by show 1 ≤ 100000; decide)) fun H1 e => ⟨[q], rfl, .one (e q _ hq)⟩
theorem flat_rep {v : V} : ∀ n : Nat, (List.replicate n [v]).flatten = List.replicate n v
  | 0 => rfl
  | n + 1 => by rw [List.replicate_succ, List.replicate_succ, List.flatten_cons, List.singleton_append, flat_rep n]
/-- [row] * n -/
theorem evp_rep {r : Row} {n : Nat} (h : Ev ta σ H (.ref q)) (hq : H q = some (.tup (rowV r))) (hb : Ev tb σ H (.int (n : Int))) (hn : n ≤ 10000) : EvP (tOp rRep (tLst (tCons ta tNil)) tb) σ H (List.replicate n r) := fun H1 e Q k => by
  refine (el_lst (ea_cons h ea_nil) (by show 1 ≤ 100000; decide)) H1 e _ fun p H2 hp e2 h2 => ?_
  refine hb H2 (e.trans e2) _ fun H3 e3 => ?_
  refine ⟨p, (n : Int), [.ref q], rfl, rfl, e3 p _ h2, by omega, by omega, by rw [Int.toNat_natCast]; exact sz_of (by show 1 * n ≤ 100000; omega), fun u hu => ?_⟩
  refine k u _ (fresh_back (e2.trans e3) hu) ((e2.trans e3).trans (Ex.new hu)) ⟨List.replicate n q, ?_, .rep n (((e.trans e2).trans e3).trans (Ex.new hu) |> fun z => z q _ hq)⟩
  rw [upd_same, Int.toNat_natCast, List.map_replicate]
  rw [flat_rep]
/-- tuple(rows) -/
def EvPU (te : TE) (σ : L2.St) (H : Hp) (rs : List Row) : Prop := ∀ H1, Ex H H1 → ∀ Q : VK, (∀ p H2, H1 p = none → Ex H1 H2 → RowsU H2 p rs → Q (.ref p) H2) → te σ H1 Q
theorem evpu_tuple (h : Ev ta σ H (.ref a)) (hs : RowsL H a rs) : EvPU (tCB (fun xs H Q => ∃ p ys, xs = [.ref p] ∧ ((SqL K H p ys ∧ ∀ l, H l = none → Q (.ref l) (upd H l (.tup ys))) ∨ (SqT K H p ys ∧ Q (.ref p) H))) (tCons ta tNil)) σ H rs := fun H1 e Q q =>
  h H1 e _ fun H2 e2 => by
    obtain ⟨ts, h1, h2⟩ := hs
    exact ⟨a, _, rfl, .inl ⟨sq_of ((e.trans e2) a _ h1), fun l hl => q l _ (fresh_back e2 hl) (e2.trans (Ex.new hl)) ⟨ts, upd_same, h2.mono ((e.trans e2).trans (Ex.new hl))⟩⟩⟩
end G
end
section
set_option maxHeartbeats 2000000
namespace G
open PySem PySem.Spec PyProof.Rows L2 Evl
section
variable {X : Cx} {CX : CXT} {k j : Nat} {f : Addr} {fd : FuncData} {ps ks : List Str} {sp : Sp} {E : XK} {x : Str} {p pos : Pos} {kws : List Keyword} {tk : TA} {g : List Value → List Value → List Value} {gV : List V → List V → List V}
/-- f(k = v, ..) -/
def tCallN0 (j : Nat) (sp : Sp) (gV : List V → List V → List V) (E : XK) (tk : TA) : TE := fun σ H Q => tk σ H fun zs H1 => zs.length = j ∧ sp (gV [] zs) H1 Q E
theorem pe_callN0 (F : FnOk X.prog X.w X.K X.mg X.base CX k f fd ps sp) (hr : Room k X.A) (hg : Gl X x) (hm : X.mg x = some (.ref f)) (hk : PySem.W.keepIn X.K (.ref f) = true) (hb : KBn X.K fd ps 0 ks g gV) (hx : Passes CX X E) (hkw : PK X kws tk)
    (hall : (backToKw pos (keywordEach kws X.env)).all (·.1.isSome) = true := by rfl) (hks : (backToKw pos (keywordEach kws X.env)).filterMap (·.1) = ks := by rfl) (hdb : (x == ("__debug__" : Str)) = false := by decide)
    (hpl : ((backTo pos (starEach [] X.env)).any (·.1) || (backToKw pos (keywordEach kws X.env)).any (·.1.isNone)) = false := by rfl) : PE X (.Call (.Name x p) [] kws pos) (tCallN0 ks.length sp gV E tk) := by
  refine ⟨fun pins s σ H Q I h => wpAny_Call_Name_kw (ld_glob I hg hm ?_ hdb)⟩
  refine PySem.W.callWith_KW0 (first := []) (h₀ := X.base) I.ok.mod.kin hk hall ?_ hpl
  refine thn (hkw.run pos pins s σ H _ I h) fun ws s1 ⟨zs, H1, I1, rz, l1, q1⟩ => ⟨I1.kIn, ?_⟩
  rw [hks]
  exact run_fnN (us := []) (vs := []) F hr hb hx I1 .nil rz rfl l1 q1
end
section
variable {X : Cx} {K : PySem.W.Frag} {tg e : Expr} {te : TE}
theorem piL (hK : X.K = K) (h : PE X e te) : PI X tg e (iList K te) := hK ▸ pi_list h
theorem piT (hK : X.K = K) (h : PE X e te) : PI X tg e (iTup K te) := hK ▸ pi_tup h
end
/-- lcm(a, b) -/
def rLcm : List V → Hp → VK → Prop := fun vs H Q => ∃ a b : Int, vs = [.int a, .int b] ∧ a.natAbs < 18446744073709551616 ∧ b.natAbs < 18446744073709551616 ∧ Q (.int ((Nat.lcm a.natAbs b.natAbs : Nat) : Int)) H
theorem cr_lcm {X : Cx} : CallR X (.builtin "math.lcm") rLcm := by
  intro pins s σ H vs us Q I r h
  obtain ⟨a, b, rfl, ha, hb, q⟩ := h
  obtain ⟨t, u, rfl⟩ := Vals.int2 r
  exact PySem.W.mc_lcm ha hb fun _ => ⟨.int _, H, I.tok _, ⟨_, rfl⟩, q⟩
variable {K : PySem.W.Frag} {σ : L2.St} {H H' : Hp} {ta tb te tl tx tc : TE} {tt : TT} {x y z v w : V} {p a q C dx : Addr} {tA tr tk : TA} {rs ss : List Row} {vs : List Nat} {i j : Nat} {Q : VK} {E : XK} {D : Ends} {tz : TS} {d : PyData} {ds : List PyData} {sp : Sp} {ws zs : List V} {gV : List V → List V → List V} {xs : List V}
theorem rc_lcm {a b : Int} (ha : a.natAbs < 18446744073709551616) (hb : b.natAbs < 18446744073709551616) : RC rLcm [.int a, .int b] H (.int ((Nat.lcm a.natAbs b.natAbs : Nat) : Int)) := fun H1 e Q q => ⟨a, b, rfl, ha, hb, q H1 (Ex.refl _)⟩
theorem ev_callN0 {n : Nat} (h : EvA tk σ H zs) (hn : zs.length = n) (hs : SpV sp (gV [] zs) H z) : Ev (tCallN0 n sp gV E tk) σ H z := fun H1 e Q q => h H1 e _ fun H2 e2 => ⟨hn, hs H2 (e.trans e2) Q (fun H3 e3 => q H3 (e2.trans e3)) E⟩
theorem rv_isN : RV (fun x y H Q => y = .non ∧ Q (.bl (decide (x = .non))) H) x .non H (.bl (decide (x = .non))) := fun H1 _ Q q => ⟨rfl, q H1 (Ex.refl _)⟩
theorem rv_notN : RV (fun x y H Q => y = .non ∧ Q (.bl (!decide (x = .non))) H) x .non H (.bl (!decide (x = .non))) := fun H1 _ Q q => ⟨rfl, q H1 (Ex.refl _)⟩
/-! ### a new instance, as a value -/
/-- what evaluates to an instance of the class at C of which M tells -/
def EvM (te : TE) (σ : L2.St) (H : Hp) (M : Hp → Addr → Prop) : Prop := ∀ H1, Ex H H1 → ∀ Q : VK, (∀ p H2, H1 p = none → Ex H1 H2 → M H2 p → Q (.ref p) H2) → te σ H1 Q
def SpM (sp : Sp) (vs : List V) (H : Hp) (M : Hp → Addr → Prop) : Prop := ∀ H1, Ex H H1 → ∀ Q : VK, (∀ p H2, H1 p = none → Ex H1 H2 → M H2 p → Q (.ref p) H2) → ∀ E : XK, sp vs H1 Q E
theorem q_asgM {M : Hp → Addr → Prop} (h : EvM te σ H M) (k : ∀ p H1, H p = none → Ex H H1 → M H1 p → tz D (σ.set i (some (.ref p))) H1) : tSeq (tAsg te (gName i)) tz D σ H := h H (Ex.refl H) _ k
theorem evm_call {dvs : List V} {M : Hp → Addr → Prop} (ha : EvA tA σ H ws) (hs : SpM sp (ws ++ dvs) H M) : EvM (tCall sp dvs E tA) σ H M := fun H1 e Q q =>
  ha H1 e _ fun H2 e2 => hs H2 (e.trans e2) Q (fun p H3 n3 e3 h3 => q p H3 (fresh_back e2 n3) (e2.trans e3) h3) E
theorem evm_callN0 {n : Nat} {M : Hp → Addr → Prop} (h : EvA tk σ H zs) (hn : zs.length = n) (hs : SpM sp (gV [] zs) H M) : EvM (tCallN0 n sp gV E tk) σ H M := fun H1 e Q q =>
  h H1 e _ fun H2 e2 => ⟨hn, hs H2 (e.trans e2) Q (fun p H3 n3 e3 h3 => q p H3 (fresh_back e2 n3) (e2.trans e3) h3) E⟩
/-! ### data, once more -/
theorem evd_callA {dvs : List V} (h : tA σ H fun ws H1 => Ex H H1 ∧ SpD K sp (ws ++ dvs) H1 d) (hm : ∀ {Q1 Q2 : List V → Hp → Prop}, (∀ x H1, Q1 x H1 → Q2 x H1) → tA σ H Q1 → tA σ H Q2) (k : ∀ v H2, Ex H H2 → Dp K H2 v d → Q v H2) : tCall sp dvs E tA σ H Q :=
  hm (fun ws H1 h => h.2 H1 (Ex.refl _) Q (fun v H2 e2 hv => k v H2 (h.1.trans e2) hv) E) h
def dRow (r : Row) : PyData := .tuple [.int r.1, .int r.2]
def dRows (rs : List Row) : PyData := .list (rs.map dRow)
theorem dp_rowsAt {ts : List Addr} (h : RowsAt H ts rs) : DpAll K H (ts.map V.ref) (rs.map dRow) := by
  obtain ⟨hl, ht⟩ := h
  induction ts generalizing rs with
  | nil =>
    cases rs with
    | nil => exact .nil
    | cons r rs => simp at hl
  | cons T ts ih =>
    cases rs with
    | nil => simp at hl
    | cons r rs =>
      exact .cons (.tup (st_of (ht 0 T r rfl rfl)) (.cons (.int _) (.cons (.int _) .nil))) (ih (by simpa using hl) fun j U s a b => ht (j + 1) U s (by simpa using a) (by simpa using b))
theorem dp_rowsL (h : RowsL H a rs) : Dp K H (.ref a) (dRows rs) := let ⟨ts, h1, h2⟩ := h; .lst (sq_of h1) (dp_rowsAt h2)
theorem dp_rowsU (h : RowsU H a rs) : Dp K H (.ref a) (.tuple (rs.map dRow)) := let ⟨ts, h1, h2⟩ := h; .tup (st_of h1) (dp_rowsAt h2)
theorem evd_eqD {d e : PyData} (ha : EvD K ta σ H d) (hb : EvD K tb σ H e) (h1 : SeqAt.shaped d = true) (h2 : SeqAt.shaped e = true) : Ev (tOp (rEqD K) ta tb) σ H (.bl (PyData.eqv d e)) := fun H1 e1 Q q =>
  ha H1 e1 _ fun v H2 e2 hv => hb H2 (e1.trans e2) _ fun u H3 e3 hu => ⟨_, _, dp_mono e3 hv, hu, h1, h2, q H3 (e2.trans e3)⟩
theorem evd_neD {d e : PyData} (ha : EvD K ta σ H d) (hb : EvD K tb σ H e) (h1 : SeqAt.shaped d = true) (h2 : SeqAt.shaped e = true) : Ev (tOp (rNeD K) ta tb) σ H (.bl (!PyData.eqv d e)) := fun H1 e1 Q q =>
  ha H1 e1 _ fun v H2 e2 hv => hb H2 (e1.trans e2) _ fun u H3 e3 hu => ⟨_, _, dp_mono e3 hv, hu, h1, h2, q H3 (e2.trans e3)⟩
end G
end
section
set_option maxHeartbeats 2000000
namespace K16
open PySem L2
def top (i : Nat) : Stmt := PySem.Challenge.pw_leadrules_k16_whole_rules_through_rows.main.body.getD i (.Pass ⟨0, 0, 0, 0⟩)
abbrev s__wall : Stmt := (top 1)
abbrev s_is_day : Stmt := (top 3)
theorem sc_is_day : FnScope ["value"] ["value"] (defScope s_is_day) := ⟨rfl, rfl, rfl, by decide +kernel, rfl, by decide +kernel, by decide +kernel⟩
abbrev s_is_count : Stmt := (top 4)
theorem sc_is_count : FnScope ["value"] ["value"] (defScope s_is_count) := ⟨rfl, rfl, rfl, by decide +kernel, rfl, by decide +kernel, by decide +kernel⟩
abbrev s_InvalidDay___init__ : Stmt := (inClass (top 7) 0)
abbrev s_InvalidCount___init__ : Stmt := (inClass (top 8) 0)
abbrev s_InvalidRows___init__ : Stmt := (inClass (top 9) 0)
abbrev s_InvalidTable___init__ : Stmt := (inClass (top 10) 0)
abbrev s_TooMany___init__ : Stmt := (inClass (top 12) 0)
abbrev s_need_day : Stmt := (top 14)
theorem sc_need_day : FnScope ["value"] ["value"] (defScope s_need_day) := ⟨rfl, rfl, rfl, by decide +kernel, rfl, by decide +kernel, by decide +kernel⟩
abbrev s_need_length : Stmt := (top 15)
theorem sc_need_length : FnScope ["value"] ["value"] (defScope s_need_length) := ⟨rfl, rfl, rfl, by decide +kernel, rfl, by decide +kernel, by decide +kernel⟩
abbrev s_is_list : Stmt := (top 16)
theorem sc_is_list : FnScope ["value"] ["value"] (defScope s_is_list) := ⟨rfl, rfl, rfl, by decide +kernel, rfl, by decide +kernel, by decide +kernel⟩
abbrev s_is_row_of_days : Stmt := (top 17)
theorem sc_is_row_of_days : FnScope ["value"] ["value"] (defScope s_is_row_of_days) := ⟨rfl, rfl, rfl, by decide +kernel, rfl, by decide +kernel, by decide +kernel⟩
abbrev s_Table___init__ : Stmt := (inClass (top 19) 2)
theorem sc_Table___init__ : FnScope ["self", "days"] ["self", "days"] (defScope s_Table___init__) := ⟨rfl, rfl, rfl, by decide +kernel, rfl, by decide +kernel, by decide +kernel⟩
abbrev s_Table_length : Stmt := (inClass (top 19) 3)
theorem sc_Table_length : FnScope ["self"] ["self"] (defScope s_Table_length) := ⟨rfl, rfl, rfl, by decide +kernel, rfl, by decide +kernel, by decide +kernel⟩
abbrev s_Table_days : Stmt := (inClass (top 19) 4)
theorem sc_Table_days : FnScope ["self"] ["self"] (defScope s_Table_days) := ⟨rfl, rfl, rfl, by decide +kernel, rfl, by decide +kernel, by decide +kernel⟩
abbrev s_Table_asked_rows : Stmt := (inClass (top 19) 5)
abbrev s_Table_on : Stmt := (inClass (top 19) 6)
theorem sc_Table_on : FnScope ["self", "day", "turns", "place"] ["self", "day"] (defScope s_Table_on) := ⟨rfl, rfl, rfl, by decide +kernel, rfl, by decide +kernel, by decide +kernel⟩
abbrev s_Table___call__ : Stmt := (inClass (top 19) 7)
abbrev s_Table_by : Stmt := (inClass (top 19) 8)
abbrev s_Table_til : Stmt := (inClass (top 19) 9)
abbrev s_Table_answers : Stmt := (inClass (top 19) 10)
abbrev s_Table_is_served : Stmt := (inClass (top 19) 11)
abbrev s_Table_leads : Stmt := (inClass (top 19) 12)
abbrev s_Table_mean_lead : Stmt := (inClass (top 19) 13)
abbrev s_Table_fixed_days : Stmt := (inClass (top 19) 14)
abbrev s_Table_moved : Stmt := (inClass (top 19) 15)
abbrev s_Table_asked_later : Stmt := (inClass (top 19) 16)
abbrev s_Table_by_table : Stmt := (inClass (top 19) 17)
abbrev s_Table_til_table : Stmt := (inClass (top 19) 18)
abbrev s_Table_stretched : Stmt := (inClass (top 19) 19)
abbrev s_Table_shortest : Stmt := (inClass (top 19) 20)
abbrev s_Table_plain : Stmt := (inClass (top 19) 21)
abbrev s_Table_is_same : Stmt := (inClass (top 19) 22)
abbrev s_Table___eq__ : Stmt := (inClass (top 19) 23)
theorem sc_Table___eq__ : FnScope ["self", "other"] ["self", "other"] (defScope s_Table___eq__) := ⟨rfl, rfl, rfl, by decide +kernel, rfl, by decide +kernel, by decide +kernel⟩
abbrev s_Table___repr__ : Stmt := (inClass (top 19) 24)
abbrev s_is_table : Stmt := (top 20)
theorem sc_is_table : FnScope ["value", "rises", "day", "place"] ["value"] (defScope s_is_table) := ⟨rfl, rfl, rfl, by decide +kernel, rfl, by decide +kernel, by decide +kernel⟩
abbrev s_first_above : Stmt := (top 22)
theorem sc_first_above : FnScope ["table", "other_table", "day"] ["table", "other_table"] (defScope s_first_above) := ⟨rfl, rfl, rfl, by decide +kernel, rfl, by decide +kernel, by decide +kernel⟩
abbrev s_earliest_with : Stmt := (top 23)
theorem sc_earliest_with : FnScope ["count", "rows", "day", "row"] ["count", "rows"] (defScope s_earliest_with) := ⟨rfl, rfl, rfl, by decide +kernel, rfl, by decide +kernel, by decide +kernel⟩
abbrev s_latest_with : Stmt := (top 24)
theorem sc_latest_with : FnScope ["count", "rows", "day", "row"] ["count", "rows"] (defScope s_latest_with) := ⟨rfl, rfl, rfl, by decide +kernel, rfl, by decide +kernel, by decide +kernel⟩
abbrev s__common_length : Stmt := (top 25)
theorem sc__common_length : FnScope ["table", "other_table", "length"] ["table", "other_table"] (defScope s__common_length) := ⟨rfl, rfl, rfl, by decide +kernel, rfl, by decide +kernel, by decide +kernel⟩
abbrev s__need_rows : Stmt := (top 26)
theorem sc__need_rows : FnScope ["count", "rows", "row"] ["count", "rows"] (defScope s__need_rows) := ⟨rfl, rfl, rfl, by decide +kernel, rfl, by decide +kernel, by decide +kernel⟩
abbrev s__row_ahead : Stmt := (top 27)
theorem sc__row_ahead : FnScope ["row", "day", "length", "asked", "served"] ["row", "day", "length"] (defScope s__row_ahead) := ⟨rfl, rfl, rfl, by decide +kernel, rfl, by decide +kernel, by decide +kernel⟩
abbrev s__row_behind : Stmt := (top 28)
theorem sc__row_behind : FnScope ["row", "day", "length", "asked", "served"] ["row", "day", "length"] (defScope s__row_behind) := ⟨rfl, rfl, rfl, by decide +kernel, rfl, by decide +kernel, by decide +kernel⟩
abbrev s__serving : Stmt := (top 29)
theorem sc__serving : FnScope ["days", "rows", "table", "asked", "served"] ["days", "rows"] (defScope s__serving) := ⟨rfl, rfl, rfl, by decide +kernel, rfl, by decide +kernel, by decide +kernel⟩
abbrev s__law_pot : Stmt := (top 31)
theorem sc__law_pot : FnScope ["_law_script", "_law_k", "_law_cell"] ["_law_script", "_law_k"] (defScope s__law_pot) := ⟨rfl, rfl, rfl, by decide +kernel, rfl, by decide +kernel, by decide +kernel⟩
abbrev s__law_draw : Stmt := (top 32)
theorem sc__law_draw : FnScope ["_law_pot_here", "_law_size", "_law_digit"] ["_law_pot_here", "_law_size"] (defScope s__law_draw) := ⟨rfl, rfl, rfl, by decide +kernel, rfl, by decide +kernel, by decide +kernel⟩
abbrev s__law_pick : Stmt := (top 33)
theorem sc__law_pick : FnScope ["_law_pot_here", "_law_some"] ["_law_pot_here", "_law_some"] (defScope s__law_pick) := ⟨rfl, rfl, rfl, by decide +kernel, rfl, by decide +kernel, by decide +kernel⟩
abbrev s__law_days : Stmt := (top 34)
theorem sc__law_days : FnScope ["_law_pot_here", "_law_length", "_law_first", "_law_days_here", "_law_left", "_law_turn", "_law_step"] ["_law_pot_here", "_law_length", "_law_first"] (defScope s__law_days) := ⟨rfl, rfl, rfl, by decide +kernel, rfl, by decide +kernel, by decide +kernel⟩
abbrev s__law_on : Stmt := (top 35)
theorem sc__law_on : FnScope ["_law_days_here", "_law_day", "_law_part"] ["_law_days_here", "_law_day"] (defScope s__law_on) := ⟨rfl, rfl, rfl, by decide +kernel, rfl, by decide +kernel, by decide +kernel⟩
abbrev s__law_by : Stmt := (top 36)
abbrev s__law_til : Stmt := (top 37)
abbrev s__law_early : Stmt := (top 38)
theorem sc__law_early : FnScope ["_law_length", "_law_row", "_law_day"] ["_law_length", "_law_row", "_law_day"] (defScope s__law_early) := ⟨rfl, rfl, rfl, by decide +kernel, rfl, by decide +kernel, by decide +kernel⟩
abbrev s__law_late : Stmt := (top 39)
theorem sc__law_late : FnScope ["_law_length", "_law_row", "_law_day"] ["_law_length", "_law_row", "_law_day"] (defScope s__law_late) := ⟨rfl, rfl, rfl, by decide +kernel, rfl, by decide +kernel, by decide +kernel⟩
abbrev s__law_is_kept : Stmt := (top 40)
theorem sc__law_is_kept : FnScope ["_law_length", "_law_rows", "_law_row", "_law_other"] ["_law_length", "_law_rows"] (defScope s__law_is_kept) := ⟨rfl, rfl, rfl, by decide +kernel, rfl, by decide +kernel, by decide +kernel⟩
abbrev s__law_told : Stmt := (top 41)
theorem sc__law_told : FnScope ["_law_table"] ["_law_table"] (defScope s__law_told) := ⟨rfl, rfl, rfl, by decide +kernel, rfl, by decide +kernel, by decide +kernel⟩
abbrev s__law_due : Stmt := (top 42)
theorem sc__law_due : FnScope ["_law_length", "_law_rows", "_law_early_here", "_law_late_here", "_law_day", "_law_row"] ["_law_length", "_law_rows"] (defScope s__law_due) := ⟨rfl, rfl, rfl, by decide +kernel, rfl, by decide +kernel, by decide +kernel⟩
abbrev s__law_pair_right : Stmt := (top 43)
theorem sc__law_pair_right : FnScope ["_law_length", "_law_rows", "_law_due_here", "_law_passed", "_law_told_here"] ["_law_length", "_law_rows"] (defScope s__law_pair_right) := ⟨rfl, rfl, rfl, by decide +kernel, rfl, by decide +kernel, by decide +kernel⟩
abbrev s__law_read : Stmt := (top 44)
theorem sc__law_read : FnScope ["_law_pot_here", "_law_days_here", "_law_many", "_law_rows", "_law_turn", "_law_asked"] ["_law_pot_here", "_law_days_here", "_law_many"] (defScope s__law_read) := ⟨rfl, rfl, rfl, by decide +kernel, rfl, by decide +kernel, by decide +kernel⟩
abbrev s__law_between : Stmt := (top 45)
theorem sc__law_between : FnScope ["_law_pot_here", "_law_early_here", "_law_late_here", "_law_length", "_law_found", "_law_day", "_law_least", "_law_most"] ["_law_pot_here", "_law_early_here", "_law_late_here", "_law_length"] (defScope s__law_between) := ⟨rfl, rfl, rfl, by decide +kernel, rfl, by decide +kernel, by decide +kernel⟩
abbrev s__law_hidden_right : Stmt := (top 46)
theorem sc__law_hidden_right : FnScope ["_law_pot_here", "_law_days_here", "_law_rows", "_law_length", "_law_early_here", "_law_late_here", "_law_table", "_law_hidden", "_law_drawn", "_law_more", "_law_nearer", "_law_farther", "_law_row", "_law_at"] ["_law_pot_here", "_law_days_here", "_law_rows"] (defScope s__law_hidden_right) := ⟨rfl, rfl, rfl, by decide +kernel, rfl, by decide +kernel, by decide +kernel⟩
abbrev s__law_ends_right : Stmt := (top 47)
theorem sc__law_ends_right : FnScope ["_law_pot_here", "_law_days_here", "_law_length", "_law_first", "_law_rows", "_law_row", "_law_at"] ["_law_pot_here", "_law_days_here"] (defScope s__law_ends_right) := ⟨rfl, rfl, rfl, by decide +kernel, rfl, by decide +kernel, by decide +kernel⟩
abbrev s__law_right : Stmt := (top 48)
theorem sc__law_right : FnScope ["_law_pot_here", "_law_length", "_law_days_here", "_law_rows", "_law_at", "_law_spoilt", "_law_free", "_law_turn"] ["_law_pot_here"] (defScope s__law_right) := ⟨rfl, rfl, rfl, by decide +kernel, rfl, by decide +kernel, by decide +kernel⟩
abbrev s_law : Stmt := (top 49)
theorem sc_law : FnScope ["_law_script", "_law_k"] ["_law_script"] (defScope s_law) := ⟨rfl, rfl, rfl, by decide +kernel, rfl, by decide +kernel, by decide +kernel⟩
end K16
end
section
set_option maxHeartbeats 4000000
namespace K16
open PySem L2 Evl G TM
structure Txt (K : PySem.W.Frag) (mg : Str → Option Value) (C : Addr) : Prop where
  cl : Cls K C
  nD : NoAttr K C "_days"
  kc : PySem.W.keepIn K (.ref C) = true
  mki : PySem.W.makesIn K C = true
  mg_Table : mg "Table" = some (.ref C)
  ne : PySem.W.findIn K (.ref C) "__ne__" = some (some (.builtin "object.__ne__"))
  mo : PySem.W.mroIn K C (.type "object") = some true
  tyC : ∀ (H : Hp) (a dx : Addr) (fs : List (Str × V)), H a = some (.ins C dx fs) → TyOf K H (.ref a) (.ref C)
  cM : ∃ (mc : Value) (tk : Tok), ClX.CRead K C mc ∧ ClX.CVal K C mc "MOST_LENGTH" (.int 600) (.int 600 tk)
  b_isinstance : mg "isinstance" = none
  b_int : mg "int" = none
  b_bool : mg "bool" = none
  b_list : mg "list" = none
  b_tuple : mg "tuple" = none
  b_len : mg "len" = none
  b_range : mg "range" = none
  b_divmod : mg "divmod" = none
  b_min : mg "min" = none
  b_max : mg "max" = none
  b_all : mg "all" = none
  b_abs : mg "abs" = none
  b_repr : mg "repr" = none
  b_lcm : mg "lcm" = some (.builtin "math.lcm")
structure Cal (P : Program) (w : World) (K : PySem.W.Frag) (mg : Str → Option Value) (base : Heap) (x : Str) (f : Addr) (fd : FuncData) (ps : List Str) (k : Nat) (sp : Sp) : Prop where
  ok : FnOk P w K mg base CX0 k f fd ps sp
  mgx : mg x = some (.ref f)
  kp : PySem.W.keepIn K (.ref f) = true
  bd : Binds K fd ps []
structure CalG (P : Program) (w : World) (K : PySem.W.Frag) (mg : Str → Option Value) (base : Heap) (x : Str) (f : Addr) (fd : FuncData) (ps : List Str) (k : Nat) (sp : Sp) : Prop where
  ok : FnG P w K mg base CX0 k f fd ps sp
  mgx : mg x = some (.ref f)
  kp : PySem.W.keepIn K (.ref f) = true
  bd : Binds K fd ps []
structure Met (P : Program) (w : World) (K : PySem.W.Frag) (mg : Str → Option Value) (base : Heap) (C : Addr) (m : Str) (f : Addr) (fd : FuncData) (ps : List Str) (k : Nat) (sp : Sp) : Prop where
  ok : FnOk P w K mg base CX0 k f fd ps sp
  me : Meth K C m f
  bd : Binds K fd ps []
structure Prp (P : Program) (w : World) (K : PySem.W.Frag) (mg : Str → Option Value) (base : Heap) (C : Addr) (m : Str) (p f : Addr) (fd : FuncData) (ps : List Str) (k : Nat) (sp : Sp) : Prop where
  ok : FnOk P w K mg base CX0 k f fd ps sp
  pr : PropOf K C m p f
  bd : Binds K fd ps []
structure MetG (P : Program) (w : World) (K : PySem.W.Frag) (mg : Str → Option Value) (base : Heap) (C : Addr) (m : Str) (f : Addr) (fd : FuncData) (ps : List Str) (k : Nat) (sp : Sp) : Prop where
  ok : FnG P w K mg base CX0 k f fd ps sp
  at_ : PySem.W.findIn K (.ref C) m = some (some (.ref f))
  fn : PySem.W.isFn K (.ref f) = true
  bd : Binds K fd ps []
def Tab (K : PySem.W.Frag) (C : Addr) (H : Hp) (p : Addr) (ns : List Int) : Prop := ∃ dx l, H p = some (.ins C dx [("_days", .ref l)]) ∧ SqL K H l (ns.map V.int)
theorem Tab.mono {K : PySem.W.Frag} {C p : Addr} {H H' : Hp} {ns : List Int} (e : Ex H H') (h : Tab K C H p ns) : Tab K C H' p ns := let ⟨dx, l, h1, h2⟩ := h; ⟨dx, l, e p _ h1, ex_l e h2⟩
/-! ### the promises -/
def sp_is_day : Sp := fun vs H Q _ => ∃ i, vs = [.int i] ∧ RetV (.bl true) H Q
def sp_is_count : Sp := fun vs H Q _ => ∃ i, vs = [.int i] ∧ RetV (.bl (decide (0 ≤ i))) H Q
def sp_need_day : Sp := fun vs H Q _ => ∃ i, vs = [.int i] ∧ RetV .non H Q
theorem spv_is_day {i : Int} {H : Hp} : SpV sp_is_day ([.int i] ++ []) H (.bl true) := fun H1 _ Q q E => ⟨i, rfl, q⟩
theorem spv_is_count {i : Int} {H : Hp} : SpV sp_is_count ([.int i] ++ []) H (.bl (decide (0 ≤ i))) := fun H1 _ Q q E => ⟨i, rfl, q⟩
theorem spv_need_day {i : Int} {H : Hp} : SpV sp_need_day ([.int i] ++ []) H .non := fun H1 _ Q q E => ⟨i, rfl, q⟩
section
variable {P : Program} {w : World} {K : PySem.W.Frag} {mg : Str → Option Value} {base : Heap} {C : Addr}
theorem ev_isiB {σ : L2.St} {H : Hp} {ta : TE} {x : V} {t : String} {n : String} {b : Bool} (h : Ev ta σ H x) (ty : ∀ H1, Ex H H1 → TyX K H1 x (.type t)) (hb : kitB t n = some b) :
    Ev (tCB (rIsi K) (tCons ta (tCons (tC (.ty n)) tNil))) σ H (.bl b) := ev_cb (ea_cons h (ea_cons ev_c ea_nil)) (rc_isi (.ty n) ty (kit_ty hb))
theorem ok_is_day {f : Addr} {fd : FuncData} (F : Fun K "is_day" "is_day" s_is_day f fd) (T : Txt K mg C) : FnOk P w K mg base CX0 1 f fd ["value"] sp_is_day := by
  refine F.ok sc_is_day (fun vs H Q E h => ?_) (fun cdv A outer s H vs Q E hr h => ?_)
  · obtain ⟨i, rfl, _⟩ := h
    rfl
  · obtain ⟨i, rfl, k⟩ := h
    refine ⟨_, (pss_one (ps_ret (pe_and (pe_callB call_isi (by rfl) T.b_isinstance (by decide +kernel) (pa_cons (pv 0) (pa_cons (pe_bltn (v := .ty "int") (u := .type "int") (by rfl) T.b_int (by decide +kernel) rfl) pa_nil))) (pe_one (pe_not (pe_callB call_isi (by rfl) T.b_isinstance (by decide +kernel) (pa_cons (pv 0) (pa_cons (pe_bltn (v := .ty "bool") (u := .type "bool") (by rfl) T.b_bool (by decide +kernel) rfl) pa_nil)))))))), ?_⟩
    refine s_ret (ev_andV (b := true) (ev_isiB (b := true) (ev_var rfl) (fun _ _ => .base (.int i)) (by decide +kernel)) fun _ => ev_notV (a := false) (ev_isiB (b := false) (ev_var rfl) (fun _ _ => .base (.int i)) (by decide +kernel))) fun H1 e => k H1 e
theorem ok_is_count {f f1 : Addr} {fd fd1 : FuncData} (F : Fun K "is_count" "is_count" s_is_count f fd) (T : Txt K mg C) (c_is_day : Cal P w K mg base "is_day" f1 fd1 ["value"] 1 sp_is_day) : FnOk P w K mg base CX0 2 f fd ["value"] sp_is_count := by
  refine F.ok sc_is_count (fun vs H Q E h => ?_) (fun cdv A outer s H vs Q E hr h => ?_)
  · obtain ⟨i, rfl, _⟩ := h
    rfl
  · obtain ⟨i, rfl, k⟩ := h
    refine ⟨_, (pss_one (ps_ret (pe_and (pe_call c_is_day.ok (hr.mono (by decide)) (by rfl) c_is_day.mgx c_is_day.kp c_is_day.bd .nil pass0 (pa_cons (pv 0) pa_nil)) (pe_one (pe_cmpR op_ge (pv 0) pe_int (nomark _)))))), ?_⟩
    exact s_ret (ev_andV (ev_call (ea_cons (ev_var rfl) ea_nil) spv_is_day) fun _ => ev_op (ev_var rfl) ev_c rv_I0) fun H1 e => k H1 e
theorem ok_need_day {f f1 : Addr} {fd fd1 : FuncData} (F : Fun K "need_day" "need_day" s_need_day f fd) (T : Txt K mg C) (c_is_day : Cal P w K mg base "is_day" f1 fd1 ["value"] 1 sp_is_day) : FnOk P w K mg base CX0 2 f fd ["value"] sp_need_day := by
  refine F.ok sc_need_day (fun vs H Q E h => ?_) (fun cdv A outer s H vs Q E hr h => ?_)
  · obtain ⟨i, rfl, _⟩ := h
    rfl
  · obtain ⟨i, rfl, k⟩ := h
    refine ⟨_, (pss_one (ps_if (pt_not (pt_val (pe_call c_is_day.ok (hr.mono (by decide)) (by rfl) c_is_day.mgx c_is_day.kp c_is_day.bd .nil pass0 (pa_cons (pv 0) pa_nil)))) (pss_one ps_never) pss_nil)), ?_⟩
    exact s_when (et_not (et_B (ev_call (ea_cons (ev_var rfl) ea_nil) spv_is_day))) (fun h => by cases h) fun _ H1 e => k H1 e
end
def Seq (K : PySem.W.Frag) (H : Hp) (p : Addr) (xs : List V) : Prop := SqL K H p xs ∨ SqT K H p xs
/-- a list or tuple that is tracked as itself (its type is known) -/
def SeqT (K : PySem.W.Frag) (H : Hp) (p : Addr) (xs : List V) : Prop := H p = some (.lst xs) ∨ H p = some (.tup xs)
theorem SeqT.seq {K : PySem.W.Frag} {H : Hp} {p : Addr} {xs : List V} (h : SeqT K H p xs) : Seq K H p xs := h.imp sq_of st_of
theorem SeqT.mono {K : PySem.W.Frag} {H H' : Hp} {p : Addr} {xs : List V} (e : Ex H H') (h : SeqT K H p xs) : SeqT K H' p xs := h.imp (e p _) (e p _)
def sp_is_list (K : PySem.W.Frag) : Sp := fun vs H Q _ => ∃ p xs, vs = [.ref p] ∧ SeqT K H p xs ∧ RetV (.bl true) H Q
theorem spv_is_list {K : PySem.W.Frag} {p : Addr} {xs : List V} {H : Hp} (h : SeqT K H p xs) : SpV (sp_is_list K) ([.ref p] ++ []) H (.bl true) := fun H1 e Q q E => ⟨p, xs, rfl, h.mono e, q⟩
def sp_is_table (K : PySem.W.Frag) : Sp := fun vs H Q _ => ∃ p ns, vs = [.ref p] ∧ SeqT K H p (ns.map V.int) ∧ Good ns ∧ RetV (.bl true) H Q
theorem spv_is_table {K : PySem.W.Frag} {p : Addr} {ns : List Int} {H : Hp} (h : SeqT K H p (ns.map V.int)) (g : Good ns) : SpV (sp_is_table K) ([.ref p] ++ []) H (.bl true) := fun H1 e Q q E => ⟨p, ns, rfl, h.mono e, g, q⟩
def sp_init (K : PySem.W.Frag) (C : Addr) : Sp := fun vs H Q _ => ∃ x dx p ns, vs = [.ref x, .ref p] ∧ H x = some (.ins C dx []) ∧ SeqT K H p (ns.map V.int) ∧ Good ns ∧
  ∀ l H', (∀ b o, H b = some o → b ≠ x → H' b = some o) → H' x = some (.ins C dx [("_days", .ref l)]) → H' l = some (.lst (ns.map V.int)) → H l = none → Q .non H'
structure Ini (P : Program) (w : World) (K : PySem.W.Frag) (mg : Str → Option Value) (base : Heap) (C : Addr) (f : Addr) (fd : FuncData) : Prop where
  ok : FnOk P w K mg base CX0 3 f fd ["self", "days"] (sp_init K C)
  bd : Binds K fd ["self", "days"] []
theorem getI {ns : List Int} {i : Nat} (h : i < ns.length) : (ns.map V.int)[i]? = some (.int (ns.getD i 0)) := by
  rw [List.getElem?_map, List.getElem?_eq_getElem h, List.getD_eq_getElem?_getD, List.getElem?_eq_getElem h] <;> rfl
theorem atI_get {xs : List V} {i : Nat} {v : V} (h : xs[i]? = some v) : atI xs (i : Int) = some v := atI_nat h
theorem atI_int {ns : List Int} {i : Int} (h0 : 0 ≤ i) (h : i < (ns.length : Int)) : atI (ns.map V.int) i = some (.int (ns.getD i.toNat 0)) := by
  obtain ⟨k, rfl⟩ : ∃ k : Nat, i = (k : Int) := ⟨i.toNat, by omega⟩
  rw [Int.toNat_natCast]
  exact atI_nat (getI (by omega))
theorem atI_m1 {ns : List Int} (h : 1 ≤ ns.length) : atI (ns.map V.int) (-1) = some (.int (ns.getD (ns.length - 1) 0)) := by
  have e : ns.map V.int = (ns.dropLast).map V.int ++ [.int (ns.getD (ns.length - 1) 0)] := by
    have hne : ns ≠ [] := by intro q; subst q; simp at h
    conv => lhs; rw [← List.dropLast_concat_getLast hne]
    rw [List.map_append, List.getLast_eq_getElem, List.getD_eq_getElem?_getD, List.getElem?_eq_getElem (by omega)] <;> rfl
  rw [e]
  exact atI_last _ _
section
variable {P : Program} {w : World} {K : PySem.W.Frag} {mg : Str → Option Value} {base : Heap} {C : Addr}
theorem ok_is_list {f : Addr} {fd : FuncData} (F : Fun K "is_list" "is_list" s_is_list f fd) (T : Txt K mg C) : FnOk P w K mg base CX0 1 f fd ["value"] (sp_is_list K) := by
  refine F.ok sc_is_list (fun vs H Q E h => ?_) (fun cdv A outer s H vs Q E hr h => ?_)
  · obtain ⟨p, xs, rfl, _⟩ := h
    rfl
  · obtain ⟨p, xs, rfl, hs, k⟩ := h
    refine ⟨_, (pss_one (ps_ret (pe_callB call_isiT (by rfl) T.b_isinstance (by decide +kernel) (pa_cons (pv 0) (pa_cons (pe_tup (pa_cons (pe_bltn (v := .ty "list") (u := .type "list") (by rfl) T.b_list (by decide +kernel) rfl) (pa_cons (pe_bltn (v := .ty "tuple") (u := .type "tuple") (by rfl) T.b_tuple (by decide +kernel) rfl) pa_nil))) pa_nil))))), ?_⟩
    rcases hs with hs | hs
    · refine ⟨_, rfl, by decide, fun t ht => ?_⟩
      refine ⟨.ref p, t, [.ty "list", .ty "tuple"], .type "list", [.type "list", .type "tuple"], true, rfl, upd_same, .cons (.ty _) (.cons (.ty _) .nil), .base (.lst (by rw [upd_ne (ne_of_none hs ht)]; exact hs)), kitAny_cons (b := true) (kit_ty (by decide +kernel)) (fun h => nomatch h) (fun _ => rfl), k _ (Ex.new ht)⟩
    · refine ⟨_, rfl, by decide, fun t ht => ?_⟩
      refine ⟨.ref p, t, [.ty "list", .ty "tuple"], .type "tuple", [.type "list", .type "tuple"], true, rfl, upd_same, .cons (.ty _) (.cons (.ty _) .nil), .base (.tup (by rw [upd_ne (ne_of_none hs ht)]; exact hs)), kitAny_cons (b := false) (kit_ty (by decide +kernel)) (fun _ => kitAny_cons (b := true) (kit_ty (by decide +kernel)) (fun h => nomatch h) (fun _ => rfl)) (fun h => nomatch h), k _ (Ex.new ht)⟩
/-- range(n) of a comprehension that keeps all -/
theorem given_all {n : Nat} {v : Nat → V} : given n (fun _ => true) v = (List.range n).map v := by
  unfold given
  rw [List.filter_eq_self.mpr (fun _ _ => rfl)]
theorem lc_true {σ : L2.St} {H : Hp} : EvT tYes σ H true := fun H1 _ _ q => q H1 (Ex.refl _)
theorem all_map_true {n : Nat} {f : Nat → Bool} (h : ∀ i, i < n → f i = true) : ((List.range n).map f).all id = true := by
  rw [List.all_map, List.all_eq_true]
  exact fun i hi => h i (List.mem_range.mp hi)
theorem rv_res {r : R2} {x y z z' : V} {H : Hp} (h : RV r x y H z) (e : z = z') : RV r x y H z' := e ▸ h
theorem ev_glob {σ : L2.St} {H : Hp} {v : V} : Ev (tC v) σ H v := ev_c
theorem ev_const {σ : L2.St} {H : Hp} {mc : Value} {f : Str} {v : V} {u : Value} {te : TE} (h : Ev te σ H (.ref C)) (r : ClX.CRead K C mc) (k : ClX.CVal K C mc f v u) : Ev (ClX.tCVal K te f) σ H v := fun H1 e Q q =>
  h H1 e _ fun H2 e2 => ⟨C, mc, v, u, rfl, r, k, q H2 e2⟩
theorem ok_is_table {f f1 f2 : Addr} {fd fd1 fd2 : FuncData} (F : Fun K "is_table" "is_table" s_is_table f fd) (T : Txt K mg C) (c_is_list : Cal P w K mg base "is_list" f1 fd1 ["value"] 1 (sp_is_list K)) (c_is_day : Cal P w K mg base "is_day" f2 fd2 ["value"] 1 sp_is_day) :
    FnOk P w K mg base CX0 2 f fd ["value"] (sp_is_table K) := by
  refine F.ok sc_is_table (fun vs H Q E h => ?_) (fun cdv A outer s H vs Q E hr h => ?_)
  · obtain ⟨p, ns, rfl, _⟩ := h
    rfl
  · obtain ⟨p, ns, rfl, hs, g, k⟩ := h
    obtain ⟨mc, tkq, rd, cv⟩ := T.cM
    have hgp := g.pos
    have hgm := g.most
    rcases hs with hs | hs
    · have hq := sq_of (K := K) hs
      refine ⟨_, (pss_cons (ps_if (PW.pt (pw_or (pt_not (pt_val (pe_call c_is_list.ok (hr.mono (by decide)) (by rfl) c_is_list.mgx c_is_list.kp c_is_list.bd .nil pass0 (pa_cons (pv 0) pa_nil)))) (pw_or1 (pt_not (pt_chain op_le op_le pe_int (pe_callB (lenS (K := K) rfl) (by rfl) T.b_len (by decide +kernel) (pa_cons (pv 0) pa_nil)) (ClX.pe_cval (pe_glob (v := .ref C) rfl T.mg_Table rfl))))))) (pss_one (ps_ret pe_bl)) pss_nil) (pss_cons (ps_if (pt_not (pt_val (pe_callB (allL (K := K) rfl rfl) (by rfl) T.b_all (by decide +kernel) (pa_cons (pe_lc (own := [("day", 2)]) (g := (gName 2)) (by rfl) sc_is_table.nd (piL (K := K) rfl (pv 0)) (blkOk_by (own := [("day", 2)]) (N := ["value", "rises", "day", "place"]) (sc := defScope s_is_table) (by decide +kernel)) (fun _ _ _ _ _ => (pg_name (i := 2) sc_is_table.nd rfl (Or.inl rfl))) (fun _ _ _ _ _ => pts_nil) (fun _ _ _ _ _ => (pe_call c_is_day.ok (hr.mono (by decide)) (by rfl) c_is_day.mgx c_is_day.kp c_is_day.bd .nil pass0 (pa_cons (pv 2) pa_nil)))) pa_nil)))) (pss_one (ps_ret pe_bl)) pss_nil) (pss_cons (ps_set (i := 1) sc_is_table.nd rfl (Or.inl rfl) (pe_callB (allL (K := K) rfl rfl) (by rfl) T.b_all (by decide +kernel) (pa_cons (pe_lc (own := [("place", 3)]) (g := (gName 3)) (by rfl) sc_is_table.nd (pi_range1 (by rfl) T.b_range (pa_cons (pe_op op_sub (pe_callB (lenS (K := K) rfl) (by rfl) T.b_len (by decide +kernel) (pa_cons (pv 0) pa_nil)) pe_int) pa_nil)) (blkOk_by (own := [("place", 3)]) (N := ["value", "rises", "day", "place"]) (sc := defScope s_is_table) (by decide +kernel)) (fun _ _ _ _ _ => (pg_name (i := 3) sc_is_table.nd rfl (Or.inl rfl))) (fun _ _ _ _ _ => pts_nil) (fun _ _ _ _ _ => (pe_cmpR op_le (pe_ix (ixL (K := K) rfl) (pv 0) (pv 3) (fun _ _ => rfl)) (pe_ix (ixL (K := K) rfl) (pv 0) (pe_op op_add (pv 3) pe_int) (fun _ _ => rfl)) (nomark _)))) pa_nil))) (pss_one (ps_ret (pe_and (pv 1) (pe_one (pe_cmpR op_le (pe_op op_sub (pe_ix (ixL (K := K) rfl) (pv 0) (pe_un un_neg pe_int) (fun _ _ => rfl)) (pe_ix (ixL (K := K) rfl) (pv 0) pe_int (fun _ _ => rfl))) (pe_callB (lenS (K := K) rfl) (by rfl) T.b_len (by decide +kernel) (pa_cons (pv 0) pa_nil)) (nomark _))))))))), ?_⟩
      refine q_when (b := false) (et_or (a := false) (b := false) (et_not (a := true) (et_B (ev_call (ea_cons (ev_var rfl) ea_nil) (spv_is_list (.inl hs))))) fun _ => et_not (a := true) (et_test (ev_chain (y := .int (ns.length : Int)) (ev_c (v := .int 1)) (ev_cb (ea_cons (ev_var rfl) ea_nil) (rc_len (.inl hq) (by rw [List.length_map]))) (rv_res rv_I0 (by simp; omega)) (ev_const ev_glob rd cv) (rv_res rv_I0 (by simp; omega))))) (fun q => nomatch q) fun _ H1 e1 => ?_
      refine q_when (b := false) (et_not (a := true) (et_B (ev_allT (n := ns.length) (by
        have e0 : (ns.map V.int).length = ns.length := List.length_map ..
        rw [← e0]
        refine el_lcL (fun _ => true) (fun _ => V.bl true) (ev_var rfl) (ex_l e1 hq) (by rw [e0]; omega) (fun _ => rfl) (fun _ _ _ _ _ => lc_yes) (fun i x H2 e2 hi _ => ?_)
        rw [List.getElem?_map] at hi
        obtain ⟨n, _, rfl⟩ := Option.map_eq_some_iff.mp hi
        exact ev_call (ea_cons (ev_var rfl) ea_nil) spv_is_day)))) (fun q => nomatch q) fun _ H2 e2 => ?_
      refine q_asg (v := .bl true) (ev_allT (n := ((ns.length : Int) - 1).toNat) (el_lcR1 (fun _ => true) (fun _ => V.bl true) (ea_cons (ev_op (ev_cb (ea_cons (ev_var rfl) ea_nil) (rc_len (.inl (ex_l (e1.trans e2) hq)) (by rw [List.length_map]))) ev_c rv_I0) ea_nil) (by omega) (fun _ => rfl) (fun _ _ _ _ => lc_yes) (fun i H3 e3 hi _ => ?_))) fun H3 e3 => ?_
      · have hi' : i + 1 < ns.length := by omega
        have hu := g.up i (i + 1) (by omega) hi'
        refine ev_is (ev_op (ev_op (ev_var rfl) (ev_var rfl) (rv_ixL (ex_l ((e1.trans e2).trans e3) hq) (atI_nat (getI (by omega : i < ns.length))))) (ev_op (ev_var rfl) (ev_is (ev_op (ev_var rfl) ev_c rv_I0) (by congr 1 : V.int ((i : Int) + 1) = V.int ((i + 1 : Nat) : Int))) (rv_ixL (ex_l ((e1.trans e2).trans e3) hq) (atI_nat (getI hi')))) rv_I0) (congrArg V.bl (decide_eq_true hu))
      · have hsp := g.span
        refine s_ret (ev_is (ev_andV (a := true) (ev_var rfl) fun _ => ev_op (ev_op (ev_op (ev_var rfl) (ev_un ev_c ru_neg) (rv_ixL (ex_l ((e1.trans e2).trans e3) hq) (atI_m1 hgp))) (ev_op (ev_var rfl) ev_c (rv_ixL (ex_l ((e1.trans e2).trans e3) hq) (atI_int (by decide) (by omega)))) rv_I0) (ev_cb (ea_cons (ev_var rfl) ea_nil) (rc_len (.inl (ex_l ((e1.trans e2).trans e3) hq)) (by rw [List.length_map]))) rv_I0) (congrArg V.bl (decide_eq_true hsp))) fun H4 e4 => k H4 (((e1.trans e2).trans e3).trans e4)
    · have hq := st_of (K := K) hs
      refine ⟨_, (pss_cons (ps_if (PW.pt (pw_or (pt_not (pt_val (pe_call c_is_list.ok (hr.mono (by decide)) (by rfl) c_is_list.mgx c_is_list.kp c_is_list.bd .nil pass0 (pa_cons (pv 0) pa_nil)))) (pw_or1 (pt_not (pt_chain op_le op_le pe_int (pe_callB (lenS (K := K) rfl) (by rfl) T.b_len (by decide +kernel) (pa_cons (pv 0) pa_nil)) (ClX.pe_cval (pe_glob (v := .ref C) rfl T.mg_Table rfl))))))) (pss_one (ps_ret pe_bl)) pss_nil) (pss_cons (ps_if (pt_not (pt_val (pe_callB (allL (K := K) rfl rfl) (by rfl) T.b_all (by decide +kernel) (pa_cons (pe_lc (own := [("day", 2)]) (g := (gName 2)) (by rfl) sc_is_table.nd (piT (K := K) rfl (pv 0)) (blkOk_by (own := [("day", 2)]) (N := ["value", "rises", "day", "place"]) (sc := defScope s_is_table) (by decide +kernel)) (fun _ _ _ _ _ => (pg_name (i := 2) sc_is_table.nd rfl (Or.inl rfl))) (fun _ _ _ _ _ => pts_nil) (fun _ _ _ _ _ => (pe_call c_is_day.ok (hr.mono (by decide)) (by rfl) c_is_day.mgx c_is_day.kp c_is_day.bd .nil pass0 (pa_cons (pv 2) pa_nil)))) pa_nil)))) (pss_one (ps_ret pe_bl)) pss_nil) (pss_cons (ps_set (i := 1) sc_is_table.nd rfl (Or.inl rfl) (pe_callB (allL (K := K) rfl rfl) (by rfl) T.b_all (by decide +kernel) (pa_cons (pe_lc (own := [("place", 3)]) (g := (gName 3)) (by rfl) sc_is_table.nd (pi_range1 (by rfl) T.b_range (pa_cons (pe_op op_sub (pe_callB (lenS (K := K) rfl) (by rfl) T.b_len (by decide +kernel) (pa_cons (pv 0) pa_nil)) pe_int) pa_nil)) (blkOk_by (own := [("place", 3)]) (N := ["value", "rises", "day", "place"]) (sc := defScope s_is_table) (by decide +kernel)) (fun _ _ _ _ _ => (pg_name (i := 3) sc_is_table.nd rfl (Or.inl rfl))) (fun _ _ _ _ _ => pts_nil) (fun _ _ _ _ _ => (pe_cmpR op_le (pe_ix (ixT (K := K) rfl) (pv 0) (pv 3) (fun _ _ => rfl)) (pe_ix (ixT (K := K) rfl) (pv 0) (pe_op op_add (pv 3) pe_int) (fun _ _ => rfl)) (nomark _)))) pa_nil))) (pss_one (ps_ret (pe_and (pv 1) (pe_one (pe_cmpR op_le (pe_op op_sub (pe_ix (ixT (K := K) rfl) (pv 0) (pe_un un_neg pe_int) (fun _ _ => rfl)) (pe_ix (ixT (K := K) rfl) (pv 0) pe_int (fun _ _ => rfl))) (pe_callB (lenS (K := K) rfl) (by rfl) T.b_len (by decide +kernel) (pa_cons (pv 0) pa_nil)) (nomark _))))))))), ?_⟩
      refine q_when (b := false) (et_or (a := false) (b := false) (et_not (a := true) (et_B (ev_call (ea_cons (ev_var rfl) ea_nil) (spv_is_list (.inr hs))))) fun _ => et_not (a := true) (et_test (ev_chain (y := .int (ns.length : Int)) (ev_c (v := .int 1)) (ev_cb (ea_cons (ev_var rfl) ea_nil) (rc_len (.inr hq) (by rw [List.length_map]))) (rv_res rv_I0 (by simp; omega)) (ev_const ev_glob rd cv) (rv_res rv_I0 (by simp; omega))))) (fun q => nomatch q) fun _ H1 e1 => ?_
      refine q_when (b := false) (et_not (a := true) (et_B (ev_allT (n := ns.length) (by
        have e0 : (ns.map V.int).length = ns.length := List.length_map ..
        rw [← e0]
        refine el_lcT (fun _ => true) (fun _ => V.bl true) (ev_var rfl) (ex_t e1 hq) (by rw [e0]; omega) (fun _ => rfl) (fun _ _ _ _ _ => lc_yes) (fun i x H2 e2 hi _ => ?_)
        rw [List.getElem?_map] at hi
        obtain ⟨n, _, rfl⟩ := Option.map_eq_some_iff.mp hi
        exact ev_call (ea_cons (ev_var rfl) ea_nil) spv_is_day)))) (fun q => nomatch q) fun _ H2 e2 => ?_
      refine q_asg (v := .bl true) (ev_allT (n := ((ns.length : Int) - 1).toNat) (el_lcR1 (fun _ => true) (fun _ => V.bl true) (ea_cons (ev_op (ev_cb (ea_cons (ev_var rfl) ea_nil) (rc_len (.inr (ex_t (e1.trans e2) hq)) (by rw [List.length_map]))) ev_c rv_I0) ea_nil) (by omega) (fun _ => rfl) (fun _ _ _ _ => lc_yes) (fun i H3 e3 hi _ => ?_))) fun H3 e3 => ?_
      · have hi' : i + 1 < ns.length := by omega
        have hu := g.up i (i + 1) (by omega) hi'
        refine ev_is (ev_op (ev_op (ev_var rfl) (ev_var rfl) (rv_ixT (ex_t ((e1.trans e2).trans e3) hq) (atI_nat (getI (by omega : i < ns.length))))) (ev_op (ev_var rfl) (ev_is (ev_op (ev_var rfl) ev_c rv_I0) (by congr 1 : V.int ((i : Int) + 1) = V.int ((i + 1 : Nat) : Int))) (rv_ixT (ex_t ((e1.trans e2).trans e3) hq) (atI_nat (getI hi')))) rv_I0) (congrArg V.bl (decide_eq_true hu))
      · have hsp := g.span
        refine s_ret (ev_is (ev_andV (a := true) (ev_var rfl) fun _ => ev_op (ev_op (ev_op (ev_var rfl) (ev_un ev_c ru_neg) (rv_ixT (ex_t ((e1.trans e2).trans e3) hq) (atI_m1 hgp))) (ev_op (ev_var rfl) ev_c (rv_ixT (ex_t ((e1.trans e2).trans e3) hq) (atI_int (by decide) (by omega)))) rv_I0) (ev_cb (ea_cons (ev_var rfl) ea_nil) (rc_len (.inr (ex_t ((e1.trans e2).trans e3) hq)) (by rw [List.length_map]))) rv_I0) (congrArg V.bl (decide_eq_true hsp))) fun H4 e4 => k H4 (((e1.trans e2).trans e3).trans e4)
end
end K16
end
section
set_option maxHeartbeats 4000000
namespace K16
open PySem L2 Evl G TM
/-! ### the promises of a Table's methods -/
def sp_length (K : PySem.W.Frag) (C : Addr) : Sp := fun vs H Q _ => ∃ p ns, vs = [.ref p] ∧ Tab K C H p ns ∧ RetV (.int (ns.length : Int)) H Q
def sp_days (K : PySem.W.Frag) (C : Addr) : Sp := fun vs H Q _ => ∃ p ns, vs = [.ref p] ∧ Tab K C H p ns ∧ RetL (ns.map V.int) H Q
def sp_on (K : PySem.W.Frag) (C : Addr) : Sp := fun vs H Q _ => ∃ p ns x, vs = [.ref p, .int x] ∧ Tab K C H p ns ∧ Good ns ∧ RetV (.int (onL ns x)) H Q
section
variable {K : PySem.W.Frag} {C p : Addr} {H : Hp} {ns : List Int} {x : Int}
theorem spv_length (t : Tab K C H p ns) : SpV (sp_length K C) [.ref p] H (.int (ns.length : Int)) := fun H1 e Q q E => ⟨p, ns, rfl, t.mono e, q⟩
theorem spl_days (t : Tab K C H p ns) : SpL (sp_days K C) [.ref p] H (ns.map V.int) := fun H1 e Q q E => ⟨p, ns, rfl, t.mono e, q⟩
theorem spv_on (t : Tab K C H p ns) (g : Good ns) : SpV (sp_on K C) [.ref p, .int x] H (.int (onL ns x)) := fun H1 e Q q E => ⟨p, ns, x, rfl, t.mono e, g, q⟩
end
section
variable {P : Program} {w : World} {K : PySem.W.Frag} {mg : Str → Option Value} {base : Heap} {C : Addr}
theorem lk_days {l : Addr} : List.lookup ("_days" : Str) [(("_days" : Str), V.ref l)] = some (V.ref l) := by
  rw [List.lookup_cons_self]
theorem ok_init {f f1 : Addr} {fd fd1 : FuncData} (F : Fun K "__init__" "Table.__init__" s_Table___init__ f fd) (T : Txt K mg C) (c_is_table : Cal P w K mg base "is_table" f1 fd1 ["value"] 2 (sp_is_table K)) : FnOk P w K mg base CX0 3 f fd ["self", "days"] (sp_init K C) := by
  refine F.ok sc_Table___init__ (fun vs H Q E h => ?_) (fun cdv A outer s H vs Q E hr h => ?_)
  · obtain ⟨x, dx, p, ns, rfl, _⟩ := h
    rfl
  · obtain ⟨x, dx, p, ns, rfl, hx, hs, g, k⟩ := h
    refine ⟨_, (pss_cons (ps_if (pt_not (pt_val (pe_call c_is_table.ok (hr.mono (by decide)) (by rfl) c_is_table.mgx c_is_table.kp c_is_table.bd .nil pass0 (pa_cons (pv 1) pa_nil)))) (pss_one ps_never) pss_nil) (pss_one (ps_fld (pv 0) (pe_callTy call_list_of (by rfl) T.b_list (by decide +kernel) (pa_cons (pv 1) pa_nil)) rfl))), ?_⟩
    refine q_when (b := false) (et_not (a := true) (et_B (ev_call (ea_cons (ev_var rfl) ea_nil) (spv_is_table hs g)))) (fun q => nomatch q) fun _ H1 e1 => ?_
    refine (el_cb (ea_cons (ev_var rfl) ea_nil) (rc_list (hs.mono e1).seq)) H1 (Ex.refl H1) _ fun l H2 hl e2 h2 => ?_
    have hx2 := e2 x _ (e1 x _ hx)
    refine ⟨_, rfl, x, C, dx, [], rfl, hx2, T.cl, T.nD, by decide, ?_⟩
    have hne : l ≠ x := (ne_of hx2 h2 (fun q => by cases q)).symm
    exact k l _ (fun b o hb hbx => by rw [upd_ne hbx]; exact e2 b _ (e1 b _ hb)) upd_same (by rw [upd_ne hne]; exact h2) (fresh_back e1 hl)
theorem ok_length {f : Addr} {fd : FuncData} (F : Fun K "length" "Table.length" s_Table_length f fd) (T : Txt K mg C) : FnOk P w K mg base CX0 1 f fd ["self"] (sp_length K C) := by
  refine F.ok sc_Table_length (fun vs H Q E h => ?_) (fun cdv A outer s H vs Q E hr h => ?_)
  · obtain ⟨p, ns, rfl, _⟩ := h
    rfl
  · obtain ⟨p, ns, rfl, ⟨dx, l, h1, h2⟩, k⟩ := h
    refine ⟨_, (pss_one (ps_ret (pe_callB (lenS (K := K) rfl) (by rfl) T.b_len (by decide +kernel) (pa_cons (pe_fldK (K := K) rfl (pv 0) rfl) pa_nil)))), ?_⟩
    exact s_ret (ev_cb (ea_cons (ev_fld (ev_var rfl) h1 T.cl T.nD lk_days) ea_nil) (rc_len (.inl h2) (by rw [List.length_map]))) k
theorem ok_days {f : Addr} {fd : FuncData} (F : Fun K "days" "Table.days" s_Table_days f fd) (T : Txt K mg C) : FnOk P w K mg base CX0 1 f fd ["self"] (sp_days K C) := by
  refine F.ok sc_Table_days (fun vs H Q E h => ?_) (fun cdv A outer s H vs Q E hr h => ?_)
  · obtain ⟨p, ns, rfl, _⟩ := h
    rfl
  · obtain ⟨p, ns, rfl, ⟨dx, l, h1, h2⟩, k⟩ := h
    refine ⟨_, (pss_one (ps_ret (pe_callTy call_list_of (by rfl) T.b_list (by decide +kernel) (pa_cons (pe_fldK (K := K) rfl (pv 0) rfl) pa_nil)))), ?_⟩
    exact s_retL (el_cb (ea_cons (ev_fld (ev_var rfl) h1 T.cl T.nD lk_days) ea_nil) (rc_list (.inl h2))) k
theorem ok_on {f f1 f2 p2 : Addr} {fd fd1 fd2 : FuncData} (F : Fun K "on" "Table.on" s_Table_on f fd) (T : Txt K mg C) (c_need_day : Cal P w K mg base "need_day" f1 fd1 ["value"] 2 sp_need_day)
    (m_length : Prp P w K mg base C "length" p2 f2 fd2 ["self"] 1 (sp_length K C)) : FnOk P w K mg base CX0 3 f fd ["self", "day"] (sp_on K C) := by
  refine F.ok sc_Table_on (fun vs H Q E h => ?_) (fun cdv A outer s H vs Q E hr h => ?_)
  · obtain ⟨p, ns, x, rfl, _⟩ := h
    rfl
  · obtain ⟨p, ns, x, rfl, t, g, k⟩ := h
    obtain ⟨dx, l, h1, h2⟩ := id t
    have hp := g.posI
    have hm := g.most
    refine ⟨_, (pss_cons (ps_expr (pe_call c_need_day.ok (hr.mono (by decide)) (by rfl) c_need_day.mgx c_need_day.kp c_need_day.bd .nil pass0 (pa_cons (pv 1) pa_nil))) (pss_cons (ps_asg (pe_callB call_divmod (by rfl) T.b_divmod (by decide +kernel) (pa_cons (pv 1) (pa_cons (pe_prop (pv 0) T.cl m_length.pr m_length.ok (hr.mono (by decide)) m_length.bd .nil pass0 (by rfl)) pa_nil))) (pg_tup (by rfl) (pgs_cons (pg_name (i := 2) sc_Table_on.nd rfl (Or.inl rfl)) (pgs_cons (pg_name (i := 3) sc_Table_on.nd rfl (Or.inl rfl)) pgs_nil)))) (pss_one (ps_ret (pe_op op_add (pe_ix (ixL (K := K) rfl) (pe_fldK (K := K) rfl (pv 0) rfl) (pv 3) (fun _ _ => rfl)) (pe_op op_mul (pv 2) (pe_prop (pv 0) T.cl m_length.pr m_length.ok (hr.mono (by decide)) m_length.bd .nil pass0 (by rfl)))))))), ?_⟩
    refine q_drop (ev_call (ea_cons (ev_var rfl) ea_nil) spv_need_day) fun H1 e1 => ?_
    refine q_asgT2 (eu_divmod (ev_var rfl) (ev_prop (ev_var rfl) (e1 p _ h1) (spv_length (t.mono e1))) hp (by omega)) fun H2 e2 => ?_
    have e3 := e1.trans e2
    have i0 := Int.emod_nonneg x (show (ns.length : Int) ≠ 0 by omega)
    have i1 := Int.emod_lt_of_pos x hp
    exact s_ret (ev_op (ev_op (ev_fld (ev_var rfl) (e3 p _ h1) T.cl T.nD lk_days) (ev_var rfl) (rv_ixL (ex_l e3 h2) (atI_int i0 i1))) (ev_op (ev_var rfl) (ev_prop (ev_var rfl) (e3 p _ h1) (spv_length (t.mono e3))) (rv_I (.inr ⟨by omega, by omega⟩))) rv_I0) fun H3 e4 => k H3 (e3.trans e4)
end
/-! ### the pot -/
def wo (H : Hp) (p : Addr) : Hp := fun b => if b = p then none else H b
theorem wo_ne {H : Hp} {p b : Addr} (h : b ≠ p) : wo H p b = H b := by unfold wo; rw [if_neg h]
theorem wo_at {H : Hp} {p : Addr} : wo H p p = none := by unfold wo; rw [if_pos rfl]
theorem wo_ex {H : Hp} {p : Addr} : Ex (wo H p) H := fun b o h => by
  by_cases hb : b = p
  · subst hb; rw [wo_at] at h; cases h
  · rwa [wo_ne hb] at h
theorem wo_mono {H H' : Hp} {p : Addr} (e : Ex H H') : Ex (wo H p) (wo H' p) := fun b o h => by
  by_cases hb : b = p
  · subst hb; rw [wo_at] at h; cases h
  · rw [wo_ne hb] at h ⊢; exact e b o h
theorem wo_sub {H H' : Hp} {p : Addr} (e : Ex (wo H p) H') : Ex (wo H p) (wo H' p) := fun b o h => by
  by_cases hb : b = p
  · subst hb; rw [wo_at] at h; cases h
  · have := e b o h
    rwa [wo_ne hb]
theorem wo_upd {H : Hp} {p : Addr} {o : HO} : Ex (wo H p) (upd H p o) := fun b u h => by
  by_cases hb : b = p
  · subst hb; rw [wo_at] at h; cases h
  · rw [upd_ne hb]; rwa [wo_ne hb] at h
theorem wo_fresh {H H' : Hp} {p q : Addr} {o : HO} (hp : H p = some o) (e : Ex (wo H p) H') (h : H' q = none) (hp' : ∃ o, H' p = some o) : H q = none := by
  by_cases hq : q = p
  · subst hq; obtain ⟨o, ho⟩ := hp'; rw [ho] at h; cases h
  · cases hh : H q with
    | none => rfl
    | some u => have := e q u (by rw [wo_ne hq]; exact hh); rw [h] at this; cases this
def PotOk (a b : Int) : Prop := 0 ≤ a ∧ 0 ≤ b ∧ b < 4294967296
def PotAt (H : Hp) (p : Addr) : Prop := ∃ a b, PotOk a b ∧ H p = some (.lst [.int a, .int b])
def sp_pot (K : PySem.W.Frag) : Sp := fun vs H Q _ => ∃ (s : Addr) (ns : List Int) (k : Int), vs = [.ref s, .int k] ∧ SqL K H s (ns.map V.int) ∧ 0 ≤ k ∧ k ≤ 100 ∧ ∀ p H2, H p = none → Ex H H2 → PotAt H2 p → Q (.ref p) H2
def sp_draw : Sp := fun vs H Q _ => ∃ p n, vs = [.ref p, .int n] ∧ PotAt H p ∧ 0 < n ∧ n < 1073741824 ∧ ∀ d H2, 0 ≤ d → d < n → Ex (wo H p) H2 → PotAt H2 p → Q (.int d) H2
def sp_pick (K : PySem.W.Frag) : Sp := fun vs H Q _ => ∃ (p s : Addr) (xs : List V), vs = [.ref p, .ref s] ∧ PotAt H p ∧ SqL K (wo H p) s xs ∧ 0 < xs.length ∧ xs.length ≤ 1000 ∧ ∀ (i : Nat) (v : V) (H2 : Hp), xs[i]? = some v → Ex (wo H p) H2 → PotAt H2 p → Q v H2
theorem fmod_pos {a b : Int} (h : 0 < b) : 0 ≤ a.fmod b ∧ a.fmod b < b := by
  rw [Int.fmod_eq_emod_of_nonneg _ (by omega)]
  exact ⟨Int.emod_nonneg _ (by omega), Int.emod_lt_of_pos _ h⟩
section
variable {P : Program} {w : World} {K : PySem.W.Frag} {mg : Str → Option Value} {base : Heap} {C : Addr}
theorem ok_pot {f : Addr} {fd : FuncData} (F : Fun K "_law_pot" "_law_pot" s__law_pot f fd) (T : Txt K mg C) : FnOk P w K mg base CX0 1 f fd ["_law_script", "_law_k"] (sp_pot K) := by
  refine F.ok sc__law_pot (fun vs H Q E h => ?_) (fun cdv A outer s H vs Q E hr h => ?_)
  · obtain ⟨s, ns, k, rfl, _⟩ := h
    rfl
  · obtain ⟨s, ns, k, rfl, hs, hk0, hk1, kq⟩ := h
    refine ⟨_, (pss_cons (ps_set (i := 2) sc__law_pot.nd rfl (Or.inl rfl) (pe_ifExp (pt_cmpR op_lt (pv 1) (pe_callB (lenS (K := K) rfl) (by rfl) T.b_len (by decide +kernel) (pa_cons (pv 0) pa_nil)) (nomark _)) (pe_callB call_abs (by rfl) T.b_abs (by decide +kernel) (pa_cons (pe_ix (ixL (K := K) rfl) (pv 0) (pv 1) (fun _ _ => rfl)) pa_nil)) (pe_op op_add (pe_op op_mul pe_int (pv 1)) pe_int))) (pss_one (ps_ret (pe_lst (pa_cons (pe_callB (call_max2 rfl) (by rfl) T.b_max (by decide +kernel) (pa_cons pe_int (pa_cons (pe_op op_sub (pv 2) (pe_op op_pow pe_int pe_int)) pa_nil))) (pa_cons (pe_op op_add (pe_op op_modN (pe_callTy call_int1 (by rfl) T.b_int (by decide +kernel) (pa_cons (pe_op op_add (pe_op op_add (pe_op op_mul (pe_op op_modN (pe_callTy call_int1 (by rfl) T.b_int (by decide +kernel) (pa_cons (pv 2) pa_nil)) pe_int) pe_int) (pe_op op_mul pe_int (pv 1))) pe_int) pa_nil)) pe_int) pe_int) pa_nil)))))), ?_⟩
    have hcell : ∃ c : Int, 0 ≤ c ∧ Ev (tIf (tTest (tOp (rI0 fun i j => .bl (decide (i < j))) (tVar 1) (tCB (fun xs H Q => ∃ p ys, xs = [.ref p] ∧ (SqL K H p ys ∨ SqT K H p ys) ∧ Q (.int (ys.length : Int)) H) (tCons (tVar 0) tNil))))
        (tCB (fun xs H Q => ∃ i, xs = [.int i] ∧ Q (.int (if i < 0 then -i else i)) H) (tCons (tOp (rIxL K) (tVar 0) (tVar 1)) tNil)) (tOp (rI0 fun i j => .int (i + j)) (tOp (rI CMul fun i j => .int (i * j)) (tC (.int 197)) (tVar 1)) (tC (.int 97)))) (start ["_law_script", "_law_k", "_law_cell"] [.ref s, .int k]) H (.int c) := by
      by_cases hlt : k < (ns.length : Int)
      · refine ⟨if ns.getD k.toNat 0 < 0 then - ns.getD k.toNat 0 else ns.getD k.toNat 0, by split <;> omega, ?_⟩
        exact ev_if (b := true) (et_test (ev_op (ev_var rfl) (ev_cb (ea_cons (ev_var rfl) ea_nil) (rc_len (.inl hs) (by rw [List.length_map]))) (rv_res rv_I0 (congrArg V.bl (decide_eq_true hlt))))) (fun _ => ev_cb (ea_cons (ev_op (ev_var rfl) (ev_var rfl) (rv_ixL hs (atI_int hk0 hlt))) ea_nil) rc_abs) (fun q => nomatch q)
      · refine ⟨197 * k + 97, by omega, ?_⟩
        exact ev_if (b := false) (et_test (ev_op (ev_var rfl) (ev_cb (ea_cons (ev_var rfl) ea_nil) (rc_len (.inl hs) (by rw [List.length_map]))) (rv_res rv_I0 (congrArg V.bl (decide_eq_false hlt))))) (fun q => nomatch q) (fun _ => ev_op (ev_op ev_c (ev_var rfl) (rv_I (.inl ⟨by decide, by decide⟩))) ev_c rv_I0)
    obtain ⟨c, hc, ec⟩ := hcell
    refine q_asg ec fun H1 e1 => ?_
    have m1 := fmod_pos (a := c) (show (0 : Int) < 2147483489 by decide)
    refine s_retL (el_lst (ea_cons (ev_cb (ea_cons ev_c (ea_cons (ev_op (ev_var rfl) (ev_op ev_c ev_c (rv_I ⟨by decide, by decide, by decide⟩)) rv_I0) ea_nil)) rc_max2) (ea_cons (ev_op (ev_op (ev_cb (ea_cons (ev_op (ev_op (ev_op (ev_op (ev_cb (ea_cons (ev_var rfl) ea_nil) rc_int1) ev_c (rv_I (by decide))) ev_c (rv_I (.inr ⟨by decide, by decide⟩))) (ev_op ev_c (ev_var rfl) (rv_I (.inl ⟨by decide, by decide⟩))) rv_I0) ev_c rv_I0) ea_nil) rc_int1) ev_c (rv_I (by decide))) ev_c rv_I0) ea_nil)) (by show 2 ≤ 100000; decide)) fun p H2 hp e2 h2 => ?_
    refine kq p H2 (fresh_back e1 hp) (e1.trans e2) ⟨_, _, ⟨?_, ?_, ?_⟩, h2⟩
    · split <;> omega
    · have := fmod_pos (a := c.fmod 2147483489 * 40093 + 6067 * k + 59) (show (0 : Int) < 2147483563 by decide)
      omega
    · have := fmod_pos (a := c.fmod 2147483489 * 40093 + 6067 * k + 59) (show (0 : Int) < 2147483563 by decide)
      omega
theorem ok_draw {f : Addr} {fd : FuncData} (F : Fun K "_law_draw" "_law_draw" s__law_draw f fd) (T : Txt K mg C) : FnOk P w K mg base CX0 1 f fd ["_law_pot_here", "_law_size"] sp_draw := by
  refine F.ok sc__law_draw (fun vs H Q E h => ?_) (fun cdv A outer s H vs Q E hr h => ?_)
  · obtain ⟨p, n, rfl, _⟩ := h
    rfl
  · obtain ⟨p, n, rfl, ⟨a, b, ⟨a0, b0, b1⟩, hp⟩, n0, n1, k⟩ := h
    have hq : SqL K H p [.int a, .int b] := sq_of hp
    refine ⟨_, (pss_cons (ps_if (pt_cmpR op_gt (pe_ix (ixL (K := K) rfl) (pv 0) pe_int (fun _ _ => rfl)) pe_int (nomark _)) (pss_cons (ps_asg (pe_callB call_divmod (by rfl) T.b_divmod (by decide +kernel) (pa_cons (pe_ix (ixL (K := K) rfl) (pv 0) pe_int (fun _ _ => rfl)) (pa_cons (pv 1) pa_nil))) (pg_tup (by rfl) (pgs_cons (pg_sub (pv 0) pe_int set_list) (pgs_cons (pg_name (i := 2) sc__law_draw.nd rfl (Or.inl rfl)) pgs_nil)))) (pss_one (ps_ret (pv 2)))) pss_nil) (pss_cons (ps_asg (pe_op op_modN (pe_callTy call_int1 (by rfl) T.b_int (by decide +kernel) (pa_cons (pe_op op_add (pe_op op_mul (pe_ix (ixL (K := K) rfl) (pv 0) pe_int (fun _ _ => rfl)) pe_int) pe_int) pa_nil)) pe_int) (pg_sub (pv 0) pe_int set_list)) (pss_one (ps_ret (pe_op op_modN (pe_callTy call_int1 (by rfl) T.b_int (by decide +kernel) (pa_cons (pe_op op_fdivN (pe_op op_modN (pe_callTy call_int1 (by rfl) T.b_int (by decide +kernel) (pa_cons (pe_op op_mul (pe_ix (ixL (K := K) rfl) (pv 0) pe_int (fun _ _ => rfl)) (pe_ix (ixL (K := K) rfl) (pv 0) pe_int (fun _ _ => rfl))) pa_nil)) pe_int) pe_int) pa_nil)) (pv 1)))))), ?_⟩
    refine q_when (et_test (ev_op (ev_op (ev_var rfl) ev_c (rv_ixL (v := .int a) hq rfl)) ev_c rv_I0)) (fun hb H1 e1 => ?_) (fun hb H1 e1 => ?_)
    · have ha : 0 < a := of_decide_eq_true hb
      refine q_asgG (eu_divmod (ev_op (ev_var rfl) ev_c (rv_ixL (v := .int a) (ex_l e1 hq) rfl)) (ev_var rfl) n0 n1) fun u H2 hu e2 h2 => ?_
      have e3 := e1.trans e2
      have hp2 := e3 p _ hp
      refine ⟨u, _, rfl, st_of h2, rfl, _, _, rfl, .ref p, rfl, ⟨p, [.int a, .int b], 0, 0, rfl, rfl, hp2, rfl, ?_⟩⟩
      refine ⟨_, _, rfl, rfl, ?_⟩
      refine s_ret (ev_var rfl) fun H3 e4 => ?_
      refine k _ H3 (Int.emod_nonneg _ (by omega)) (Int.emod_lt_of_pos _ n0) ((wo_mono e3).trans (wo_upd.trans e4)) ⟨a / n, b, ⟨Int.ediv_nonneg a0 (by omega), b0, b1⟩, e4 p _ upd_same⟩
    · have hq1 := ex_l e1 hq
      have m1 := fmod_pos (a := b * 39439 + 30071) (show (0 : Int) < 2147483563 by decide)
      refine q_setL (xs := [.int a, .int b]) (j := 1) (v := .int ((b * 39439 + 30071).fmod 2147483563)) (e1 p _ hp) (ev_op (ev_cb (ea_cons (ev_op (ev_op (ev_op (ev_var rfl) ev_c (rv_ixL (v := .int b) hq1 rfl)) ev_c (rv_I (.inr ⟨by decide, by decide⟩))) ev_c rv_I0) ea_nil) rc_int1) ev_c (rv_I (by decide))) (ev_var rfl) ev_c (by show 1 < 2; decide) fun H2 e2 => ?_
      generalize hb' : (b * 39439 + 30071).fmod 2147483563 = b' at m1 ⊢
      have hp3 : SqL K (upd H2 p (.lst ([.int a, .int b].set 1 (.int b')))) p [.int a, .int b'] := sq_of upd_same
      have m2 := fmod_pos (a := ((b' * b').fmod 2147483489).fdiv 23) n0
      refine s_ret (ev_op (ev_cb (ea_cons (ev_op (ev_op (ev_cb (ea_cons (ev_op (ev_op (ev_var rfl) ev_c (rv_ixL (v := .int b') hp3 rfl)) (ev_op (ev_var rfl) ev_c (rv_ixL (v := .int b') hp3 rfl)) (rv_I (.inl ⟨by omega, by omega⟩))) ea_nil) rc_int1) ev_c (rv_I (by decide))) ev_c (rv_I ⟨by decide, by decide⟩)) ea_nil) rc_int1) (ev_var rfl) (rv_I (by omega))) fun H3 e3 => ?_
      exact k _ H3 m2.1 m2.2 ((wo_mono (e1.trans e2)).trans (wo_upd.trans e3)) ⟨a, b', ⟨a0, m1.1, by omega⟩, e3 p _ upd_same⟩
theorem ok_pick {f f1 : Addr} {fd fd1 : FuncData} (F : Fun K "_law_pick" "_law_pick" s__law_pick f fd) (T : Txt K mg C) (c__law_draw : Cal P w K mg base "_law_draw" f1 fd1 ["_law_pot_here", "_law_size"] 1 sp_draw) : FnOk P w K mg base CX0 2 f fd ["_law_pot_here", "_law_some"] (sp_pick K) := by
  refine F.ok sc__law_pick (fun vs H Q E h => ?_) (fun cdv A outer s H vs Q E hr h => ?_)
  · obtain ⟨p, s, xs, rfl, _⟩ := h
    rfl
  · obtain ⟨p, l, xs, rfl, hp, hs, h0, h1, k⟩ := h
    refine ⟨_, (pss_one (ps_ret (pe_ix (ixL (K := K) rfl) (pv 1) (pe_call c__law_draw.ok (hr.mono (by decide)) (by rfl) c__law_draw.mgx c__law_draw.kp c__law_draw.bd .nil pass0 (pa_cons (pv 0) (pa_cons (pe_callB (lenS (K := K) rfl) (by rfl) T.b_len (by decide +kernel) (pa_cons (pv 1) pa_nil)) pa_nil))) (fun _ _ => rfl)))), ?_⟩
    refine ⟨_, rfl, (ea_cons (ev_var rfl) (ea_cons (ev_cb (ea_cons (ev_var rfl) ea_nil) (rc_len (.inl (ex_l wo_ex hs)) rfl)) ea_nil)) H (Ex.refl H) _ fun H1 e1 => ?_⟩
    have hp1 : PotAt H1 p := by obtain ⟨a, b, h, q⟩ := hp; exact ⟨a, b, h, e1 p _ q⟩
    refine ⟨p, (xs.length : Int), rfl, hp1, by omega, by omega, fun d H2 d0 d1 e2 hp2 => ?_⟩
    obtain ⟨i, rfl⟩ : ∃ i : Nat, d = (i : Int) := ⟨d.toNat, by omega⟩
    have hi : i < xs.length := by omega
    have e3 : Ex (wo H p) H2 := (wo_mono e1).trans e2
    exact ⟨l, xs, (i : Int), xs[i], rfl, rfl, ex_l e3 hs, atI_nat (List.getElem?_eq_getElem hi), k i _ H2 (List.getElem?_eq_getElem hi) e3 hp2⟩
end
section
variable {K : PySem.W.Frag} {σ : L2.St} {H : Hp} {p : Addr} {i : Nat} {tA : TA} {tn : TE} {Q : VK} {E : XK}
theorem PotAt.mono {H' : Hp} (h : PotAt H p) (e : Ex H H') : PotAt H' p := by obtain ⟨a, b, q, r⟩ := h; exact ⟨a, b, q, e p _ r⟩
theorem PotAt.some (h : PotAt H p) : ∃ o, H p = some o := by obtain ⟨a, b, q, r⟩ := h; exact ⟨_, r⟩
theorem pickC {xs : List V} (hp : PotAt H p) (hv : σ[i]? = some (some (.ref p))) (ha : EvA tA σ (wo H p) xs) (h0 : 0 < xs.length) (h1 : xs.length ≤ 1000) (k : ∀ (j : Nat) (v : V) (H2 : Hp), xs[j]? = some v → Ex (wo H p) H2 → PotAt H2 p → Q v H2) :
    tCall (sp_pick K) [] E (tCons (tVar i) (tCons (tLst tA) tNil)) σ H Q := ⟨.ref p, hv, ha H wo_ex _ fun H1 e1 => ⟨sz_of (by omega), fun s hs => by
      have hp1 := hp.mono e1
      obtain ⟨o, ho⟩ := hp1.some
      have hne : s ≠ p := (ne_of_none ho hs).symm
      exact ⟨p, s, xs, rfl, hp1.mono (Ex.new hs), sq_of (by rw [wo_ne hne]; exact upd_same), h0, h1, fun j v H2 hj e2 h2 => k j v H2 hj ((wo_mono (e1.trans (Ex.new hs))).trans e2) h2⟩⟩⟩
theorem drawC {n : Int} (hp : PotAt H p) (hv : σ[i]? = some (some (.ref p))) (hn : Ev tn σ (wo H p) (.int n)) (h0 : 0 < n) (h1 : n < 1073741824) (k : ∀ d H2, 0 ≤ d → d < n → Ex (wo H p) H2 → PotAt H2 p → Q (.int d) H2) :
    tCall sp_draw [] E (tCons (tVar i) (tCons tn tNil)) σ H Q := ⟨.ref p, hv, hn H wo_ex _ fun H1 e1 => ⟨p, n, rfl, hp.mono e1, h0, h1, fun d H2 d0 d1 e2 h2 => k d H2 d0 d1 ((wo_mono e1).trans e2) h2⟩⟩
theorem q_parL {D : Ends} {tz : TS} {i j : Nat} {ta tb : TE} {xs : List V} {w : V} (h : EvL ta σ H xs) (hb : ∀ H1, Ex H H1 → Ev tb σ H1 w) (k : ∀ p H1, H p = none → Ex H H1 → H1 p = some (.lst xs) → tz D ((σ.set i (some (.ref p))).set j (some w)) H1) :
    tSeq (tPar i j (tCons ta (tCons tb tNil))) tz D σ H := h H (Ex.refl H) _ fun p H1 hp e1 h1 => (hb H1 e1) H1 (Ex.refl _) _ fun H2 e2 => ⟨_, _, rfl, k p H2 hp (e1.trans e2) (e2 p _ h1)⟩
end
/-- rising days, from first on, at most so many days later -/
structure Rise (ns : List Int) (f : Int) (d : Int) : Prop where
  pos : 1 ≤ ns.length
  fst : ns.getD 0 0 = f
  up : ∀ i j : Nat, i ≤ j → j < ns.length → ns.getD i 0 ≤ ns.getD j 0
  last : ns.getD (ns.length - 1) 0 - f = d
theorem rise_one (f : Int) : Rise [f] f 0 := ⟨by simp, by simp, fun i j h1 h2 => by
  have : j = 0 := by simpa using h2
  subst this
  have : i = 0 := by omega
  subst this
  exact Int.le_refl _, by simp⟩
theorem getD_app1 {ns : List Int} {v : Int} {i : Nat} (h : i < ns.length) : (ns ++ [v]).getD i 0 = ns.getD i 0 := by
  rw [List.getD_eq_getElem?_getD, List.getElem?_append_left h, ← List.getD_eq_getElem?_getD]
theorem getD_app2 {ns : List Int} {v : Int} : (ns ++ [v]).getD ns.length 0 = v := by
  rw [List.getD_eq_getElem?_getD, List.getElem?_append_right (Nat.le_refl _)]
  simp
theorem rise_app {ns : List Int} {f d s : Int} (r : Rise ns f d) (hs : 0 ≤ s) : Rise (ns ++ [ns.getD (ns.length - 1) 0 + s]) f (d + s) := by
  have hp := r.pos
  refine ⟨by simp, by rw [getD_app1 (by omega)]; exact r.fst, fun i j h1 h2 => ?_, ?_⟩
  · rw [List.length_append, List.length_singleton] at h2
    by_cases hj : j < ns.length
    · rw [getD_app1 hj, getD_app1 (by omega)]
      exact r.up i j h1 hj
    · have e : j = ns.length := by omega
      subst e
      rw [getD_app2]
      by_cases hi : i < ns.length
      · rw [getD_app1 hi]
        have := r.up i (ns.length - 1) (by omega) (by omega)
        omega
      · have e : i = ns.length := by omega
        subst e
        rw [getD_app2]
        omega
  · rw [List.length_append, List.length_singleton, Nat.add_sub_cancel, getD_app2]
    have := r.last
    omega
theorem rise_good {ns : List Int} {f d : Int} (r : Rise ns f d) (h : ns.length ≤ 600) (hd : d ≤ (ns.length : Int)) : Good ns := ⟨r.pos, h, r.up, by have := r.last; have := r.fst; omega⟩
theorem rise_bd {ns : List Int} {f d : Int} (r : Rise ns f d) {i : Nat} (h : i < ns.length) : f ≤ ns.getD i 0 ∧ ns.getD i 0 ≤ f + d := by
  have h1 := r.up 0 i (by omega) h
  have h2 := r.up i (ns.length - 1) (by omega) (by have := r.pos; omega)
  have := r.fst
  have := r.last
  omega
def sp_ldays : Sp := fun vs H Q _ => ∃ (p : Addr) (n : Nat) (f : Int), vs = [.ref p, .int (n : Int), .int f] ∧ PotAt H p ∧ 1 ≤ n ∧ n ≤ 600 ∧ ∀ (l : Addr) (ns : List Int) (H2 : Hp), ns.length = n → Good ns → ns.getD 0 0 = f → (∀ i, i < n → f ≤ ns.getD i 0 ∧ ns.getD i 0 ≤ f + (n : Int)) → H l = none → Ex (wo H p) H2 → H2 l = some (.lst (ns.map V.int)) → PotAt H2 p → Q (.ref l) H2
def sp_lon (K : PySem.W.Frag) : Sp := fun vs H Q _ => ∃ (l : Addr) (ns : List Int) (x : Int), vs = [.ref l, .int x] ∧ SqL K H l (ns.map V.int) ∧ Good ns ∧ RetV (.int (onL ns x)) H Q
section
variable {K : PySem.W.Frag} {l : Addr} {H : Hp} {ns : List Int} {x : Int}
theorem spv_lon (h : SqL K H l (ns.map V.int)) (g : Good ns) : SpV (sp_lon K) ([.ref l, .int x] ++ []) H (.int (onL ns x)) := fun H1 e Q q E => ⟨l, ns, x, rfl, ex_l e h, g, q⟩
end
section
variable {P : Program} {w : World} {K : PySem.W.Frag} {mg : Str → Option Value} {base : Heap} {C : Addr}
theorem ok_ldays {f f1 : Addr} {fd fd1 : FuncData} (F : Fun K "_law_days" "_law_days" s__law_days f fd) (T : Txt K mg C) (c__law_pick : Cal P w K mg base "_law_pick" f1 fd1 ["_law_pot_here", "_law_some"] 2 (sp_pick K)) : FnOk P w K mg base CX0 3 f fd ["_law_pot_here", "_law_length", "_law_first"] sp_ldays := by
  refine F.ok sc__law_days (fun vs H Q E h => ?_) (fun cdv A outer s H vs Q E hr h => ?_)
  · obtain ⟨p, n, x, rfl, _⟩ := h
    rfl
  · obtain ⟨p, n, x, rfl, hp, n0, n1, k⟩ := h
    refine ⟨_, (pss_cons (ps_par (i := 3) (j := 4) (by rfl) sc__law_days.nd rfl rfl (by decide) rfl rfl (pa_cons (pe_lst (pa_cons (pv 2) pa_nil)) (pa_cons (pv 1) pa_nil)) (by rfl)) (pss_cons (ps_for PassesOwn.never rfl (pi_range1 (by rfl) T.b_range (pa_cons (pe_op op_sub (pv 1) pe_int) pa_nil)) (pg_name (i := 5) sc__law_days.nd rfl (Or.inl rfl)) (pss_cons (ps_set (i := 6) sc__law_days.nd rfl (Or.inl rfl) (pe_callB (call_min2 rfl) (by rfl) T.b_min (by decide +kernel) (pa_cons (pv 4) (pa_cons (pe_call c__law_pick.ok (hr.mono (by decide)) (by rfl) c__law_pick.mgx c__law_pick.kp c__law_pick.bd .nil pass0 (pa_cons (pv 0) (pa_cons (pe_lst (pa_cons pe_int (pa_cons pe_int (pa_cons pe_int (pa_cons pe_int (pa_cons pe_int (pa_cons pe_int (pa_cons (pv 1) pa_nil)))))))) pa_nil))) pa_nil)))) (pss_cons (ps_expr (pe_bm PySem.F.plainAttrs_list PySem.F.slot_list_append PySem.F.type_list_append mt_append (pv 3) (pa_cons (pe_op op_add (pe_ix (ixL (K := K) rfl) (pv 3) (pe_un un_neg pe_int) (fun _ _ => rfl)) (pv 6)) pa_nil))) (pss_one (ps_set (i := 4) sc__law_days.nd rfl (Or.inl rfl) (pe_op op_sub (pv 4) (pv 6))))))) (pss_one (ps_ret (pv 3))))), ?_⟩
    refine q_parL (xs := [.int x]) (w := .int (n : Int)) (el_lst (ea_cons (ev_var rfl) ea_nil) (by show 1 ≤ 100000; decide)) (fun _ _ => ev_var rfl) fun l H1 hl e1 h1 => ?_
    refine q_forR1 (n := (n : Int) - 1) (ea_cons (ev_op (ev_var rfl) ev_c rv_I0) ea_nil) (by omega) (fun i σ' H' => ∃ (ns : List Int) (d : Int) (o1 o2 : Option V), σ' = [some (.ref p), some (.int (n : Int)), some (.int x), some (.ref l), some (.int ((n : Int) - d)), o1, o2] ∧
      ns.length = i + 1 ∧ Rise ns x d ∧ 0 ≤ d ∧ d ≤ (n : Int) ∧ Ex (wo H p) H' ∧ H' l = some (.lst (ns.map V.int)) ∧ PotAt H' p) (fun H2 e2 => ?_) (fun i σ' H' hi hpv => ?_) (fun σ' H' hpv => ?_)
    · refine ⟨[x], 0, none, none, ?_, rfl, rise_one x, by omega, by omega, wo_ex.trans (e1.trans e2), e2 l _ h1, hp.mono (e1.trans e2)⟩
      rw [Int.sub_zero] <;> rfl
    · obtain ⟨ns, d, o1, o2, rfl, hlen, r, d0, dn, e3, h3, hp3⟩ := hpv
      obtain ⟨o, ho⟩ := hp.some
      have hlp : l ≠ p := (ne_of_none ho hl).symm
      have hwl : wo H p l = none := by rw [wo_ne hlp]; exact hl
      refine ⟨_, rfl, pickC (xs := ([0, 0, 1, 1, 2, 3, (n : Int)] : List Int).map V.int) hp3 rfl (ea_cons ev_c (ea_cons ev_c (ea_cons ev_c (ea_cons ev_c (ea_cons ev_c (ea_cons ev_c (ea_cons (ev_var rfl) ea_nil))))))) (by show 0 < 7; decide) (by show 7 ≤ 1000; decide) fun j v H4 hj e4 hp4 => ?_⟩
      obtain ⟨s, hs0, rfl⟩ : ∃ s : Int, 0 ≤ s ∧ v = .int s := by
        rw [List.getElem?_map] at hj
        obtain ⟨s, hs, rfl⟩ := Option.map_eq_some_iff.mp hj
        have hm := List.mem_of_getElem? hs
        refine ⟨s, ?_, rfl⟩
        simp only [List.mem_cons, List.mem_nil_iff, or_false] at hm
        omega
      refine ⟨_, _, rfl, ?_⟩
      have hst : 0 ≤ (if s < (n : Int) - d then s else (n : Int) - d) ∧ (if s < (n : Int) - d then s else (n : Int) - d) ≤ (n : Int) - d := by split <;> omega
      generalize (if s < (n : Int) - d then s else (n : Int) - d) = st at hst
      have h4 : H4 l = some (.lst (ns.map V.int)) := e4 l _ (by rw [wo_ne hlp]; exact h3)
      refine q_app (v := .int (ns.getD (ns.length - 1) 0 + st)) h4 (ev_var rfl) (ev_op (ev_op (ev_var rfl) (ev_un ev_c ru_neg) (rv_ixL (sq_of h4) (atI_m1 r.pos))) (ev_var rfl) rv_I0) (by rw [List.length_map]; omega) fun H5 e5 => ?_
      refine s_asg (ev_op (ev_var rfl) (ev_var rfl) rv_I0) fun H6 e6 => ?_
      refine ⟨ns ++ [ns.getD (ns.length - 1) 0 + st], d + st, some (.int (i : Int)), some (.int st), ?_, by rw [List.length_append, hlen] <;> rfl, rise_app r hst.1, by omega, by omega, ?_, ?_, ?_⟩
      · have e9 : (n : Int) - (d + st) = (n : Int) - d - st := by omega
        rw [e9] <;> rfl
      · refine (Ex.mut (o := .lst (ns.map V.int ++ [.int (ns.getD (ns.length - 1) 0 + st)])) (fun b o hb => e5 b o (e4 b o ?_)) hwl).trans e6
        have hbp : b ≠ p := fun q => by subst q; rw [wo_at] at hb; cases hb
        rw [wo_ne hbp]
        exact e3 b o hb
      · rw [List.map_append]
        exact e6 l _ upd_same
      · obtain ⟨a, b, q1, q2⟩ := hp4
        exact ⟨a, b, q1, e6 p _ (by rw [upd_ne hlp.symm]; exact e5 p _ q2)⟩
    · obtain ⟨ns, d, o1, o2, rfl, hlen, r, d0, dn, e3, h3, hp3⟩ := hpv
      have hl2 : ns.length = n := by omega
      refine s_ret (ev_var rfl) fun H4 e4 => ?_
      exact k l ns H4 hl2 (rise_good r (by omega) (by omega)) r.fst (fun i hi => by have := rise_bd r (i := i) (by omega); omega) hl (e3.trans e4) (e4 l _ h3) (hp3.mono e4)
theorem ok_lon {f : Addr} {fd : FuncData} (F : Fun K "_law_on" "_law_on" s__law_on f fd) (T : Txt K mg C) : FnOk P w K mg base CX0 1 f fd ["_law_days_here", "_law_day"] (sp_lon K) := by
  refine F.ok sc__law_on (fun vs H Q E h => ?_) (fun cdv A outer s H vs Q E hr h => ?_)
  · obtain ⟨l, ns, x, rfl, _⟩ := h
    rfl
  · obtain ⟨l, ns, x, rfl, hs, g, k⟩ := h
    have hp := g.posI
    have hm := g.most
    refine ⟨_, (pss_cons (ps_set (i := 2) sc__law_on.nd rfl (Or.inl rfl) (pe_op op_mul (pe_op op_fdivN (pv 1) (pe_callB (lenS (K := K) rfl) (by rfl) T.b_len (by decide +kernel) (pa_cons (pv 0) pa_nil))) (pe_callB (lenS (K := K) rfl) (by rfl) T.b_len (by decide +kernel) (pa_cons (pv 0) pa_nil)))) (pss_one (ps_ret (pe_op op_add (pe_ix (ixL (K := K) rfl) (pv 0) (pe_op op_sub (pv 1) (pv 2)) (fun _ _ => rfl)) (pv 2))))), ?_⟩
    have len : ∀ H1, Ex H H1 → RC (fun xs H Q => ∃ p ys, xs = [.ref p] ∧ (SqL K H p ys ∨ SqT K H p ys) ∧ Q (.int (ys.length : Int)) H) [.ref l] H1 (.int (ns.length : Int)) := fun H1 e => rc_len (.inl (ex_l e hs)) (by rw [List.length_map])
    refine q_asg (v := .int (x / (ns.length : Int) * (ns.length : Int))) (ev_is (ev_op (ev_op (ev_var rfl) (ev_cb (ea_cons (ev_var rfl) ea_nil) (len H (Ex.refl _))) (rv_I ⟨by omega, by omega⟩)) (ev_cb (ea_cons (ev_var rfl) ea_nil) (len H (Ex.refl _))) (rv_I (.inr ⟨by omega, by omega⟩))) (by rw [Int.fdiv_eq_ediv_of_nonneg _ (by omega)])) fun H1 e1 => ?_
    have i0 := Int.emod_nonneg x (show (ns.length : Int) ≠ 0 by omega)
    have i1 := Int.emod_lt_of_pos x hp
    have i2 : x - x / (ns.length : Int) * (ns.length : Int) = x % (ns.length : Int) := by
      have := Int.emod_add_mul_ediv x (ns.length : Int)
      rw [Int.mul_comm] at this
      omega
    exact s_ret (ev_op (ev_op (ev_var rfl) (ev_is (ev_op (ev_var rfl) (ev_var rfl) rv_I0) (congrArg V.int i2)) (rv_ixL (ex_l e1 hs) (atI_int i0 i1))) (ev_var rfl) rv_I0) fun H2 e2 => k H2 (e1.trans e2)
end
end K16
end
section
set_option maxHeartbeats 4000000
namespace K16
open PySem L2 Evl G TM
def RetU (xs : List V) (H : Hp) (Q : VK) : Prop := ∀ p H2, H p = none → Ex H H2 → H2 p = some (.tup xs) → Q (.ref p) H2
def SpU (sp : Sp) (vs : List V) (H : Hp) (xs : List V) : Prop := ∀ H1, Ex H H1 → ∀ Q : VK, (∀ p H2, H1 p = none → Ex H1 H2 → H2 p = some (.tup xs) → Q (.ref p) H2) → ∀ E : XK, sp vs H1 Q E
def RetD (K : PySem.W.Frag) (d : PyData) (H : Hp) (Q : VK) : Prop := ∀ v H2, Ex H H2 → Dp K H2 v d → Q v H2
section
variable {K : PySem.W.Frag} {σ : L2.St} {H : Hp} {p : Addr} {i j : Nat} {ta tb te : TE} {tA tr : TA} {D : Ends} {tz : TS} {QA : List V → Hp → Prop} {v w : V} {xs : List V} {vs : List Nat}
theorem ac_v (h : Ev te σ H v) (k : ∀ H1, Ex H H1 → tr σ H1 fun xs H2 => QA (v :: xs) H2) : tCons te tr σ H QA := h H (Ex.refl H) _ k
theorem ac_u (h : EvU te σ H xs) (k : ∀ p H1, H p = none → Ex H H1 → H1 p = some (.tup xs) → tr σ H1 fun xs H2 => QA (.ref p :: xs) H2) : tCons te tr σ H QA := h H (Ex.refl H) _ fun p H1 a b c => k p H1 a b c
theorem ac_nil (k : QA [] H) : tNil σ H QA := k
theorem q_lst (h : tA σ H fun vs H1 => vs.length ≤ sizeLine ∧ ∀ p, H1 p = none → tz D (σ.set i (some (.ref p))) (upd H1 p (.lst vs))) : tSeq (tAsg (tLst tA) (gName i)) tz D σ H := h
theorem eu_call {sp : Sp} {dvs ws : List V} {E : XK} (ha : EvA tA σ H ws) (hs : SpU sp (ws ++ dvs) H xs) : EvU (tCall sp dvs E tA) σ H xs := fun H1 e Q q =>
  ha H1 e _ fun H2 e2 => hs H2 (e.trans e2) Q (fun p H3 n3 e3 h3 => q p H3 (fresh_back e2 n3) (e2.trans e3) h3) E
theorem eu_meth {C dx : Addr} {m : Str} {fs : List (Str × V)} {sp : Sp} {dvs ws : List V} {E : XK} (h : Ev ta σ H (.ref p)) (ho : H p = some (.ins C dx fs)) (hl : fs.lookup m = none) (ha : EvA tA σ H ws) (hs : SpU sp (.ref p :: (ws ++ dvs)) H xs) : EvU (tMeth C m sp dvs E ta tA) σ H xs := fun H1 e Q q =>
  h H1 e _ fun H2 e2 => ⟨p, dx, fs, rfl, (e.trans e2) p _ ho, hl, ha H2 (e.trans e2) _ fun H3 e3 => hs H3 ((e.trans e2).trans e3) Q (fun q' H4 n4 e4 h4 => q q' H4 (fresh_back (e2.trans e3) n4) ((e2.trans e3).trans e4) h4) E⟩
end
def Bd (ns : List Int) : Prop := ∀ n, n ∈ ns → -1000000000000 ≤ n ∧ n ≤ 1000000000000
theorem small_int {i : Int} (h1 : -99999999999999999999 ≤ i) (h2 : i ≤ 99999999999999999999) : smallD (.int i) = true := by
  simp only [smallD, decide_eq_true_eq]
  omega
theorem smallAll_ints {ns : List Int} (h : Bd ns) : smallAll (ns.map PyData.int) = true := small_ints fun n hn => by have := h n hn; omega
theorem depth_all {ds : List PyData} {k : Nat} (h : ∀ d, d ∈ ds → d.depth ≤ k) : PyData.depthAll ds ≤ k := by
  induction ds with
  | nil => simp [PyData.depthAll]
  | cons d ds ih =>
    have h1 := h d (List.mem_cons_self ..)
    have h2 := ih fun x hx => h x (List.mem_cons_of_mem _ hx)
    simp only [PyData.depthAll]
    omega
theorem depth_ints (ns : List Int) : (dInts ns).depth ≤ 1 := by
  unfold dInts
  simp only [PyData.depth]
  have := depth_all (ds := ns.map PyData.int) (k := 0) fun d hd => by
    obtain ⟨n, _, rfl⟩ := List.mem_map.mp hd
    simp [PyData.depth]
  omega
section
variable {K : PySem.W.Frag} {σ : L2.St} {H : Hp} {p C : Addr} {tf : TE} {tA : TA} {vs : List V} {z : V} {X : Cx} {sp : Sp} {E : XK} {ta tb : TE} {d : PyData}
/-- data that are alike -/
theorem ev_neD (ha : EvD K ta σ H d) (hb : EvD K tb σ H d) (hs : SeqAt.shaped d = true) (hc : d.canLay0 = true) : Ev (tOp (rNeD K) ta tb) σ H (.bl false) := fun H1 e Q q =>
  ha H1 e _ fun v H2 e2 hv => hb H2 (e.trans e2) _ fun u H3 e3 hu => ⟨d, d, dp_mono e3 hv, hu, hs, hs, by rw [SeqAt.eqv_refl d hc]; exact q H3 (e2.trans e3)⟩
end
/-! ### bounds -/
theorem bd_get {ns : List Int} (b : Bd ns) {i : Nat} (hi : i < ns.length) : -1000000000000 ≤ ns.getD i 0 ∧ ns.getD i 0 ≤ 1000000000000 := b _ (by rw [List.getD_eq_getElem?_getD, List.getElem?_eq_getElem hi]; exact List.getElem_mem hi)
theorem on_bd {ns : List Int} (g : Good ns) (b : Bd ns) (x : Int) : x - 1000000001000 ≤ onL ns x ∧ onL ns x ≤ x + 1000000001000 := by
  obtain ⟨i, t, hi, rfl⟩ := split_at g x
  rw [on_at g hi]
  have := bd_get b hi
  have := g.most
  omega
def Far (x : Int) : Prop := -1000000000000 ≤ x ∧ x ≤ 1000000000000
section
variable {K : PySem.W.Frag} {σ : L2.St} {H : Hp} {p C : Addr} {i j i0 : Nat} {tA tr : TA} {tn ta tl te : TE} {Q : VK} {E : XK} {D : Ends} {tz : TS} {xs : List V} {vs : List Nat} {QA : List V → Hp → Prop} {ns : List Int}
theorem q_pick (hp : PotAt H p) (hv : σ[i]? = some (some (.ref p))) (ha : EvA tA σ (wo H p) xs) (h0 : 0 < xs.length) (h1 : xs.length ≤ 1000) (k : ∀ (j : Nat) (v : V) (H2 : Hp), xs[j]? = some v → Ex (wo H p) H2 → PotAt H2 p → tz D (σ.set i0 (some v)) H2) :
    tSeq (tAsg (tCall (sp_pick K) [] E (tCons (tVar i) (tCons (tLst tA) tNil))) (gName i0)) tz D σ H := pickC hp hv ha h0 h1 k
theorem ac_l (h : EvL te σ H xs) (k : ∀ p H1, H p = none → Ex H H1 → H1 p = some (.lst xs) → tr σ H1 fun xs H2 => QA (.ref p :: xs) H2) : tCons te tr σ H QA := h H (Ex.refl H) _ fun p H1 a b c => k p H1 a b c
/-- the same, nothing changed by the turns -/
theorem all_ev (h : tl σ H fun x H1 => ∃ a xs, x = .ref a ∧ H1 a = some (.lst xs) ∧ xs.length ≤ 1000 ∧ (∀ (i : Nat) (y : V) (H2 : Hp), Ex H1 H2 → xs[i]? = some y → Ev te ((wipe σ vs).set j (some y)) H2 (.bl true)) ∧ ∀ H2, Ex H1 H2 → Q (.bl true) H2) (hw : ∀ x, wipe ((wipe σ vs).set j (some x)) vs = wipe σ vs)
    (hm : ∀ {Q1 Q2 : VK}, (∀ x H1, Q1 x H1 → Q2 x H1) → tl σ H Q1 → tl σ H Q2) : tCB (rAll K) (tCons (tLc (iList K tl) (gName j) tYes te vs) tNil) σ H Q := by
  refine hm (fun x H1 h => ?_) h
  obtain ⟨a, xs, rfl, ha, hz, he, k⟩ := h
  refine ⟨a, rfl, ⟨xs, sq_of ha⟩, fun Dl hD => ?_⟩
  refine lc_list (xs := xs) (Cw H1 (fun _ => true) (fun _ => V.bl true) Dl) ⟨hD, Ex.new hD, upd_same⟩ (fun i H' _ p => sq_of (p.2.1 a _ ha)) (fun i x H' hi p => ⟨hw x, cw_turn p (by have := (List.getElem?_eq_some_iff.mp hi).1; omega) lc_yes (fun _ => he i x H1 (Ex.refl _) hi)⟩) (fun H' p => ?_)
  have e1 : given xs.length (fun _ => true) (fun _ => V.bl true) = (List.replicate xs.length true).map V.bl := by
    unfold given
    rw [List.filter_eq_self.mpr (fun _ _ => rfl)]
    apply List.ext_getElem <;> simp
  refine ⟨Dl, List.replicate xs.length true, rfl, sq_of (by rw [← e1]; exact p.2.2), ?_⟩
  have : (List.replicate xs.length true).all id = true := by simp
  rw [this]
  exact k H' p.2.1
/-- Table(s) -/
theorem make_tab {s : Addr} (ha : Ev ta σ H (.ref s)) (hs : SeqT K H s (ns.map V.int)) (g : Good ns) (k : ∀ (x l dx : Addr) (H2 : Hp), H x = none → H l = none → Ex H H2 → H2 x = some (.ins C dx [("_days", .ref l)]) → H2 l = some (.lst (ns.map V.int)) → Q (.ref x) H2) :
    tMake C (sp_init K C) [] E (tCons ta tNil) σ H Q := ha H (Ex.refl H) _ fun H1 e1 => fun x dx hx hdx hne => by
  have hsx : s ≠ x := by rcases hs with h | h <;> exact ne_of_none (e1 s _ h) hx
  have hsd : s ≠ dx := by rcases hs with h | h <;> exact ne_of_none (e1 s _ h) hdx
  refine ⟨x, dx, s, ns, rfl, upd_same, (hs.mono e1).imp (fun h => by rw [upd_ne hsx, upd_ne hsd]; exact h) (fun h => by rw [upd_ne hsx, upd_ne hsd]; exact h), g, fun l H' hk h1 h2 hl => ⟨rfl, ?_⟩⟩
  have hlx : l ≠ x := (ne_of h1 h2 (fun z => by cases z)).symm
  refine k x l dx H' (fresh_back e1 hx) ?_ (fun b o hb => ?_) h1 h2
  · rw [upd_ne hlx] at hl
    by_cases q : l = dx
    · subst q; rw [upd_same] at hl; cases hl
    · rw [upd_ne q] at hl; exact fresh_back e1 hl
  · have hb1 := e1 b _ hb
    have hbx : b ≠ x := ne_of_none hb1 hx
    exact hk b o (by rw [upd_ne hbx, upd_ne (ne_of_none hb1 hdx)]; exact hb1) hbx
end
section
variable {K : PySem.W.Frag} {σ : L2.St} {H : Hp} {p C : Addr} {i j i0 : Nat} {tA tr : TA} {tn ta tb tl te : TE} {Q : VK} {E : XK} {D : Ends} {tz : TS} {xs : List V} {vs : List Nat} {QA : List V → Hp → Prop} {ns : List Int} {r : R2}
theorem ac_k (h : te σ H fun v H1 => tr σ H1 fun xs H2 => QA (v :: xs) H2) : tCons te tr σ H QA := h
theorem op_k (h : ta σ H fun x H1 => tb σ H1 fun y H2 => r x y H2 Q) : tOp r ta tb σ H Q := h
theorem lst_k (h : tA σ H fun vs H1 => vs.length ≤ sizeLine ∧ ∀ p, H1 p = none → Q (.ref p) (upd H1 p (.lst vs))) : tLst tA σ H Q := h
theorem ret_k (h : te σ H D.rt) : tRet te D σ H := h
theorem asg_k (h : te σ H fun v H1 => tz D (σ.set i (some v)) H1) : tSeq (tAsg te (gName i)) tz D σ H := h
theorem v_k {v : V} (h : Ev te σ H v) (k : ∀ H1, Ex H H1 → Q v H1) : te σ H Q := h H (Ex.refl H) _ k
theorem all_k (h : tl σ H fun x H1 => tCB (rAll K) (tCons (tLc (iList K (tC x)) (gName j) tYes te vs) tNil) σ H1 Q) : tCB (rAll K) (tCons (tLc (iList K tl) (gName j) tYes te vs) tNil) σ H Q := h
/-- each turn says True; what the turns may change is told by W -/
theorem all_at {a : Addr} (W : Hp → Prop) (ha : H a = some (.lst xs)) (hz : xs.length ≤ 1000) (hw : ∀ x, wipe ((wipe σ vs).set j (some x)) vs = wipe σ vs)
    (hW : ∀ H2, W H2 → H2 a = some (.lst xs)) (hD : ∀ H2 l o, W H2 → H l = none → W (upd H2 l o))
    (he : ∀ (i : Nat) (x : V) (H' : Hp), xs[i]? = some x → W H' → ∀ Q : VK, (∀ H2, W H2 → (∀ l o, H l = none → H' l = some o → H2 l = some o) → Q (.bl true) H2) → te ((wipe σ vs).set j (some x)) H' Q)
    (h0 : W H) (k : ∀ H2, W H2 → Q (.bl true) H2) : tCB (rAll K) (tCons (tLc (iList K (tC (.ref a))) (gName j) tYes te vs) tNil) σ H Q := by
  refine ⟨a, rfl, ⟨xs, sq_of ha⟩, fun Dl hDl => ?_⟩
  refine lc_list (xs := xs) (fun i H' => W H' ∧ H' Dl = some (.lst (List.replicate i (V.bl true)))) ⟨hD _ _ _ h0 hDl, upd_same⟩ (fun i H' _ h => sq_of (hW _ h.1)) (fun i x H' hi h => ?_) (fun H' h => ?_)
  · obtain ⟨g1, g3⟩ := h
    refine ⟨hw x, ?_⟩
    unfold tYes
    refine iteT ?_
    refine he i x H' hi g1 _ fun H3 w3 e3 => ?_
    have hlt : i < xs.length := (List.getElem?_eq_some_iff.mp hi).1
    refine ⟨_, e3 Dl _ hDl g3, by rw [List.length_replicate]; exact sz_lt (by omega), hD _ _ _ w3 hDl, ?_⟩
    rw [upd_same, List.replicate_succ']
  · obtain ⟨g1, g3⟩ := h
    refine ⟨Dl, List.replicate xs.length true, rfl, sq_of (by rw [List.map_replicate]; exact g3), ?_⟩
    have : (List.replicate xs.length true).all id = true := by simp
    rw [this]
    exact k H' g1
/-- each turn says True and changes nothing -/
theorem all_calm {a : Addr} (ha : H a = some (.lst xs)) (hz : xs.length ≤ 1000) (hw : ∀ x, wipe ((wipe σ vs).set j (some x)) vs = wipe σ vs)
    (he : ∀ (i : Nat) (x : V), xs[i]? = some x → Ev te ((wipe σ vs).set j (some x)) H (.bl true)) (k : ∀ H2, Ex H H2 → Q (.bl true) H2) : tCB (rAll K) (tCons (tLc (iList K (tC (.ref a))) (gName j) tYes te vs) tNil) σ H Q :=
  all_ev (tl := tC (.ref a)) ⟨a, xs, rfl, ha, hz, fun i y H2 e2 hi => (he i y hi).mono e2, k⟩ hw (fun f h => f _ _ h)
theorem bd_of {ns : List Int} (h : ∀ i, i < ns.length → -1000000000000 ≤ ns.getD i 0 ∧ ns.getD i 0 ≤ 1000000000000) : Bd ns := fun n hn => by
  obtain ⟨i, hi, rfl⟩ := List.mem_iff_getElem.mp hn
  have := h i hi
  rw [List.getD_eq_getElem?_getD, List.getElem?_eq_getElem hi] at this
  exact this
end
section
variable {K : PySem.W.Frag} {σ : L2.St} {H H' : Hp} {p q C x dx l2 l : Addr} {i j i0 : Nat} {tA tr : TA} {tn ta tb tl te : TE} {tt : TT} {tu : TS} {Q : VK} {E : XK} {D : Ends} {tz : TS} {xs ys : List V} {vs : List Nat} {QA : List V → Hp → Prop} {ns : List Int} {r : R2} {o : HO}
theorem pot_off (h : PotAt H p) (hq : p ≠ q) : PotAt (upd H q o) p := by obtain ⟨a, b, h1, h2⟩ := h; exact ⟨a, b, h1, by rw [upd_ne hq]; exact h2⟩
theorem el_rg {a b : Int} (ha : Ev ta σ H (.int a)) (hb : Ev tb σ H (.int b)) (hr : RgOk a b) : EvL (tLstRg (tRg2 ta tb)) σ H (rgV a b) := fun H1 e Q q =>
  ha H1 e _ fun H2 e2 => hb H2 (e.trans e2) _ fun H3 e3 => ⟨a, b, rfl, rfl, hr, fun p hp => q p _ (fresh_back (e2.trans e3) hp) ((e2.trans e3).trans (Ex.new hp)) upd_same⟩
theorem el_cat (ha : EvL ta σ H xs) (hb : EvL tb σ H ys) (hz : xs.length + ys.length ≤ 100000) : EvL (tOp rCat ta tb) σ H (xs ++ ys) := fun H1 e Q q =>
  ha H1 e _ fun a H2 na e2 h2 => hb H2 (e.trans e2) _ fun b H3 nb e3 h3 => ⟨a, b, xs, ys, rfl, rfl, e3 a _ h2, h3, sz_of hz, fun p hp => q p _ (fresh_back (e2.trans e3) hp) ((e2.trans e3).trans (Ex.new hp)) upd_same⟩
theorem if_k {c : TT} (h : c σ H fun b H1 => if b = true then ta σ H1 Q else tb σ H1 Q) : tIf c ta tb σ H Q := h
theorem test_k {R : Bool → Hp → Prop} (h : te σ H fun x H1 => ∃ k, x = .bl k ∧ R k H1) : tTest te σ H R := h
theorem notall_k (h : te σ H fun x H1 => ∃ k, x = .bl k ∧ if (!k) = true then tu { D with nx := tz D } σ H1 else tz D σ H1) : tSeq (tIfS (tNot (tB te)) tu tNext) tz D σ H := h
theorem and_k (h : te σ H fun x H1 => ∃ k, x = .bl k ∧ if k = true then tt σ H1 (fun b H2 => if b = true then tu { D with nx := tz D } σ H2 else tz D σ H2) else tz D σ H1) : tSeq (tIfS (tAnd (tTest te) tt) tu tNext) tz D σ H := h
theorem eu_tuple_of {a : Addr} (h : Ev ta σ H (.ref a)) (hs : SqL K H a xs) : EvU (tCB (fun xs H Q => ∃ p ys, xs = [.ref p] ∧ ((SqL K H p ys ∧ ∀ l, H l = none → Q (.ref l) (upd H l (.tup ys))) ∨ (SqT K H p ys ∧ Q (.ref p) H))) (tCons ta tNil)) σ H xs := fun H1 e Q q =>
  h H1 e _ fun H2 e2 => ⟨a, xs, rfl, .inl ⟨ex_l (e.trans e2) hs, fun l hl => q l _ (fresh_back e2 hl) (e2.trans (Ex.new hl)) upd_same⟩⟩
theorem ite_both {c : Bool} (Z : V → Hp → Prop) (hA : (∀ v H2, Z v H2 → Q v H2) → ta σ H Q) (hB : (∀ v H2, Z v H2 → Q v H2) → tb σ H Q) (k : ∀ v H2, Z v H2 → Q v H2) : if c = true then ta σ H Q else tb σ H Q := by
  split
  · exact hA k
  · exact hB k
theorem far_rg {a b : Int} {i : Nat} {y : V} (h : (rgV a b)[i]? = some y) : ∃ c : Int, a ≤ c ∧ c < b ∧ y = .int c := by
  unfold rgV at h
  rw [List.getElem?_map] at h
  obtain ⟨c, hc, rfl⟩ := Option.map_eq_some_iff.mp h
  have := List.mem_range.mp (List.mem_of_getElem? hc)
  exact ⟨_, by omega, by omega, rfl⟩
end
theorem ex_pot {H H2 : Hp} {p : Addr} (e : Ex H H2) (hp : H p = none) : Ex H (wo H2 p) := fun b o h => by rw [wo_ne (ne_of_none h hp)]; exact e b o h
def sp_law (K : PySem.W.Frag) : Sp := fun vs H Q _ => ∃ (a : Addr) (ns : List Int), vs = [.ref a] ∧ SqL K H a (ns.map V.int) ∧ ns.length ≤ 63 ∧ RetV (.bl true) H Q
end K16
end
section
set_option maxHeartbeats 4000000
namespace K16
open PySem L2 Evl G TM
def RowsS (H : Hp) (a : Addr) (rs : List Row) : Prop := RowsL H a rs ∨ RowsU H a rs
theorem RowsS.mono {H H' : Hp} {a : Addr} {rs : List Row} (h : RowsS H a rs) (e : Ex H H') : RowsS H' a rs := h.imp (fun h => h.mono e) fun h => h.mono e
theorem RowsS.seq {K : PySem.W.Frag} {H : Hp} {a : Addr} {rs : List Row} (h : RowsS H a rs) : ∃ ys : List V, ys.length = rs.length ∧ SeqT K H a ys := by
  rcases h with ⟨ts, h1, h2⟩ | ⟨ts, h1, h2⟩
  · exact ⟨_, by rw [List.length_map, h2.1], .inl h1⟩
  · exact ⟨_, by rw [List.length_map, h2.1], .inr h1⟩
def sp_need_length : Sp := fun vs H Q _ => ∃ n : Nat, vs = [.int (n : Int)] ∧ 1 ≤ n ∧ RetV .non H Q
def sp_is_row : Sp := fun vs H Q _ => ∃ (a : Addr) (r : Row), vs = [.ref a] ∧ H a = some (.tup (rowV r)) ∧ RetV (.bl true) H Q
def sp_eq (K : PySem.W.Frag) (C : Addr) : Sp := fun vs H Q _ => ∃ (a b : Addr) (ns : List Int), vs = [.ref a, .ref b] ∧ Tab K C H a ns ∧ Tab K C H b ns ∧ RetV (.bl true) H Q
def sp_common (K : PySem.W.Frag) (C : Addr) : Sp := fun vs H Q _ => ∃ (a b : Addr) (ns ms : List Int), vs = [.ref a, .ref b] ∧ Tab K C H a ns ∧ Tab K C H b ms ∧ Good ns ∧ ms.length = ns.length ∧ RetV (.int (ns.length : Int)) H Q
def sp_above (K : PySem.W.Frag) (C : Addr) : Sp := fun vs H Q _ => ∃ (a b : Addr) (ns ms : List Int), vs = [.ref a, .ref b] ∧ Tab K C H a ns ∧ Tab K C H b ms ∧ Good ns ∧ Good ms ∧ ms.length = ns.length ∧ (∀ d, onL ns d ≤ onL ms d) ∧ RetV .non H Q
def sp_need_rows : Sp := fun vs H Q _ => ∃ (a : Addr) (n : Nat) (rs : List Row), vs = [.int (n : Int), .ref a] ∧ RowsS H a rs ∧ 1 ≤ n ∧ n ≤ 600 ∧ 1 ≤ rs.length ∧ rs.length ≤ 60 ∧ RetV .non H Q
def sp_row_ahead : Sp := fun vs H Q _ => ∃ (a : Addr) (r : Row) (d : Int) (n : Nat), vs = [.ref a, .int d, .int (n : Int)] ∧ H a = some (.tup (rowV r)) ∧ 1 ≤ n ∧ n ≤ 600 ∧ RetV (.int (early (n : Int) r d)) H Q
def sp_row_behind : Sp := fun vs H Q _ => ∃ (a : Addr) (r : Row) (d : Int) (n : Nat), vs = [.ref a, .int d, .int (n : Int)] ∧ H a = some (.tup (rowV r)) ∧ 1 ≤ n ∧ n ≤ 600 ∧ RetV (.int (late (n : Int) r d)) H Q
mutual
def plainD : PyData → Bool
  | .none => true
  | .bool _ => true
  | .int _ => true
  | .str _ => false
  | .list xs => plainAll xs
  | .tuple xs => plainAll xs
  | .dict _ => false
def plainAll : List PyData → Bool
  | [] => true
  | x :: xs => plainD x && plainAll xs
end
mutual
theorem plain_can : ∀ {d : PyData}, plainD d = true → d.canLay0 = true
  | .none, _ => by simp [PyData.canLay0]
  | .bool _, _ => by simp [PyData.canLay0]
  | .int _, _ => by simp [PyData.canLay0]
  | .str _, h => by simp [plainD] at h
  | .list xs, h => by simp only [plainD] at h; simpa [PyData.canLay0] using plain_canAll h
  | .tuple xs, h => by simp only [plainD] at h; simpa [PyData.canLay0] using plain_canAll h
  | .dict _, h => by simp [plainD] at h
theorem plain_canAll : ∀ {ds : List PyData}, plainAll ds = true → PyData.canLayAll0 ds = true
  | [], _ => by simp [PyData.canLayAll0]
  | d :: ds, h => by
    simp only [plainAll, Bool.and_eq_true] at h
    simp [PyData.canLayAll0, plain_can h.1, plain_canAll h.2]
end
theorem shaped_small {d : PyData} (h : plainD d = true) (hd : d.depth ≤ 64) : SeqAt.shaped d = true := by
  unfold SeqAt.shaped
  rw [plain_can h, decide_eq_true hd] <;> rfl
theorem plainAll_map {α : Type} {f : α → PyData} (h : ∀ x, plainD (f x) = true) : ∀ l : List α, plainAll (l.map f) = true
  | [] => rfl
  | x :: l => by simp only [List.map_cons, plainAll, h x, plainAll_map h l, Bool.and_self]
theorem smallD_of (ns : List Int) : plainD (dInts ns) = true := by unfold dInts; simp only [plainD]; exact plainAll_map (fun _ => rfl) ns
theorem plain_rows (rs : List Row) : plainD (dRows rs) = true := by unfold dRows; simp only [plainD]; exact plainAll_map (fun _ => rfl) rs
theorem call_k {sp : Sp} {dvs : List V} {E : XK} {tA : TA} {σ : L2.St} {H : Hp} {Q : VK} (h : tA σ H fun vs H1 => sp (vs ++ dvs) H1 Q E) : tCall sp dvs E tA σ H Q := h
/-- a new Table, or none -/
def TabN (C : Addr) (H H2 : Hp) (p : Addr) (ns : List Int) : Prop := ∃ dx l, H l = none ∧ H2 p = some (.ins C dx [("_days", .ref l)]) ∧ H2 l = some (.lst (ns.map V.int))
theorem TabN.tab {K : PySem.W.Frag} {C p : Addr} {H H2 : Hp} {ns : List Int} (t : TabN C H H2 p ns) : Tab K C H2 p ns := let ⟨dx, l, _, h1, h2⟩ := t; ⟨dx, l, h1, sq_of h2⟩
theorem TabN.back {C p : Addr} {H0 H H2 : Hp} {ns : List Int} (t : TabN C H H2 p ns) (e : Ex H0 H) : TabN C H0 H2 p ns := let ⟨dx, l, h, h1, h2⟩ := t; ⟨dx, l, fresh_back e h, h1, h2⟩
theorem TabN.mono {C p : Addr} {H H2 H3 : Hp} {ns : List Int} (t : TabN C H H2 p ns) (e : Ex H2 H3) : TabN C H H3 p ns := let ⟨dx, l, h, h1, h2⟩ := t; ⟨dx, l, h, e p _ h1, e l _ h2⟩
def RetM (K : PySem.W.Frag) (C : Addr) (b : Bool) (ns : List Int) (H : Hp) (Q : VK) : Prop := (b = true → ∀ p H2, H p = none → Ex H H2 → TabN C H H2 p ns → Q (.ref p) H2) ∧ (b = false → ∀ H2, Ex H H2 → Q .non H2)
def sp_serving (K : PySem.W.Frag) (C : Addr) : Sp := fun vs H Q _ => ∃ (l a : Addr) (ns : List Int) (rs : List Row), vs = [.ref l, .ref a] ∧ SeqT K H l (ns.map V.int) ∧ Good ns ∧ RowsS H a rs ∧ rs.length ≤ 60 ∧ RetM K C (rs.all fun r => decide (onL ns r.1 = r.2)) ns H Q
noncomputable def EL (n : Nat) (rs : List Row) : List Int := listF n (earT (n : Int) rs)
noncomputable def LL (n : Nat) (rs : List Row) : List Int := listF n (latT (n : Int) rs)
def sp_earliest (K : PySem.W.Frag) (C : Addr) : Sp := fun vs H Q _ => ∃ (a : Addr) (n : Nat) (rs : List Row), vs = [.int (n : Int), .ref a] ∧ RowsS H a rs ∧ 1 ≤ n ∧ n ≤ 600 ∧ 1 ≤ rs.length ∧ rs.length ≤ 60 ∧ RetM K C (keptB (n : Int) rs) (EL n rs) H Q
def sp_latest (K : PySem.W.Frag) (C : Addr) : Sp := fun vs H Q _ => ∃ (a : Addr) (n : Nat) (rs : List Row), vs = [.int (n : Int), .ref a] ∧ RowsS H a rs ∧ 1 ≤ n ∧ n ≤ 600 ∧ 1 ≤ rs.length ∧ rs.length ≤ 60 ∧ RetM K C (keptB (n : Int) rs) (LL n rs) H Q
section
variable {K : PySem.W.Frag} {H : Hp} {a b C : Addr} {r : Row} {d : Int} {n : Nat} {ns ms : List Int} {rs : List Row}
theorem spv_need_length (h : 1 ≤ n) : SpV sp_need_length ([.int (n : Int)] ++ []) H .non := fun H1 e Q q E => ⟨n, rfl, h, q⟩
theorem spv_is_row (h : H a = some (.tup (rowV r))) : SpV sp_is_row ([.ref a] ++ []) H (.bl true) := fun H1 e Q q E => ⟨a, r, rfl, e a _ h, q⟩
theorem spv_common (h1 : Tab K C H a ns) (h2 : Tab K C H b ms) (g : Good ns) (hl : ms.length = ns.length) : SpV (sp_common K C) ([.ref a, .ref b] ++ []) H (.int (ns.length : Int)) := fun H1 e Q q E => ⟨a, b, ns, ms, rfl, h1.mono e, h2.mono e, g, hl, q⟩
theorem spv_above (h1 : Tab K C H a ns) (h2 : Tab K C H b ms) (g : Good ns) (g2 : Good ms) (hl : ms.length = ns.length) (hd : ∀ d, onL ns d ≤ onL ms d) : SpV (sp_above K C) ([.ref a, .ref b] ++ []) H .non := fun H1 e Q q E => ⟨a, b, ns, ms, rfl, h1.mono e, h2.mono e, g, g2, hl, hd, q⟩
theorem spv_need_rows (h : RowsS H a rs) (h1 : 1 ≤ n) (h2 : n ≤ 600) (h3 : 1 ≤ rs.length) (h4 : rs.length ≤ 60) : SpV sp_need_rows ([.int (n : Int), .ref a] ++ []) H .non := fun H1 e Q q E => ⟨a, n, rs, rfl, h.mono e, h1, h2, h3, h4, q⟩
theorem spv_ahead (h : H a = some (.tup (rowV r))) (h1 : 1 ≤ n) (h2 : n ≤ 600) : SpV sp_row_ahead ([.ref a, .int d, .int (n : Int)] ++ []) H (.int (early (n : Int) r d)) := fun H1 e Q q E => ⟨a, r, d, n, rfl, e a _ h, h1, h2, q⟩
theorem spv_behind (h : H a = some (.tup (rowV r))) (h1 : 1 ≤ n) (h2 : n ≤ 600) : SpV sp_row_behind ([.ref a, .int d, .int (n : Int)] ++ []) H (.int (late (n : Int) r d)) := fun H1 e Q q E => ⟨a, r, d, n, rfl, e a _ h, h1, h2, q⟩
theorem q_asgT2v {σ : L2.St} {te : TE} {i j : Nat} {v w : V} {D : Ends} {tz : TS} (h : Ev te σ H (.ref a)) (ha : H a = some (.tup [v, w])) (k : ∀ H1, Ex H H1 → tz D ((σ.set i (some v)).set j (some w)) H1) : tSeq (tAsg te (gTup K 2 (gCons (gName i) (gCons (gName j) gNil)))) tz D σ H :=
  h H (Ex.refl H) _ fun H1 e => ⟨a, [v, w], rfl, st_of (e a _ ha), rfl, _, _, rfl, _, _, rfl, rfl, k H1 e⟩
end
section
variable {P : Program} {w : World} {K : PySem.W.Frag} {mg : Str → Option Value} {base : Heap} {C : Addr}
theorem ok_need_length {f f1 : Addr} {fd fd1 : FuncData} (F : Fun K "need_length" "need_length" s_need_length f fd) (T : Txt K mg C) (c_is_count : Cal P w K mg base "is_count" f1 fd1 ["value"] 2 sp_is_count) : FnOk P w K mg base CX0 3 f fd ["value"] sp_need_length := by
  refine F.ok sc_need_length (fun vs H Q E h => ?_) (fun cdv A outer s H vs Q E hr h => ?_)
  · obtain ⟨i, rfl, _⟩ := h
    rfl
  · obtain ⟨n, rfl, h0, k⟩ := h
    refine ⟨_, (pss_one (ps_if (PW.pt (pw_or (pt_not (pt_val (pe_call c_is_count.ok (hr.mono (by decide)) (by rfl) c_is_count.mgx c_is_count.kp c_is_count.bd .nil pass0 (pa_cons (pv 0) pa_nil)))) (pw_or1 (pt_cmpR op_eq (pv 0) pe_int (nomark _))))) (pss_one ps_never) pss_nil)), ?_⟩
    exact s_when (b := false) (et_or (a := false) (b := false) (et_is (et_not (et_B (ev_call (ea_cons (ev_var rfl) ea_nil) spv_is_count))) (by rw [decide_eq_true (by omega)]; rfl)) fun _ => et_is (et_test (ev_op (ev_var rfl) ev_c (rv_eq rfl))) (decide_eq_false (fun z => by injection z with z; omega))) (fun q => nomatch q) fun _ H1 e => k H1 e
theorem ok_is_row {f f1 : Addr} {fd fd1 : FuncData} (F : Fun K "is_row_of_days" "is_row_of_days" s_is_row_of_days f fd) (T : Txt K mg C) (c_is_day : Cal P w K mg base "is_day" f1 fd1 ["value"] 1 sp_is_day) : FnOk P w K mg base CX0 2 f fd ["value"] sp_is_row := by
  refine F.ok sc_is_row_of_days (fun vs H Q E h => ?_) (fun cdv A outer s H vs Q E hr h => ?_)
  · obtain ⟨a, r, rfl, _⟩ := h
    rfl
  · obtain ⟨a, r, rfl, ha, k⟩ := h
    refine ⟨_, (pss_one (ps_ret (pe_and (pe_callB call_isi (by rfl) T.b_isinstance (by decide +kernel) (pa_cons (pv 0) (pa_cons (pe_bltn (v := .ty "tuple") (u := .type "tuple") (by rfl) T.b_tuple (by decide +kernel) rfl) pa_nil))) (pe_and (pe_cmpR op_eq (pe_callB (lenS (K := K) rfl) (by rfl) T.b_len (by decide +kernel) (pa_cons (pv 0) pa_nil)) pe_int (nomark _)) (pe_and (pe_call c_is_day.ok (hr.mono (by decide)) (by rfl) c_is_day.mgx c_is_day.kp c_is_day.bd .nil pass0 (pa_cons (pe_ix (ixT (K := K) rfl) (pv 0) pe_int (fun _ _ => rfl)) pa_nil)) (pe_one (pe_call c_is_day.ok (hr.mono (by decide)) (by rfl) c_is_day.mgx c_is_day.kp c_is_day.bd .nil pass0 (pa_cons (pe_ix (ixT (K := K) rfl) (pv 0) pe_int (fun _ _ => rfl)) pa_nil)))))))), ?_⟩
    have hs : SqT K H a (rowV r) := st_of ha
    exact s_ret (ev_is (ev_andV (a := true) (ev_isiB (b := true) (ev_var rfl) (fun _ e => .base (.tup (e a _ ha))) (by decide +kernel)) fun _ => ev_andV (a := true) (ev_is (ev_op (ev_cb (ea_cons (ev_var rfl) ea_nil) (rc_len (n := 2) (.inr hs) rfl)) ev_c (rv_eq rfl)) (congrArg V.bl (decide_eq_true rfl))) fun _ =>
      ev_andV (a := true) (b := true) (ev_call (ea_cons (ev_op (ev_var rfl) ev_c (rv_ixT hs (v := .int r.1) rfl)) ea_nil) spv_is_day) fun _ => ev_call (ea_cons (ev_op (ev_var rfl) ev_c (rv_ixT hs (v := .int r.2) rfl)) ea_nil) spv_is_day) rfl) k
theorem ok_eq {f : Addr} {fd : FuncData} (F : Fun K "__eq__" "Table.__eq__" s_Table___eq__ f fd) (T : Txt K mg C) : FnOk P w K mg base CX0 1 f fd ["self", "other"] (sp_eq K C) := by
  refine F.ok sc_Table___eq__ (fun vs H Q E h => ?_) (fun cdv A outer s H vs Q E hr h => ?_)
  · obtain ⟨a, b, ns, rfl, _⟩ := h
    rfl
  · obtain ⟨a, b, ns, rfl, ⟨dx, l, a1, a2⟩, ⟨dy, m, b1, b2⟩, k⟩ := h
    refine ⟨_, (pss_one (ps_ret (pe_and (pe_callB call_isi (by rfl) T.b_isinstance (by decide +kernel) (pa_cons (pv 1) (pa_cons (pe_glob (v := .ref C) rfl T.mg_Table rfl) pa_nil))) (pe_one (pe_cmpR (eqD (K := K) rfl hr.units) (pe_fldK (K := K) rfl (pv 0) rfl) (pe_fldK (K := K) rfl (pv 1) rfl) (nomark _)))))), ?_⟩
    have hsh : SeqAt.shaped (dInts ns) = true := shaped_small (smallD_of ns) (by have := depth_ints ns; omega)
    refine s_ret (ev_is (ev_andV (a := true) (ev_cb (ea_cons (ev_var rfl) (ea_cons ev_c ea_nil)) (rc_isi (.own C) (fun H1 e => .base (T.tyC H1 b dy _ (e b _ b1))) (by unfold PySem.W.kitOne; rw [if_pos (by simp)]))) fun _ => evd_eqD (evd_ref (ev_fld (ev_var rfl) a1 T.cl T.nD lk_days) (dp_ints a2)) (evd_ref (ev_fld (ev_var rfl) b1 T.cl T.nD lk_days) (dp_ints b2)) hsh hsh) (by rw [SeqAt.eqv_refl _ (SeqAt.canLay_of_shaped hsh)]; rfl)) k
theorem ok_common {f f2 p2 : Addr} {fd fd2 : FuncData} (F : Fun K "_common_length" "_common_length" s__common_length f fd) (T : Txt K mg C) (m_length : Prp P w K mg base C "length" p2 f2 fd2 ["self"] 1 (sp_length K C)) : FnOk P w K mg base CX0 3 f fd ["table", "other_table"] (sp_common K C) := by
  refine F.ok sc__common_length (fun vs H Q E h => ?_) (fun cdv A outer s H vs Q E hr h => ?_)
  · obtain ⟨a, b, ns, ms, rfl, _⟩ := h
    rfl
  · obtain ⟨a, b, ns, ms, rfl, ta, tb, g, hl, k⟩ := h
    obtain ⟨mc, tkq, rd, cv⟩ := T.cM
    obtain ⟨dx, l, a1, a2⟩ := id ta
    obtain ⟨dy, m, b1, b2⟩ := id tb
    have hgm := g.most
    have e9 : Nat.lcm ((ns.length : Int).natAbs) ((ms.length : Int).natAbs) = ns.length := by rw [Int.natAbs_natCast, Int.natAbs_natCast, hl, Nat.lcm_self]
    refine ⟨_, (pss_cons (ps_set (i := 2) sc__common_length.nd rfl (Or.inl rfl) (pe_callBfun cr_lcm (by rfl) T.b_lcm (pa_cons (pe_prop (pv 0) T.cl m_length.pr m_length.ok (hr.mono (by decide)) m_length.bd .nil pass0 (by rfl)) (pa_cons (pe_prop (pv 1) T.cl m_length.pr m_length.ok (hr.mono (by decide)) m_length.bd .nil pass0 (by rfl)) pa_nil)))) (pss_cons (ps_if (pt_cmpR op_gt (pv 2) (ClX.pe_cval (pe_glob (v := .ref C) rfl T.mg_Table rfl)) (nomark _)) (pss_one ps_never) pss_nil) (pss_one (ps_ret (pv 2))))), ?_⟩
    refine q_asg (v := .int (ns.length : Int)) (ev_is (ev_cb (ea_cons (ev_prop (ev_var rfl) a1 (spv_length ta)) (ea_cons (ev_prop (ev_var rfl) b1 (spv_length tb)) ea_nil)) (rc_lcm (by omega) (by omega))) (by rw [e9])) fun H1 e1 => ?_
    refine q_when (b := false) (et_is (et_test (ev_op (ev_var rfl) (ev_const ev_glob rd cv) rv_I0)) (decide_eq_false (by omega))) (fun q => nomatch q) fun _ H2 e2 => ?_
    exact s_ret (ev_var rfl) fun H3 e3 => k H3 ((e1.trans e2).trans e3)
theorem ok_above {f f1 f2 : Addr} {fd fd1 fd2 : FuncData} (F : Fun K "first_above" "first_above" s_first_above f fd) (T : Txt K mg C) (c__common_length : Cal P w K mg base "_common_length" f1 fd1 ["table", "other_table"] 3 (sp_common K C)) (m_on : Met P w K mg base C "on" f2 fd2 ["self", "day"] 3 (sp_on K C)) :
    FnOk P w K mg base CX0 4 f fd ["table", "other_table"] (sp_above K C) := by
  refine F.ok sc_first_above (fun vs H Q E h => ?_) (fun cdv A outer s H vs Q E hr h => ?_)
  · obtain ⟨a, b, ns, ms, rfl, _⟩ := h
    rfl
  · obtain ⟨a, b, ns, ms, rfl, ta, tb, g, g2, hl, hd, k⟩ := h
    have hgm := g.most
    refine ⟨_, (pss_cons (ps_for PassesOwn.never rfl (pi_range1 (by rfl) T.b_range (pa_cons (pe_call c__common_length.ok (hr.mono (by decide)) (by rfl) c__common_length.mgx c__common_length.kp c__common_length.bd .nil pass0 (pa_cons (pv 0) (pa_cons (pv 1) pa_nil))) pa_nil)) (pg_name (i := 2) sc_first_above.nd rfl (Or.inl rfl)) (pss_one (ps_if (pt_cmpR op_gt (pe_meth (pv 0) T.cl m_on.me m_on.ok (hr.mono (by decide)) m_on.bd .nil pass0 (pa_cons (pv 2) pa_nil)) (pe_meth (pv 1) T.cl m_on.me m_on.ok (hr.mono (by decide)) m_on.bd .nil pass0 (pa_cons (pv 2) pa_nil)) (nomark _)) (pss_one (ps_ret (pv 2))) pss_nil))) (pss_one (ps_ret pe_non))), ?_⟩
    refine q_forR1 (n := (ns.length : Int)) (ea_cons (ev_call (ea_cons (ev_var rfl) (ea_cons (ev_var rfl) ea_nil)) (spv_common ta tb g hl)) ea_nil) (by omega) (fun i σ' H' => Ex H H' ∧ ∃ o : Option V, σ' = [some (.ref a), some (.ref b), o]) (fun H2 e2 => ⟨e2, none, rfl⟩) (fun i σ' H' hi hpv => ?_) (fun σ' H' hpv => ?_)
    · obtain ⟨e1, o, rfl⟩ := hpv
      obtain ⟨dx, l, a1, a2⟩ := ta.mono e1
      obtain ⟨dy, m, b1, b2⟩ := tb.mono e1
      refine s_when (b := false) (et_is (et_test (ev_op (ev_meth (ev_var rfl) a1 rfl (ea_cons (ev_var rfl) ea_nil) (spv_on (ta.mono e1) g)) (ev_meth (ev_var rfl) b1 rfl (ea_cons (ev_var rfl) ea_nil) (spv_on (tb.mono e1) g2)) rv_I0)) (decide_eq_false (by have := hd (i : Int); omega))) (fun q => nomatch q) fun _ H2 e2 => ⟨e1.trans e2, _, rfl⟩
    · obtain ⟨e1, o, rfl⟩ := hpv
      exact s_ret ev_c fun H3 e3 => k H3 (e1.trans e3)
theorem ok_ahead {f : Addr} {fd : FuncData} (F : Fun K "_row_ahead" "_row_ahead" s__row_ahead f fd) (T : Txt K mg C) : FnOk P w K mg base CX0 1 f fd ["row", "day", "length"] sp_row_ahead := by
  refine F.ok sc__row_ahead (fun vs H Q E h => ?_) (fun cdv A outer s H vs Q E hr h => ?_)
  · obtain ⟨a, r, d, n, rfl, _⟩ := h
    rfl
  · obtain ⟨a, r, d, n, rfl, ha, h1, h2, k⟩ := h
    refine ⟨_, (pss_cons (ps_asg (pv 0) (pg_tup (by rfl) (pgs_cons (pg_name (i := 3) sc__row_ahead.nd rfl (Or.inl rfl)) (pgs_cons (pg_name (i := 4) sc__row_ahead.nd rfl (Or.inl rfl)) pgs_nil)))) (pss_one (ps_ret (pe_op op_add (pv 4) (pe_op op_mul (pe_op op_fdivN (pe_op op_sub (pv 1) (pv 3)) (pv 2)) (pv 2)))))), ?_⟩
    refine q_asgT2v (ev_var rfl) ha fun H1 e1 => ?_
    exact s_ret (ev_is (ev_op (ev_var rfl) (ev_op (ev_op (ev_op (ev_var rfl) (ev_var rfl) rv_I0) (ev_var rfl) (rv_I ⟨by omega, by omega⟩)) (ev_var rfl) (rv_I (.inr ⟨by omega, by omega⟩))) rv_I0) (by unfold early; rw [Int.fdiv_eq_ediv_of_nonneg _ (by omega)])) fun H2 e2 => k H2 (e1.trans e2)
theorem ok_behind {f : Addr} {fd : FuncData} (F : Fun K "_row_behind" "_row_behind" s__row_behind f fd) (T : Txt K mg C) : FnOk P w K mg base CX0 1 f fd ["row", "day", "length"] sp_row_behind := by
  refine F.ok sc__row_behind (fun vs H Q E h => ?_) (fun cdv A outer s H vs Q E hr h => ?_)
  · obtain ⟨a, r, d, n, rfl, _⟩ := h
    rfl
  · obtain ⟨a, r, d, n, rfl, ha, h1, h2, k⟩ := h
    refine ⟨_, (pss_cons (ps_asg (pv 0) (pg_tup (by rfl) (pgs_cons (pg_name (i := 3) sc__row_behind.nd rfl (Or.inl rfl)) (pgs_cons (pg_name (i := 4) sc__row_behind.nd rfl (Or.inl rfl)) pgs_nil)))) (pss_one (ps_ret (pe_op op_sub (pv 4) (pe_op op_mul (pe_op op_fdivN (pe_op op_sub (pv 3) (pv 1)) (pv 2)) (pv 2)))))), ?_⟩
    refine q_asgT2v (ev_var rfl) ha fun H1 e1 => ?_
    exact s_ret (ev_is (ev_op (ev_var rfl) (ev_op (ev_op (ev_op (ev_var rfl) (ev_var rfl) rv_I0) (ev_var rfl) (rv_I ⟨by omega, by omega⟩)) (ev_var rfl) (rv_I (.inr ⟨by omega, by omega⟩))) rv_I0) (by unfold late; rw [Int.fdiv_eq_ediv_of_nonneg _ (by omega)])) fun H2 e2 => k H2 (e1.trans e2)
theorem ok_serving {f f1 f2 : Addr} {fd fd1 fd2 : FuncData} (F : Fun K "_serving" "_serving" s__serving f fd) (T : Txt K mg C) (mkI : Mk K C f1) (m_init : Ini P w K mg base C f1 fd1) (m_on : Met P w K mg base C "on" f2 fd2 ["self", "day"] 3 (sp_on K C)) :
    FnOk P w K mg base CX0 5 f fd ["days", "rows"] (sp_serving K C) := by
  refine F.ok sc__serving (fun vs H Q E h => ?_) (fun cdv A outer s H vs Q E hr h => ?_)
  · obtain ⟨l, a, ns, rs, rfl, _⟩ := h
    rfl
  · obtain ⟨l, a, ns, rs, rfl, hs, g, hr0, hz, k1, k2⟩ := h
    have go : ∀ (b : Bool) (x : Addr) (H1 : Hp), b = (rs.all fun r => decide (onL ns r.1 = r.2)) → Ex H H1 → H x = none → TabN C H H1 x ns → ∀ H2, Ex H1 H2 → (b = true → Q (.ref x) H2) ∧ (b = false → Q .non H2) := fun b x H1 hb e1 hx t H2 e2 =>
      ⟨fun q => k1 (hb ▸ q) x H2 hx (e1.trans e2) (t.mono e2), fun q => k2 (hb ▸ q) H2 (e1.trans e2)⟩
    rcases hr0 with hr0 | hr0
    · refine ⟨_, (pss_cons (ps_set (i := 2) sc__serving.nd rfl (Or.inr rfl) (pe_make mkI m_init.ok (hr.mono (by decide)) (by rfl) T.mg_Table m_init.bd .nil pass0 (pa_cons (pv 0) pa_nil))) (pss_cons (ps_if (pt_val (pe_callB (allL (K := K) rfl rfl) (by rfl) T.b_all (by decide +kernel) (pa_cons (pe_lc (own := [("asked", 3), ("served", 4)]) (g := (gTup K 2 (gCons (gName 3) (gCons (gName 4) gNil)))) (by rfl) sc__serving.nd (piL (K := K) rfl (pv 1)) (blkOk_by (own := [("asked", 3), ("served", 4)]) (N := ["days", "rows", "table", "asked", "served"]) (sc := defScope s__serving) (by decide +kernel)) (fun _ _ _ _ _ => (pg_tup (by rfl) (pgs_cons (pg_name (i := 3) sc__serving.nd rfl (Or.inl rfl)) (pgs_cons (pg_name (i := 4) sc__serving.nd rfl (Or.inl rfl)) pgs_nil)))) (fun _ _ _ _ _ => pts_nil) (fun _ _ _ _ _ => (pe_cmpR op_eq (pe_meth (pv 2) T.cl m_on.me m_on.ok (hr.mono (by decide)) m_on.bd .nil pass0 (pa_cons (pv 3) pa_nil)) (pv 4) (nomark _)))) pa_nil))) (pss_one (ps_ret (pv 2))) pss_nil) (pss_one (ps_ret pe_non)))), ?_⟩
      refine asg_k (make_tab (ev_var rfl) hs g fun x l2 dx H1 hx hl2 e1 h1 h2 => ?_)
      have tn : TabN C H H1 x ns := ⟨dx, l2, hl2, h1, h2⟩
      have t1 : Tab K C H1 x ns := tn.tab
      refine q_when (b := rs.all fun r => decide (onL ns r.1 = r.2)) (et_B (ev_cbL (el_rows2L (fun r => V.bl (decide (onL ns r.1 = r.2))) (ev_var rfl) (hr0.mono e1) (by omega) (fun _ _ => rfl) (fun r H2 e2 _ => ?_)) fun p H2 _ h => rc_allR h)) (fun q H2 e2 => ?_) (fun q H2 e2 => ?_)
      · exact ev_is (ev_op (ev_meth (ev_var rfl) (e2 x _ h1) rfl (ea_cons (ev_var rfl) ea_nil) (spv_on (t1.mono e2) g)) (ev_var rfl) (rv_eq rfl)) (congrArg V.bl (by simp))
      · exact s_ret (ev_var rfl) fun H3 e3 => (go true x H1 q.symm e1 hx tn H3 (e2.trans e3)).1 rfl
      · exact s_ret ev_c fun H3 e3 => (go false x H1 q.symm e1 hx tn H3 (e2.trans e3)).2 rfl
    · refine ⟨_, (pss_cons (ps_set (i := 2) sc__serving.nd rfl (Or.inr rfl) (pe_make mkI m_init.ok (hr.mono (by decide)) (by rfl) T.mg_Table m_init.bd .nil pass0 (pa_cons (pv 0) pa_nil))) (pss_cons (ps_if (pt_val (pe_callB (allL (K := K) rfl rfl) (by rfl) T.b_all (by decide +kernel) (pa_cons (pe_lc (own := [("asked", 3), ("served", 4)]) (g := (gTup K 2 (gCons (gName 3) (gCons (gName 4) gNil)))) (by rfl) sc__serving.nd (piT (K := K) rfl (pv 1)) (blkOk_by (own := [("asked", 3), ("served", 4)]) (N := ["days", "rows", "table", "asked", "served"]) (sc := defScope s__serving) (by decide +kernel)) (fun _ _ _ _ _ => (pg_tup (by rfl) (pgs_cons (pg_name (i := 3) sc__serving.nd rfl (Or.inl rfl)) (pgs_cons (pg_name (i := 4) sc__serving.nd rfl (Or.inl rfl)) pgs_nil)))) (fun _ _ _ _ _ => pts_nil) (fun _ _ _ _ _ => (pe_cmpR op_eq (pe_meth (pv 2) T.cl m_on.me m_on.ok (hr.mono (by decide)) m_on.bd .nil pass0 (pa_cons (pv 3) pa_nil)) (pv 4) (nomark _)))) pa_nil))) (pss_one (ps_ret (pv 2))) pss_nil) (pss_one (ps_ret pe_non)))), ?_⟩
      refine asg_k (make_tab (ev_var rfl) hs g fun x l2 dx H1 hx hl2 e1 h1 h2 => ?_)
      have tn : TabN C H H1 x ns := ⟨dx, l2, hl2, h1, h2⟩
      have t1 : Tab K C H1 x ns := tn.tab
      refine q_when (b := rs.all fun r => decide (onL ns r.1 = r.2)) (et_B (ev_cbL (el_rows2U (fun r => V.bl (decide (onL ns r.1 = r.2))) (ev_var rfl) (hr0.mono e1) (by omega) (fun _ _ => rfl) (fun r H2 e2 _ => ?_)) fun p H2 _ h => rc_allR h)) (fun q H2 e2 => ?_) (fun q H2 e2 => ?_)
      · exact ev_is (ev_op (ev_meth (ev_var rfl) (e2 x _ h1) rfl (ea_cons (ev_var rfl) ea_nil) (spv_on (t1.mono e2) g)) (ev_var rfl) (rv_eq rfl)) (congrArg V.bl (by simp))
      · exact s_ret (ev_var rfl) fun H3 e3 => (go true x H1 q.symm e1 hx tn H3 (e2.trans e3)).1 rfl
      · exact s_ret ev_c fun H3 e3 => (go false x H1 q.symm e1 hx tn H3 (e2.trans e3)).2 rfl
theorem ok_need_rows {f f1 f2 f3 : Addr} {fd fd1 fd2 fd3 : FuncData} (F : Fun K "_need_rows" "_need_rows" s__need_rows f fd) (T : Txt K mg C) (c_need_length : Cal P w K mg base "need_length" f1 fd1 ["value"] 3 sp_need_length) (c_is_list : Cal P w K mg base "is_list" f2 fd2 ["value"] 1 (sp_is_list K))
    (c_is_row_of_days : Cal P w K mg base "is_row_of_days" f3 fd3 ["value"] 2 sp_is_row) : FnOk P w K mg base CX0 4 f fd ["count", "rows"] sp_need_rows := by
  refine F.ok sc__need_rows (fun vs H Q E h => ?_) (fun cdv A outer s H vs Q E hr h => ?_)
  · obtain ⟨a, n, rs, rfl, _⟩ := h
    rfl
  · obtain ⟨a, n, rs, rfl, hs, h1, h2, h3, h4, k⟩ := h
    obtain ⟨mc, tkq, rd, cv⟩ := T.cM
    obtain ⟨ys, hy, hq⟩ := hs.seq (K := K)
    have all1 : (rs.all fun _ => true) = true := by rw [List.all_eq_true]; exact fun _ _ => rfl
    rcases hs with hs | hs
    · refine ⟨_, (pss_cons (ps_expr (pe_call c_need_length.ok (hr.mono (by decide)) (by rfl) c_need_length.mgx c_need_length.kp c_need_length.bd .nil pass0 (pa_cons (pv 0) pa_nil))) (pss_cons (ps_if (PW.pt (pw_or (pt_not (pt_val (pe_call c_is_list.ok (hr.mono (by decide)) (by rfl) c_is_list.mgx c_is_list.kp c_is_list.bd .nil pass0 (pa_cons (pv 1) pa_nil)))) (pw_or (pt_not (pt_chain op_le op_le pe_int (pe_callB (lenS (K := K) rfl) (by rfl) T.b_len (by decide +kernel) (pa_cons (pv 1) pa_nil)) pe_int)) (pw_or1 (pt_not (pt_val (pe_callB (allL (K := K) rfl rfl) (by rfl) T.b_all (by decide +kernel) (pa_cons (pe_lc (own := [("row", 2)]) (g := (gName 2)) (by rfl) sc__need_rows.nd (piL (K := K) rfl (pv 1)) (blkOk_by (own := [("row", 2)]) (N := ["count", "rows", "row"]) (sc := defScope s__need_rows) (by decide +kernel)) (fun _ _ _ _ _ => (pg_name (i := 2) sc__need_rows.nd rfl (Or.inl rfl))) (fun _ _ _ _ _ => pts_nil) (fun _ _ _ _ _ => (pe_call c_is_row_of_days.ok (hr.mono (by decide)) (by rfl) c_is_row_of_days.mgx c_is_row_of_days.kp c_is_row_of_days.bd .nil pass0 (pa_cons (pv 2) pa_nil)))) pa_nil)))))))) (pss_one ps_never) pss_nil) (pss_one (ps_if (pt_cmpR op_gt (pv 0) (ClX.pe_cval (pe_glob (v := .ref C) rfl T.mg_Table rfl)) (nomark _)) (pss_one ps_never) pss_nil)))), ?_⟩
      refine q_drop (ev_call (ea_cons (ev_var rfl) ea_nil) (spv_need_length h1)) fun H1 e1 => ?_
      refine q_when (b := false) (et_or (a := false) (b := false) (et_not (a := true) (et_B (ev_call (ea_cons (ev_var rfl) ea_nil) (spv_is_list (hq.mono e1))))) fun _ => et_or (a := false) (b := false) (et_not (a := true) (et_test (ev_chain (y := .int (rs.length : Int)) (ev_c (v := .int 1)) (ev_cb (ea_cons (ev_var rfl) ea_nil) (rc_len (hq.mono e1).seq hy)) (rv_res rv_I0 (by simp; omega)) ev_c (rv_res rv_I0 (by simp; omega))))) fun _ =>
        et_not (a := true) (et_B (ev_is (ev_cbL (el_rowsL (fun _ => V.bl true) (ev_var rfl) (hs.mono e1) (by omega) (fun _ => rfl) (fun T r H2 e2 _ hT => ev_call (ea_cons (ev_var rfl) ea_nil) (spv_is_row hT))) fun p H2 _ h => rc_allR h) (congrArg V.bl all1)))) (fun q => nomatch q) fun _ H2 e2 => ?_
      exact s_when (b := false) (et_is (et_test (ev_op (ev_var rfl) (ev_const ev_glob rd cv) rv_I0)) (decide_eq_false (by omega))) (fun q => nomatch q) fun _ H3 e3 => k H3 ((e1.trans e2).trans e3)
    · refine ⟨_, (pss_cons (ps_expr (pe_call c_need_length.ok (hr.mono (by decide)) (by rfl) c_need_length.mgx c_need_length.kp c_need_length.bd .nil pass0 (pa_cons (pv 0) pa_nil))) (pss_cons (ps_if (PW.pt (pw_or (pt_not (pt_val (pe_call c_is_list.ok (hr.mono (by decide)) (by rfl) c_is_list.mgx c_is_list.kp c_is_list.bd .nil pass0 (pa_cons (pv 1) pa_nil)))) (pw_or (pt_not (pt_chain op_le op_le pe_int (pe_callB (lenS (K := K) rfl) (by rfl) T.b_len (by decide +kernel) (pa_cons (pv 1) pa_nil)) pe_int)) (pw_or1 (pt_not (pt_val (pe_callB (allL (K := K) rfl rfl) (by rfl) T.b_all (by decide +kernel) (pa_cons (pe_lc (own := [("row", 2)]) (g := (gName 2)) (by rfl) sc__need_rows.nd (piT (K := K) rfl (pv 1)) (blkOk_by (own := [("row", 2)]) (N := ["count", "rows", "row"]) (sc := defScope s__need_rows) (by decide +kernel)) (fun _ _ _ _ _ => (pg_name (i := 2) sc__need_rows.nd rfl (Or.inl rfl))) (fun _ _ _ _ _ => pts_nil) (fun _ _ _ _ _ => (pe_call c_is_row_of_days.ok (hr.mono (by decide)) (by rfl) c_is_row_of_days.mgx c_is_row_of_days.kp c_is_row_of_days.bd .nil pass0 (pa_cons (pv 2) pa_nil)))) pa_nil)))))))) (pss_one ps_never) pss_nil) (pss_one (ps_if (pt_cmpR op_gt (pv 0) (ClX.pe_cval (pe_glob (v := .ref C) rfl T.mg_Table rfl)) (nomark _)) (pss_one ps_never) pss_nil)))), ?_⟩
      refine q_drop (ev_call (ea_cons (ev_var rfl) ea_nil) (spv_need_length h1)) fun H1 e1 => ?_
      refine q_when (b := false) (et_or (a := false) (b := false) (et_not (a := true) (et_B (ev_call (ea_cons (ev_var rfl) ea_nil) (spv_is_list (hq.mono e1))))) fun _ => et_or (a := false) (b := false) (et_not (a := true) (et_test (ev_chain (y := .int (rs.length : Int)) (ev_c (v := .int 1)) (ev_cb (ea_cons (ev_var rfl) ea_nil) (rc_len (hq.mono e1).seq hy)) (rv_res rv_I0 (by simp; omega)) ev_c (rv_res rv_I0 (by simp; omega))))) fun _ =>
        et_not (a := true) (et_B (ev_is (ev_cbL (el_rowsU (fun _ => V.bl true) (ev_var rfl) (hs.mono e1) (by omega) (fun _ => rfl) (fun T r H2 e2 _ hT => ev_call (ea_cons (ev_var rfl) ea_nil) (spv_is_row hT))) fun p H2 _ h => rc_allR h) (congrArg V.bl all1)))) (fun q => nomatch q) fun _ H2 e2 => ?_
      exact s_when (b := false) (et_is (et_test (ev_op (ev_var rfl) (ev_const ev_glob rd cv) rv_I0)) (decide_eq_false (by omega))) (fun q => nomatch q) fun _ H3 e3 => k H3 ((e1.trans e2).trans e3)
end
end K16
end
section
set_option maxHeartbeats 4000000
namespace K16
open PySem L2 Evl G TM
theorem ne_of_len {rs : List Row} (h : 1 ≤ rs.length) : rs ≠ [] := fun z => by rw [z] at h; simp at h
section
variable {n : Nat} {rs : List Row} (h1 : 1 ≤ n) (h2 : n ≤ 600) (h3 : 1 ≤ rs.length)
include h1 h2 h3
theorem EL_good : Good (EL n rs) := listF_good h1 h2 (fun d e h => ear_mono (ne_of_len h3) (by omega) h) (ear_per (ne_of_len h3) (by omega))
theorem LL_good : Good (LL n rs) := listF_good h1 h2 (fun d e h => lat_mono (ne_of_len h3) (by omega) h) (lat_per (ne_of_len h3) (by omega))
theorem EL_on (x : Int) : onL (EL n rs) x = earT (n : Int) rs x := listF_on h1 h2 (fun d e h => ear_mono (ne_of_len h3) (by omega) h) (ear_per (ne_of_len h3) (by omega)) x
theorem LL_on (x : Int) : onL (LL n rs) x = latT (n : Int) rs x := listF_on h1 h2 (fun d e h => lat_mono (ne_of_len h3) (by omega) h) (lat_per (ne_of_len h3) (by omega)) x
theorem EL_kept : (rs.all fun r => decide (onL (EL n rs) r.1 = r.2)) = keptB (n : Int) rs := by
  rw [← kept_ear (ne_of_len h3)]
  congr 1
  funext r
  rw [EL_on h1 h2 h3]
theorem LL_kept : (rs.all fun r => decide (onL (LL n rs) r.1 = r.2)) = keptB (n : Int) rs := by
  rw [← kept_lat (ne_of_len h3)]
  congr 1
  funext r
  rw [LL_on h1 h2 h3]
end
theorem EL_len {n : Nat} {rs : List Row} : (EL n rs).length = n := listF_len _ _
theorem LL_len {n : Nat} {rs : List Row} : (LL n rs).length = n := listF_len _ _
theorem given_F {n : Nat} {f : Int → Int} : given ((n : Int).toNat) (fun _ => true) (fun i => V.int (f (i : Int))) = (listF n f).map V.int := by
  rw [given_all, Int.toNat_natCast]
  unfold listF
  rw [List.map_map] <;> rfl
section
variable {P : Program} {w : World} {K : PySem.W.Frag} {mg : Str → Option Value} {base : Heap} {C : Addr}
theorem rc_maxR {rs : List Row} {f : Row → Int} {p : Addr} {H : Hp} {m : Int} (h : H p = some (.lst (rs.map fun r => V.int (f r)))) (hm : IsMaxL (rs.map f) m) : RC (rMax K) [.ref p] H (.int m) := rc_max (ns := rs.map f) (sq_of (by rw [List.map_map]; exact h)) hm.1 hm.2
theorem rc_minR {rs : List Row} {f : Row → Int} {p : Addr} {H : Hp} {m : Int} (h : H p = some (.lst (rs.map fun r => V.int (f r)))) (hm : IsMinL (rs.map f) m) : RC (rMin K) [.ref p] H (.int m) := rc_min (ns := rs.map f) (sq_of (by rw [List.map_map]; exact h)) hm.1 hm.2
theorem ok_earliest {f f1 f2 f3 : Addr} {fd fd1 fd2 fd3 : FuncData} (F : Fun K "earliest_with" "earliest_with" s_earliest_with f fd) (T : Txt K mg C) (c__need_rows : Cal P w K mg base "_need_rows" f1 fd1 ["count", "rows"] 4 sp_need_rows) (c__serving : Cal P w K mg base "_serving" f2 fd2 ["days", "rows"] 5 (sp_serving K C))
    (c__row_ahead : Cal P w K mg base "_row_ahead" f3 fd3 ["row", "day", "length"] 1 sp_row_ahead) : FnOk P w K mg base CX0 6 f fd ["count", "rows"] (sp_earliest K C) := by
  refine F.ok sc_earliest_with (fun vs H Q E h => ?_) (fun cdv A outer s H vs Q E hr h => ?_)
  · obtain ⟨a, n, rs, rfl, _⟩ := h
    rfl
  · obtain ⟨a, n, rs, rfl, hs, h1, h2, h3, h4, k1, k2⟩ := h
    have h0 := ne_of_len h3
    rcases id hs with hL | hU
    · refine ⟨_, (pss_cons (ps_expr (pe_call c__need_rows.ok (hr.mono (by decide)) (by rfl) c__need_rows.mgx c__need_rows.kp c__need_rows.bd .nil pass0 (pa_cons (pv 0) (pa_cons (pv 1) pa_nil)))) (pss_one (ps_ret (pe_call c__serving.ok (hr.mono (by decide)) (by rfl) c__serving.mgx c__serving.kp c__serving.bd .nil pass0 (pa_cons (pe_lc (own := [("day", 2)]) (g := (gName 2)) (by rfl) sc_earliest_with.nd (pi_range1 (by rfl) T.b_range (pa_cons (pv 0) pa_nil)) (blkOk_by (own := [("day", 2)]) (N := ["count", "rows", "day", "row"]) (sc := defScope s_earliest_with) (by decide +kernel)) (fun _ _ _ _ _ => (pg_name (i := 2) sc_earliest_with.nd rfl (Or.inr rfl))) (fun _ _ _ _ _ => pts_nil) (fun _ _ _ _ _ => (pe_callB (maxL (K := K) rfl rfl) (by rfl) T.b_max (by decide +kernel) (pa_cons (by exact (pe_lc (own := [("row", 3)]) (g := (gName 3)) (by rfl) sc_earliest_with.nd (piL (K := K) rfl (pv 1)) (blkOk_by (own := [("row", 3)]) (by rfl)) (fun _ _ _ _ _ => (pg_name (i := 3) sc_earliest_with.nd rfl (Or.inl rfl))) (fun _ _ _ _ _ => pts_nil) (fun _ _ _ _ _ => (pe_call c__row_ahead.ok (hr.mono (by decide)) (by rfl) c__row_ahead.mgx c__row_ahead.kp c__row_ahead.bd .nil pass0 (pa_cons (pv 3) (pa_cons (pv 2) (pa_cons (pv 0) pa_nil))))))) pa_nil)))) (pa_cons (pv 1) pa_nil)))))), ?_⟩
      refine q_drop (ev_call (ea_cons (ev_var rfl) (ea_cons (ev_var rfl) ea_nil)) (spv_need_rows hs h1 h2 h3 h4)) fun H1 e1 => ?_
      refine ret_k (call_k (ac_l (xs := (EL n rs).map V.int) (by
        unfold EL
        rw [← given_F]
        refine el_lcR1 (fun _ => true) (fun i => V.int (earT (n : Int) rs (i : Int))) (ea_cons (ev_var rfl) ea_nil) (by omega) (fun _ => rfl) (fun _ _ _ _ => lc_yes) (fun i H2 e2 hi _ => ?_)
        exact ev_cbL (el_rowsL (fun r => V.int (early (n : Int) r (i : Int))) (ev_var rfl) (hL.mono (e1.trans e2)) (by omega) (fun _ => rfl) (fun U r H3 e3 _ hU => ev_call (ea_cons (ev_var rfl) (ea_cons (ev_var rfl) (ea_cons (ev_var rfl) ea_nil))) (spv_ahead hU h1 h2))) fun p H3 _ h => rc_maxR h (ear_is h0 _)) fun l H2 hl e2 h5 => ac_v (ev_var rfl) fun H3 e3 => ac_nil ?_))
      exact ⟨l, a, EL n rs, rs, rfl, .inl (e3 l _ h5), EL_good h1 h2 h3, hs.mono ((e1.trans e2).trans e3), h4, fun q p H4 hp e4 t => k1 ((EL_kept h1 h2 h3) ▸ q) p H4 (fresh_back ((e1.trans e2).trans e3) hp) (((e1.trans e2).trans e3).trans e4) (t.back ((e1.trans e2).trans e3)), fun q H4 e4 => k2 ((EL_kept h1 h2 h3) ▸ q) H4 (((e1.trans e2).trans e3).trans e4)⟩
    · refine ⟨_, (pss_cons (ps_expr (pe_call c__need_rows.ok (hr.mono (by decide)) (by rfl) c__need_rows.mgx c__need_rows.kp c__need_rows.bd .nil pass0 (pa_cons (pv 0) (pa_cons (pv 1) pa_nil)))) (pss_one (ps_ret (pe_call c__serving.ok (hr.mono (by decide)) (by rfl) c__serving.mgx c__serving.kp c__serving.bd .nil pass0 (pa_cons (pe_lc (own := [("day", 2)]) (g := (gName 2)) (by rfl) sc_earliest_with.nd (pi_range1 (by rfl) T.b_range (pa_cons (pv 0) pa_nil)) (blkOk_by (own := [("day", 2)]) (N := ["count", "rows", "day", "row"]) (sc := defScope s_earliest_with) (by decide +kernel)) (fun _ _ _ _ _ => (pg_name (i := 2) sc_earliest_with.nd rfl (Or.inr rfl))) (fun _ _ _ _ _ => pts_nil) (fun _ _ _ _ _ => (pe_callB (maxL (K := K) rfl rfl) (by rfl) T.b_max (by decide +kernel) (pa_cons (by exact (pe_lc (own := [("row", 3)]) (g := (gName 3)) (by rfl) sc_earliest_with.nd (piT (K := K) rfl (pv 1)) (blkOk_by (own := [("row", 3)]) (by rfl)) (fun _ _ _ _ _ => (pg_name (i := 3) sc_earliest_with.nd rfl (Or.inl rfl))) (fun _ _ _ _ _ => pts_nil) (fun _ _ _ _ _ => (pe_call c__row_ahead.ok (hr.mono (by decide)) (by rfl) c__row_ahead.mgx c__row_ahead.kp c__row_ahead.bd .nil pass0 (pa_cons (pv 3) (pa_cons (pv 2) (pa_cons (pv 0) pa_nil))))))) pa_nil)))) (pa_cons (pv 1) pa_nil)))))), ?_⟩
      refine q_drop (ev_call (ea_cons (ev_var rfl) (ea_cons (ev_var rfl) ea_nil)) (spv_need_rows hs h1 h2 h3 h4)) fun H1 e1 => ?_
      refine ret_k (call_k (ac_l (xs := (EL n rs).map V.int) (by
        unfold EL
        rw [← given_F]
        refine el_lcR1 (fun _ => true) (fun i => V.int (earT (n : Int) rs (i : Int))) (ea_cons (ev_var rfl) ea_nil) (by omega) (fun _ => rfl) (fun _ _ _ _ => lc_yes) (fun i H2 e2 hi _ => ?_)
        exact ev_cbL (el_rowsU (fun r => V.int (early (n : Int) r (i : Int))) (ev_var rfl) (hU.mono (e1.trans e2)) (by omega) (fun _ => rfl) (fun U r H3 e3 _ hU => ev_call (ea_cons (ev_var rfl) (ea_cons (ev_var rfl) (ea_cons (ev_var rfl) ea_nil))) (spv_ahead hU h1 h2))) fun p H3 _ h => rc_maxR h (ear_is h0 _)) fun l H2 hl e2 h5 => ac_v (ev_var rfl) fun H3 e3 => ac_nil ?_))
      exact ⟨l, a, EL n rs, rs, rfl, .inl (e3 l _ h5), EL_good h1 h2 h3, hs.mono ((e1.trans e2).trans e3), h4, fun q p H4 hp e4 t => k1 ((EL_kept h1 h2 h3) ▸ q) p H4 (fresh_back ((e1.trans e2).trans e3) hp) (((e1.trans e2).trans e3).trans e4) (t.back ((e1.trans e2).trans e3)), fun q H4 e4 => k2 ((EL_kept h1 h2 h3) ▸ q) H4 (((e1.trans e2).trans e3).trans e4)⟩
theorem ok_latest {f f1 f2 f3 : Addr} {fd fd1 fd2 fd3 : FuncData} (F : Fun K "latest_with" "latest_with" s_latest_with f fd) (T : Txt K mg C) (c__need_rows : Cal P w K mg base "_need_rows" f1 fd1 ["count", "rows"] 4 sp_need_rows) (c__serving : Cal P w K mg base "_serving" f2 fd2 ["days", "rows"] 5 (sp_serving K C))
    (c__row_behind : Cal P w K mg base "_row_behind" f3 fd3 ["row", "day", "length"] 1 sp_row_behind) : FnOk P w K mg base CX0 6 f fd ["count", "rows"] (sp_latest K C) := by
  refine F.ok sc_latest_with (fun vs H Q E h => ?_) (fun cdv A outer s H vs Q E hr h => ?_)
  · obtain ⟨a, n, rs, rfl, _⟩ := h
    rfl
  · obtain ⟨a, n, rs, rfl, hs, h1, h2, h3, h4, k1, k2⟩ := h
    have h0 := ne_of_len h3
    rcases id hs with hL | hU
    · refine ⟨_, (pss_cons (ps_expr (pe_call c__need_rows.ok (hr.mono (by decide)) (by rfl) c__need_rows.mgx c__need_rows.kp c__need_rows.bd .nil pass0 (pa_cons (pv 0) (pa_cons (pv 1) pa_nil)))) (pss_one (ps_ret (pe_call c__serving.ok (hr.mono (by decide)) (by rfl) c__serving.mgx c__serving.kp c__serving.bd .nil pass0 (pa_cons (pe_lc (own := [("day", 2)]) (g := (gName 2)) (by rfl) sc_latest_with.nd (pi_range1 (by rfl) T.b_range (pa_cons (pv 0) pa_nil)) (blkOk_by (own := [("day", 2)]) (N := ["count", "rows", "day", "row"]) (sc := defScope s_latest_with) (by decide +kernel)) (fun _ _ _ _ _ => (pg_name (i := 2) sc_latest_with.nd rfl (Or.inr rfl))) (fun _ _ _ _ _ => pts_nil) (fun _ _ _ _ _ => (pe_callB (minL (K := K) rfl rfl) (by rfl) T.b_min (by decide +kernel) (pa_cons (by exact (pe_lc (own := [("row", 3)]) (g := (gName 3)) (by rfl) sc_latest_with.nd (piL (K := K) rfl (pv 1)) (blkOk_by (own := [("row", 3)]) (by rfl)) (fun _ _ _ _ _ => (pg_name (i := 3) sc_latest_with.nd rfl (Or.inl rfl))) (fun _ _ _ _ _ => pts_nil) (fun _ _ _ _ _ => (pe_call c__row_behind.ok (hr.mono (by decide)) (by rfl) c__row_behind.mgx c__row_behind.kp c__row_behind.bd .nil pass0 (pa_cons (pv 3) (pa_cons (pv 2) (pa_cons (pv 0) pa_nil))))))) pa_nil)))) (pa_cons (pv 1) pa_nil)))))), ?_⟩
      refine q_drop (ev_call (ea_cons (ev_var rfl) (ea_cons (ev_var rfl) ea_nil)) (spv_need_rows hs h1 h2 h3 h4)) fun H1 e1 => ?_
      refine ret_k (call_k (ac_l (xs := (LL n rs).map V.int) (by
        unfold LL
        rw [← given_F]
        refine el_lcR1 (fun _ => true) (fun i => V.int (latT (n : Int) rs (i : Int))) (ea_cons (ev_var rfl) ea_nil) (by omega) (fun _ => rfl) (fun _ _ _ _ => lc_yes) (fun i H2 e2 hi _ => ?_)
        exact ev_cbL (el_rowsL (fun r => V.int (late (n : Int) r (i : Int))) (ev_var rfl) (hL.mono (e1.trans e2)) (by omega) (fun _ => rfl) (fun U r H3 e3 _ hU => ev_call (ea_cons (ev_var rfl) (ea_cons (ev_var rfl) (ea_cons (ev_var rfl) ea_nil))) (spv_behind hU h1 h2))) fun p H3 _ h => rc_minR h (lat_is h0 _)) fun l H2 hl e2 h5 => ac_v (ev_var rfl) fun H3 e3 => ac_nil ?_))
      exact ⟨l, a, LL n rs, rs, rfl, .inl (e3 l _ h5), LL_good h1 h2 h3, hs.mono ((e1.trans e2).trans e3), h4, fun q p H4 hp e4 t => k1 ((LL_kept h1 h2 h3) ▸ q) p H4 (fresh_back ((e1.trans e2).trans e3) hp) (((e1.trans e2).trans e3).trans e4) (t.back ((e1.trans e2).trans e3)), fun q H4 e4 => k2 ((LL_kept h1 h2 h3) ▸ q) H4 (((e1.trans e2).trans e3).trans e4)⟩
    · refine ⟨_, (pss_cons (ps_expr (pe_call c__need_rows.ok (hr.mono (by decide)) (by rfl) c__need_rows.mgx c__need_rows.kp c__need_rows.bd .nil pass0 (pa_cons (pv 0) (pa_cons (pv 1) pa_nil)))) (pss_one (ps_ret (pe_call c__serving.ok (hr.mono (by decide)) (by rfl) c__serving.mgx c__serving.kp c__serving.bd .nil pass0 (pa_cons (pe_lc (own := [("day", 2)]) (g := (gName 2)) (by rfl) sc_latest_with.nd (pi_range1 (by rfl) T.b_range (pa_cons (pv 0) pa_nil)) (blkOk_by (own := [("day", 2)]) (N := ["count", "rows", "day", "row"]) (sc := defScope s_latest_with) (by decide +kernel)) (fun _ _ _ _ _ => (pg_name (i := 2) sc_latest_with.nd rfl (Or.inr rfl))) (fun _ _ _ _ _ => pts_nil) (fun _ _ _ _ _ => (pe_callB (minL (K := K) rfl rfl) (by rfl) T.b_min (by decide +kernel) (pa_cons (by exact (pe_lc (own := [("row", 3)]) (g := (gName 3)) (by rfl) sc_latest_with.nd (piT (K := K) rfl (pv 1)) (blkOk_by (own := [("row", 3)]) (by rfl)) (fun _ _ _ _ _ => (pg_name (i := 3) sc_latest_with.nd rfl (Or.inl rfl))) (fun _ _ _ _ _ => pts_nil) (fun _ _ _ _ _ => (pe_call c__row_behind.ok (hr.mono (by decide)) (by rfl) c__row_behind.mgx c__row_behind.kp c__row_behind.bd .nil pass0 (pa_cons (pv 3) (pa_cons (pv 2) (pa_cons (pv 0) pa_nil))))))) pa_nil)))) (pa_cons (pv 1) pa_nil)))))), ?_⟩
      refine q_drop (ev_call (ea_cons (ev_var rfl) (ea_cons (ev_var rfl) ea_nil)) (spv_need_rows hs h1 h2 h3 h4)) fun H1 e1 => ?_
      refine ret_k (call_k (ac_l (xs := (LL n rs).map V.int) (by
        unfold LL
        rw [← given_F]
        refine el_lcR1 (fun _ => true) (fun i => V.int (latT (n : Int) rs (i : Int))) (ea_cons (ev_var rfl) ea_nil) (by omega) (fun _ => rfl) (fun _ _ _ _ => lc_yes) (fun i H2 e2 hi _ => ?_)
        exact ev_cbL (el_rowsU (fun r => V.int (late (n : Int) r (i : Int))) (ev_var rfl) (hU.mono (e1.trans e2)) (by omega) (fun _ => rfl) (fun U r H3 e3 _ hU => ev_call (ea_cons (ev_var rfl) (ea_cons (ev_var rfl) (ea_cons (ev_var rfl) ea_nil))) (spv_behind hU h1 h2))) fun p H3 _ h => rc_minR h (lat_is h0 _)) fun l H2 hl e2 h5 => ac_v (ev_var rfl) fun H3 e3 => ac_nil ?_))
      exact ⟨l, a, LL n rs, rs, rfl, .inl (e3 l _ h5), LL_good h1 h2 h3, hs.mono ((e1.trans e2).trans e3), h4, fun q p H4 hp e4 t => k1 ((LL_kept h1 h2 h3) ▸ q) p H4 (fresh_back ((e1.trans e2).trans e3) hp) (((e1.trans e2).trans e3).trans e4) (t.back ((e1.trans e2).trans e3)), fun q H4 e4 => k2 ((LL_kept h1 h2 h3) ▸ q) H4 (((e1.trans e2).trans e3).trans e4)⟩
end
end K16
end
section
set_option maxHeartbeats 4000000
namespace K16
open PySem L2 Evl G TM
def sp_learly : Sp := fun vs H Q _ => ∃ (a : Addr) (r : Row) (d : Int) (n : Nat), vs = [.int (n : Int), .ref a, .int d] ∧ H a = some (.tup (rowV r)) ∧ 1 ≤ n ∧ n ≤ 600 ∧ RetV (.int (early (n : Int) r d)) H Q
def sp_llate : Sp := fun vs H Q _ => ∃ (a : Addr) (r : Row) (d : Int) (n : Nat), vs = [.int (n : Int), .ref a, .int d] ∧ H a = some (.tup (rowV r)) ∧ 1 ≤ n ∧ n ≤ 600 ∧ RetV (.int (late (n : Int) r d)) H Q
def sp_kept : Sp := fun vs H Q _ => ∃ (a : Addr) (n : Nat) (rs : List Row), vs = [.int (n : Int), .ref a] ∧ RowsL H a rs ∧ 1 ≤ n ∧ n ≤ 600 ∧ rs.length ≤ 60 ∧ RetV (.bl (keptB (n : Int) rs)) H Q
def toldD (b : Bool) (ns : List Int) : PyData := if b = true then .list [dInts ns, .bool true] else .none
def sp_told (K : PySem.W.Frag) (C : Addr) : Sp := fun vs H Q _ => (vs = [.non] ∧ ∀ H2, Ex H H2 → Q .non H2) ∨ ∃ (p : Addr) (ns : List Int), vs = [.ref p] ∧ Tab K C H p ns ∧ RetD K (toldD true ns) H Q
noncomputable def dueL (n : Nat) (rs : List Row) : List PyData := [toldD (keptB (n : Int) rs) (EL n rs), toldD (keptB (n : Int) rs) (LL n rs)]
def sp_due (K : PySem.W.Frag) : Sp := fun vs H Q _ => ∃ (a : Addr) (n : Nat) (rs : List Row), vs = [.int (n : Int), .ref a] ∧ RowsL H a rs ∧ 1 ≤ n ∧ n ≤ 600 ∧ 1 ≤ rs.length ∧ rs.length ≤ 60 ∧ RetD K (.list (dueL n rs)) H Q
section
variable {K : PySem.W.Frag} {σ : L2.St} {H : Hp} {a C p q : Addr} {r : Row} {d : Int} {n : Nat} {rs : List Row} {ta tb te : TE} {tt : TT} {x : V} {dd : PyData} {tA tk : TA} {E E' : XK}
theorem spv_learly (h : H a = some (.tup (rowV r))) (h1 : 1 ≤ n) (h2 : n ≤ 600) : SpV sp_learly ([.int (n : Int), .ref a, .int d] ++ []) H (.int (early (n : Int) r d)) := fun H1 e Q q E => ⟨a, r, d, n, rfl, e a _ h, h1, h2, q⟩
theorem spv_llate (h : H a = some (.tup (rowV r))) (h1 : 1 ≤ n) (h2 : n ≤ 600) : SpV sp_llate ([.int (n : Int), .ref a, .int d] ++ []) H (.int (late (n : Int) r d)) := fun H1 e Q q E => ⟨a, r, d, n, rfl, e a _ h, h1, h2, q⟩
theorem spv_kept (h : RowsL H a rs) (h1 : 1 ≤ n) (h2 : n ≤ 600) (h4 : rs.length ≤ 60) : SpV sp_kept ([.int (n : Int), .ref a] ++ []) H (.bl (keptB (n : Int) rs)) := fun H1 e Q q E => ⟨a, n, rs, rfl, h.mono e, h1, h2, h4, q⟩
theorem spd_due (h : RowsL H a rs) (h1 : 1 ≤ n) (h2 : n ≤ 600) (h3 : 1 ≤ rs.length) (h4 : rs.length ≤ 60) : SpD K (sp_due K) ([.int (n : Int), .ref a] ++ []) H (.list (dueL n rs)) := fun H1 e Q q E => ⟨a, n, rs, rfl, h.mono e, h1, h2, h3, h4, fun v H2 e2 hv => q v H2 e2 hv⟩
theorem evd_if {b : Bool} (h : EvT tt σ H b) (h1 : b = true → EvD K ta σ H dd) (h2 : b = false → EvD K tb σ H dd) : EvD K (tIf tt ta tb) σ H dd := fun H1 e Q q => h H1 e _ fun H2 e2 => by
  cases b with
  | true => rw [if_pos rfl]; exact h1 rfl H2 (e.trans e2) Q fun v H3 e3 hv => q v H3 (e2.trans e3) hv
  | false => rw [if_neg (by decide)]; exact h2 rfl H2 (e.trans e2) Q fun v H3 e3 hv => q v H3 (e2.trans e3) hv
/-- told(e), e a new Table or none -/
theorem evd_told {b : Bool} {ns : List Int} (h : ∀ H1, Ex H H1 → ∀ Q : VK, RetM K C b ns H1 Q → te σ H1 Q) : EvD K (tCall (sp_told K C) [] E (tCons te tNil)) σ H (toldD b ns) := fun H1 e Q q => h H1 e _ ⟨fun hb p H2 hp e2 t => .inr ⟨p, ns, rfl, t.tab, fun v H3 e3 hv => q v H3 (e2.trans e3) (hb ▸ hv)⟩, fun hb H2 e2 => .inl ⟨rfl, fun H3 e3 => q _ H3 (e2.trans e3) (by rw [hb]; exact .non)⟩⟩
end
section
variable {P : Program} {w : World} {K : PySem.W.Frag} {mg : Str → Option Value} {base : Heap} {C : Addr}
theorem ok_learly {f : Addr} {fd : FuncData} (F : Fun K "_law_early" "_law_early" s__law_early f fd) (T : Txt K mg C) : FnOk P w K mg base CX0 1 f fd ["_law_length", "_law_row", "_law_day"] sp_learly := by
  refine F.ok sc__law_early (fun vs H Q E h => ?_) (fun cdv A outer s H vs Q E hr h => ?_)
  · obtain ⟨a, r, d, n, rfl, _⟩ := h
    rfl
  · obtain ⟨a, r, d, n, rfl, ha, h1, h2, k⟩ := h
    have hs : SqT K H a (rowV r) := st_of ha
    refine ⟨_, (pss_one (ps_ret (pe_op op_add (pe_ix (ixT (K := K) rfl) (pv 1) pe_int (fun _ _ => rfl)) (pe_op op_mul (pe_op op_fdivN (pe_op op_sub (pv 2) (pe_ix (ixT (K := K) rfl) (pv 1) pe_int (fun _ _ => rfl))) (pv 0)) (pv 0))))), ?_⟩
    exact s_ret (ev_is (ev_op (ev_op (ev_var rfl) ev_c (rv_ixT hs (v := .int r.2) rfl)) (ev_op (ev_op (ev_op (ev_var rfl) (ev_op (ev_var rfl) ev_c (rv_ixT hs (v := .int r.1) rfl)) rv_I0) (ev_var rfl) (rv_I ⟨by omega, by omega⟩)) (ev_var rfl) (rv_I (.inr ⟨by omega, by omega⟩))) rv_I0) (by unfold early; rw [Int.fdiv_eq_ediv_of_nonneg _ (by omega)])) k
theorem ok_llate {f : Addr} {fd : FuncData} (F : Fun K "_law_late" "_law_late" s__law_late f fd) (T : Txt K mg C) : FnOk P w K mg base CX0 1 f fd ["_law_length", "_law_row", "_law_day"] sp_llate := by
  refine F.ok sc__law_late (fun vs H Q E h => ?_) (fun cdv A outer s H vs Q E hr h => ?_)
  · obtain ⟨a, r, d, n, rfl, _⟩ := h
    rfl
  · obtain ⟨a, r, d, n, rfl, ha, h1, h2, k⟩ := h
    have hs : SqT K H a (rowV r) := st_of ha
    refine ⟨_, (pss_one (ps_ret (pe_op op_sub (pe_ix (ixT (K := K) rfl) (pv 1) pe_int (fun _ _ => rfl)) (pe_op op_mul (pe_op op_fdivN (pe_op op_sub (pe_ix (ixT (K := K) rfl) (pv 1) pe_int (fun _ _ => rfl)) (pv 2)) (pv 0)) (pv 0))))), ?_⟩
    exact s_ret (ev_is (ev_op (ev_op (ev_var rfl) ev_c (rv_ixT hs (v := .int r.2) rfl)) (ev_op (ev_op (ev_op (ev_op (ev_var rfl) ev_c (rv_ixT hs (v := .int r.1) rfl)) (ev_var rfl) rv_I0) (ev_var rfl) (rv_I ⟨by omega, by omega⟩)) (ev_var rfl) (rv_I (.inr ⟨by omega, by omega⟩))) rv_I0) (by unfold late; rw [Int.fdiv_eq_ediv_of_nonneg _ (by omega)])) k
theorem ok_kept {f f1 : Addr} {fd fd1 : FuncData} (F : Fun K "_law_is_kept" "_law_is_kept" s__law_is_kept f fd) (T : Txt K mg C) (c__law_early : Cal P w K mg base "_law_early" f1 fd1 ["_law_length", "_law_row", "_law_day"] 1 sp_learly) : FnOk P w K mg base CX0 2 f fd ["_law_length", "_law_rows"] sp_kept := by
  refine F.ok sc__law_is_kept (fun vs H Q E h => ?_) (fun cdv A outer s H vs Q E hr h => ?_)
  · obtain ⟨a, n, rs, rfl, _⟩ := h
    rfl
  · obtain ⟨a, n, rs, rfl, hs, h1, h2, h4, k⟩ := h
    obtain ⟨ts, hL, hA⟩ := hs
    have e0 : (ts.map V.ref).length = rs.length := by rw [List.length_map, hA.1]
    refine ⟨_, (pss_cons (ps_for PassesOwn.never rfl (piL (K := K) rfl (pv 1)) (pg_name (i := 2) sc__law_is_kept.nd rfl (Or.inl rfl)) (pss_one (ps_for PassesOwn.never rfl (piL (K := K) rfl (pv 1)) (pg_name (i := 3) sc__law_is_kept.nd rfl (Or.inl rfl)) (pss_one (ps_if (pt_cmpR op_gt (pe_call c__law_early.ok (hr.mono (by decide)) (by rfl) c__law_early.mgx c__law_early.kp c__law_early.bd .nil pass0 (pa_cons (pv 0) (pa_cons (pv 2) (pa_cons (pe_ix (ixT (K := K) rfl) (pv 3) pe_int (fun _ _ => rfl)) pa_nil)))) (pe_ix (ixT (K := K) rfl) (pv 3) pe_int (fun _ _ => rfl)) (nomark _)) (pss_one (ps_ret pe_bl)) pss_nil))))) (pss_one (ps_ret pe_bl))), ?_⟩
    refine q_forLn (ev_var rfl) (sq_of hL) (fun i σ' H' => Ex H H' ∧ (∃ o1 o2 : Option V, σ' = [some (.int (n : Int)), some (.ref a), o1, o2]) ∧ ∀ j r, j < i → rs[j]? = some r → ∀ o, o ∈ rs → early (n : Int) r o.1 ≤ o.2) (fun H1 e1 => ⟨e1, ⟨none, none, rfl⟩, fun j r hj => absurd hj (Nat.not_lt_zero _)⟩) (fun i σ' H' _ h => sq_of (h.1 a _ hL)) (fun i x σ' H' hi h => ?_) (fun σ' H' h => ?_)
    · obtain ⟨e1, ⟨o1, o2, rfl⟩, hk⟩ := h
      obtain ⟨U, r, rfl, hr0, hU⟩ := hA.get hi
      refine s_forLn (ev_var rfl) (sq_of (e1 a _ hL)) (fun i2 σ2 H2 => Ex H H2 ∧ (∃ o2 : Option V, σ2 = [some (.int (n : Int)), some (.ref a), some (.ref U), o2]) ∧ ∀ j o, j < i2 → rs[j]? = some o → early (n : Int) r o.1 ≤ o.2) (fun H1 e2 => ⟨e1.trans e2, ⟨o2, rfl⟩, fun j r hj => absurd hj (Nat.not_lt_zero _)⟩) (fun i2 σ2 H2 _ h => sq_of (h.1 a _ hL)) (fun i2 x2 σ2 H2 hi2 h2' => ?_) (fun σ2 H2 h2' => ?_)
      · obtain ⟨e2, ⟨o3, rfl⟩, hk2⟩ := h2'
        obtain ⟨W, o, rfl, ho0, hW⟩ := hA.get hi2
        have hW2 : SqT K H2 W (rowV o) := st_of (e2 W _ hW)
        refine s_when (b := decide (o.2 < early (n : Int) r o.1)) (et_test (ev_op (ev_call (ea_cons (ev_var rfl) (ea_cons (ev_var rfl) (ea_cons (ev_op (ev_var rfl) ev_c (rv_ixT hW2 (v := .int o.1) rfl)) ea_nil))) (spv_learly (e2 U _ hU) h1 h2)) (ev_op (ev_var rfl) ev_c (rv_ixT hW2 (v := .int o.2) rfl)) rv_I0)) (fun hb H3 e3 => ?_) (fun hb H3 e3 => ?_)
        · have hb' := of_decide_eq_true hb
          have hf : keptB (n : Int) rs = false := by
            cases hq : keptB (n : Int) rs with
            | false => rfl
            | true =>
              have := kept_iff.mp hq r (List.mem_of_getElem? hr0) o (List.mem_of_getElem? ho0)
              omega
          rw [hf] at k
          exact s_ret ev_c fun H4 e4 => k H4 ((e2.trans e3).trans e4)
        · have hb' := of_decide_eq_false hb
          exact ⟨e2.trans e3, ⟨_, rfl⟩, fun j o' hj ho' => by
            by_cases hj2 : j < i2
            · exact hk2 j o' hj2 ho'
            · have : j = i2 := by omega
              subst this
              rw [ho0] at ho'
              cases ho'
              omega⟩
      · obtain ⟨e2, ⟨o3, rfl⟩, hk2⟩ := h2'
        refine ⟨e2, ⟨_, _, rfl⟩, fun j r' hj hr' o ho => ?_⟩
        by_cases hj2 : j < i
        · exact hk j r' hj2 hr' o ho
        · have : j = i := by omega
          subst this
          rw [hr0] at hr'
          cases hr'
          obtain ⟨m, hm, rfl⟩ := List.mem_iff_getElem.mp ho
          exact hk2 m _ (by rw [e0]; exact hm) (List.getElem?_eq_getElem hm)
    · obtain ⟨e1, ⟨o1, o2, rfl⟩, hk⟩ := h
      have ht : keptB (n : Int) rs = true := kept_iff.mpr fun r hr o ho => by
        obtain ⟨m, hm, rfl⟩ := List.mem_iff_getElem.mp hr
        exact hk m _ (by rw [e0]; exact hm) (List.getElem?_eq_getElem hm) o ho
      rw [ht] at k
      exact s_ret ev_c fun H4 e4 => k H4 (e1.trans e4)
theorem ok_told {f f1 : Addr} {fd fd1 : FuncData} (F : Fun K "_law_told" "_law_told" s__law_told f fd) (T : Txt K mg C) (m_days : Met P w K mg base C "days" f1 fd1 ["self"] 1 (sp_days K C)) : FnOk P w K mg base CX0 2 f fd ["_law_table"] (sp_told K C) := by
  refine F.ok sc__law_told (fun vs H Q E h => ?_) (fun cdv A outer s H vs Q E hr h => ?_)
  · rcases h with ⟨rfl, _⟩ | ⟨p, ns, rfl, _⟩ <;> rfl
  · refine ⟨_, (pss_one (ps_ret (pe_ifExp (pt_cmpR op_isN (pv 0) pe_non (nomark _)) pe_non (pe_lst (pa_cons (pe_meth0 (pv 0) T.cl m_days.me m_days.ok (hr.mono (by decide)) m_days.bd .nil pass0) (pa_cons (pe_callB call_isi (by rfl) T.b_isinstance (by decide +kernel) (pa_cons (pv 0) (pa_cons (pe_glob (v := .ref C) rfl T.mg_Table rfl) pa_nil))) pa_nil)))))), ?_⟩
    rcases h with ⟨rfl, k⟩ | ⟨p, ns, rfl, t, k⟩
    · exact s_ret (ev_if (b := true) (et_is (et_test (ev_op (ev_var rfl) ev_c rv_isN)) (decide_eq_true rfl)) (fun _ => ev_c) (fun q => nomatch q)) k
    · obtain ⟨dx, l, h1, h2⟩ := id t
      exact s_retD (K := K) (evd_if (b := false) (et_is (et_test (ev_op (ev_var rfl) ev_c rv_isN)) (decide_eq_false (fun z => by cases z))) (fun q => nomatch q) fun _ => evd_is (evd_lst (evad_cons (evd_ints (el_meth (ev_var rfl) h1 rfl ea_nil (spl_days t))) (evad_cons (evd_bl (b := true) (ev_cb (ea_cons (ev_var rfl) (ea_cons ev_c ea_nil)) (rc_isi (.own C) (fun H1 e => .base (T.tyC H1 p dx _ (e p _ h1))) (by unfold PySem.W.kitOne; rw [if_pos (by simp)])))) evad_nil)) (by show 2 ≤ 100000; decide)) rfl) k
theorem ok_due {f f1 f2 f3 : Addr} {fd fd1 fd2 fd3 : FuncData} (F : Fun K "_law_due" "_law_due" s__law_due f fd) (T : Txt K mg C) (c__law_is_kept : Cal P w K mg base "_law_is_kept" f1 fd1 ["_law_length", "_law_rows"] 2 sp_kept) (c__law_early : Cal P w K mg base "_law_early" f2 fd2 ["_law_length", "_law_row", "_law_day"] 1 sp_learly)
    (c__law_late : Cal P w K mg base "_law_late" f3 fd3 ["_law_length", "_law_row", "_law_day"] 1 sp_llate) : FnOk P w K mg base CX0 3 f fd ["_law_length", "_law_rows"] (sp_due K) := by
  refine F.ok sc__law_due (fun vs H Q E h => ?_) (fun cdv A outer s H vs Q E hr h => ?_)
  · obtain ⟨a, n, rs, rfl, _⟩ := h
    rfl
  · obtain ⟨a, n, rs, rfl, hs, h1, h2, h3, h4, k⟩ := h
    have h0 := ne_of_len h3
    refine ⟨_, (pss_cons (ps_if (pt_not (pt_val (pe_call c__law_is_kept.ok (hr.mono (by decide)) (by rfl) c__law_is_kept.mgx c__law_is_kept.kp c__law_is_kept.bd .nil pass0 (pa_cons (pv 0) (pa_cons (pv 1) pa_nil))))) (pss_one (ps_ret (pe_lst (pa_cons pe_non (pa_cons pe_non pa_nil))))) pss_nil) (pss_cons (ps_setLc (i := 2) (own := [("_law_day", 4)]) (g := (gName 4)) (by rfl) sc__law_due.nd rfl rfl (sw_true rfl rfl rfl (by decide +kernel)) (pi_range1 (by rfl) T.b_range (pa_cons (pv 0) pa_nil)) (blkOk_by (own := [("_law_day", 4)]) (N := ["_law_length", "_law_rows", "_law_early_here", "_law_late_here", "_law_day", "_law_row"]) (sc := defScope s__law_due) (by decide +kernel)) (fun _ _ _ _ _ => (pg_name (i := 4) sc__law_due.nd rfl (Or.inr rfl))) (fun _ _ _ _ _ => pts_nil) (fun _ _ _ _ _ => (pe_callB (maxL (K := K) rfl rfl) (by rfl) T.b_max (by decide +kernel) (pa_cons (by exact (pe_lc (own := [("_law_row", 5)]) (g := (gName 5)) (by rfl) sc__law_due.nd (piL (K := K) rfl (pv 1)) (blkOk_by (own := [("_law_row", 5)]) (by rfl)) (fun _ _ _ _ _ => (pg_name (i := 5) sc__law_due.nd rfl (Or.inl rfl))) (fun _ _ _ _ _ => pts_nil) (fun _ _ _ _ _ => (pe_call c__law_early.ok (hr.mono (by decide)) (by rfl) c__law_early.mgx c__law_early.kp c__law_early.bd .nil pass0 (pa_cons (pv 0) (pa_cons (pv 5) (pa_cons (pv 4) pa_nil))))))) pa_nil)))) (pss_cons (ps_setLc (i := 3) (own := [("_law_day", 4)]) (g := (gName 4)) (by rfl) sc__law_due.nd rfl rfl (sw_true rfl rfl rfl (by decide +kernel)) (pi_range1 (by rfl) T.b_range (pa_cons (pv 0) pa_nil)) (blkOk_by (own := [("_law_day", 4)]) (N := ["_law_length", "_law_rows", "_law_early_here", "_law_late_here", "_law_day", "_law_row"]) (sc := defScope s__law_due) (by decide +kernel)) (fun _ _ _ _ _ => (pg_name (i := 4) sc__law_due.nd rfl (Or.inr rfl))) (fun _ _ _ _ _ => pts_nil) (fun _ _ _ _ _ => (pe_callB (minL (K := K) rfl rfl) (by rfl) T.b_min (by decide +kernel) (pa_cons (by exact (pe_lc (own := [("_law_row", 5)]) (g := (gName 5)) (by rfl) sc__law_due.nd (piL (K := K) rfl (pv 1)) (blkOk_by (own := [("_law_row", 5)]) (by rfl)) (fun _ _ _ _ _ => (pg_name (i := 5) sc__law_due.nd rfl (Or.inl rfl))) (fun _ _ _ _ _ => pts_nil) (fun _ _ _ _ _ => (pe_call c__law_late.ok (hr.mono (by decide)) (by rfl) c__law_late.mgx c__law_late.kp c__law_late.bd .nil pass0 (pa_cons (pv 0) (pa_cons (pv 5) (pa_cons (pv 4) pa_nil))))))) pa_nil)))) (pss_one (ps_ret (pe_lst (pa_cons (pe_lst (pa_cons (pv 2) (pa_cons pe_bl pa_nil))) (pa_cons (pe_lst (pa_cons (pv 3) (pa_cons pe_bl pa_nil))) pa_nil)))))))), ?_⟩
    refine q_when (b := !keptB (n : Int) rs) (et_not (et_B (ev_call (ea_cons (ev_var rfl) (ea_cons (ev_var rfl) ea_nil)) (spv_kept hs h1 h2 h4)))) (fun hb H1 e1 => ?_) (fun hb H1 e1 => ?_)
    · have hf : keptB (n : Int) rs = false := by simpa using hb
      exact s_retD (K := K) (evd_is (evd_lst (ds := [.none, .none]) (evad_cons (evd_v ev_c fun _ _ => .non) (evad_cons (evd_v ev_c fun _ _ => .non) evad_nil)) (by show 2 ≤ 100000; decide)) (by unfold dueL; rw [hf]; rfl)) fun v H2 e2 hv => k v H2 (e1.trans e2) hv
    · have hf : keptB (n : Int) rs = true := by simpa using hb
      refine q_asgL (xs := (EL n rs).map V.int) (by
        unfold EL
        rw [← given_F]
        refine el_lcR1 (fun _ => true) (fun i => V.int (earT (n : Int) rs (i : Int))) (ea_cons (ev_var rfl) ea_nil) (by omega) (fun _ => rfl) (fun _ _ _ _ => lc_yes) (fun i H2 e2 hi _ => ?_)
        exact ev_cbL (el_rowsL (fun r => V.int (early (n : Int) r (i : Int))) (ev_var rfl) (hs.mono (e1.trans e2)) (by omega) (fun _ => rfl) (fun U r H3 e3 _ hU => ev_call (ea_cons (ev_var rfl) (ea_cons (ev_var rfl) (ea_cons (ev_var rfl) ea_nil))) (spv_learly hU h1 h2))) fun p H3 _ h => rc_maxR h (ear_is h0 _)) fun l1 H2 _ e2 g1 => ?_
      refine q_asgL (xs := (LL n rs).map V.int) (by
        unfold LL
        rw [← given_F]
        refine el_lcR1 (fun _ => true) (fun i => V.int (latT (n : Int) rs (i : Int))) (ea_cons (ev_var rfl) ea_nil) (by omega) (fun _ => rfl) (fun _ _ _ _ => lc_yes) (fun i H3 e3 hi _ => ?_)
        exact ev_cbL (el_rowsL (fun r => V.int (late (n : Int) r (i : Int))) (ev_var rfl) (hs.mono ((e1.trans e2).trans e3)) (by omega) (fun _ => rfl) (fun U r H4 e4 _ hU => ev_call (ea_cons (ev_var rfl) (ea_cons (ev_var rfl) (ea_cons (ev_var rfl) ea_nil))) (spv_llate hU h1 h2))) fun p H4 _ h => rc_minR h (lat_is h0 _)) fun l2 H3 _ e3 g2 => ?_
      exact s_retD (K := K) (evd_is (evd_lst (evad_cons (evd_lst (evad_cons (evd_ref (ev_var rfl) (dp_ints (sq_of (e3 l1 _ g1)))) (evad_cons (evd_bl (b := true) ev_c) evad_nil)) (by show 2 ≤ 100000; decide)) (evad_cons (evd_lst (evad_cons (evd_ref (ev_var rfl) (dp_ints (sq_of g2))) (evad_cons (evd_bl (b := true) ev_c) evad_nil)) (by show 2 ≤ 100000; decide)) evad_nil)) (by show 2 ≤ 100000; decide)) (by unfold dueL; rw [hf]; rfl)) fun v H4 e4 hv => k v H4 (((e1.trans e2).trans e3).trans e4) hv
end
end K16
end
section
set_option maxHeartbeats 4000000
namespace K16
open PySem L2 Evl G TM
def Rb (rs : List Row) : Prop := ∀ r, r ∈ rs → -100000000000 ≤ r.1 ∧ r.1 ≤ 100000000000 ∧ -100000000000 ≤ r.2 ∧ r.2 ≤ 100000000000
def sp_pair : Sp := fun vs H Q _ => ∃ (a : Addr) (n : Nat) (rs : List Row), vs = [.int (n : Int), .ref a] ∧ RowsL H a rs ∧ 1 ≤ n ∧ n ≤ 600 ∧ 1 ≤ rs.length ∧ rs.length ≤ 60 ∧ Rb rs ∧ RetV (.bl true) H Q
theorem spv_pair {H : Hp} {a : Addr} {n : Nat} {rs : List Row} (h : RowsL H a rs) (h1 : 1 ≤ n) (h2 : n ≤ 600) (h3 : 1 ≤ rs.length) (h4 : rs.length ≤ 60) (hb : Rb rs) : SpV sp_pair ([.int (n : Int), .ref a] ++ []) H (.bl true) := fun H1 e Q q E => ⟨a, n, rs, rfl, h.mono e, h1, h2, h3, h4, hb, q⟩
section
variable {K : PySem.W.Frag} {σ : L2.St} {H : Hp} {a C p q : Addr} {n : Nat} {rs : List Row} {ta tb te : TE} {tA tk : TA} {E : XK}
theorem m_ear (ha : EvA tA σ H [.int (n : Int), .ref a]) (hs : RowsS H a rs) (h1 : 1 ≤ n) (h2 : n ≤ 600) (h3 : 1 ≤ rs.length) (h4 : rs.length ≤ 60) : ∀ H1, Ex H H1 → ∀ Q : VK, RetM K C (keptB (n : Int) rs) (EL n rs) H1 Q → tCall (sp_earliest K C) [] E tA σ H1 Q := fun H1 e Q k =>
  ha H1 e _ fun H2 e2 => ⟨a, n, rs, rfl, hs.mono (e.trans e2), h1, h2, h3, h4, fun hb p H3 hp e3 t => k.1 hb p H3 (fresh_back e2 hp) (e2.trans e3) (t.back e2), fun hb H3 e3 => k.2 hb H3 (e2.trans e3)⟩
theorem m_lat (ha : EvA tA σ H [.int (n : Int), .ref a]) (hs : RowsS H a rs) (h1 : 1 ≤ n) (h2 : n ≤ 600) (h3 : 1 ≤ rs.length) (h4 : rs.length ≤ 60) : ∀ H1, Ex H H1 → ∀ Q : VK, RetM K C (keptB (n : Int) rs) (LL n rs) H1 Q → tCall (sp_latest K C) [] E tA σ H1 Q := fun H1 e Q k =>
  ha H1 e _ fun H2 e2 => ⟨a, n, rs, rfl, hs.mono (e.trans e2), h1, h2, h3, h4, fun hb p H3 hp e3 t => k.1 hb p H3 (fresh_back e2 hp) (e2.trans e3) (t.back e2), fun hb H3 e3 => k.2 hb H3 (e2.trans e3)⟩
theorem m_earU {gV : List V → List V → List V} (hg : ∀ x y, gV [] [x, y] = [y, x]) (ha : EvPU ta σ H rs) (hb : ∀ H1, Ex H H1 → Ev tb σ H1 (.int (n : Int))) (h1 : 1 ≤ n) (h2 : n ≤ 600) (h3 : 1 ≤ rs.length) (h4 : rs.length ≤ 60) : ∀ H1, Ex H H1 → ∀ Q : VK, RetM K C (keptB (n : Int) rs) (EL n rs) H1 Q → tCallN0 2 (sp_earliest K C) gV E (tCons ta (tCons tb tNil)) σ H1 Q := fun H1 e Q k =>
  ha H1 e _ fun p H2 hp e2 hU => (hb H2 (e.trans e2)) H2 (Ex.refl _) _ fun H3 e3 => ⟨rfl, by
    rw [hg]
    exact ⟨p, n, rs, rfl, .inr (hU.mono e3), h1, h2, h3, h4, fun hb p H4 hp e4 t => k.1 hb p H4 (fresh_back (e2.trans e3) hp) ((e2.trans e3).trans e4) (t.back (e2.trans e3)), fun hb H4 e4 => k.2 hb H4 ((e2.trans e3).trans e4)⟩⟩
theorem m_latU {gV : List V → List V → List V} (hg : ∀ x y, gV [] [x, y] = [y, x]) (ha : EvPU ta σ H rs) (hb : ∀ H1, Ex H H1 → Ev tb σ H1 (.int (n : Int))) (h1 : 1 ≤ n) (h2 : n ≤ 600) (h3 : 1 ≤ rs.length) (h4 : rs.length ≤ 60) : ∀ H1, Ex H H1 → ∀ Q : VK, RetM K C (keptB (n : Int) rs) (LL n rs) H1 Q → tCallN0 2 (sp_latest K C) gV E (tCons ta (tCons tb tNil)) σ H1 Q := fun H1 e Q k =>
  ha H1 e _ fun p H2 hp e2 hU => (hb H2 (e.trans e2)) H2 (Ex.refl _) _ fun H3 e3 => ⟨rfl, by
    rw [hg]
    exact ⟨p, n, rs, rfl, .inr (hU.mono e3), h1, h2, h3, h4, fun hb p H4 hp e4 t => k.1 hb p H4 (fresh_back (e2.trans e3) hp) ((e2.trans e3).trans e4) (t.back (e2.trans e3)), fun hb H4 e4 => k.2 hb H4 ((e2.trans e3).trans e4)⟩⟩
end
theorem bd_listF {n : Nat} {f : Int → Int} (h : ∀ i : Nat, i < n → -1000000000000 ≤ f (i : Int) ∧ f (i : Int) ≤ 1000000000000) : Bd (listF n f) := fun m hm => by
  obtain ⟨i, hi, rfl⟩ := List.mem_map.mp hm
  exact h i (List.mem_range.mp hi)
theorem EL_bd {n : Nat} {rs : List Row} (h1 : 1 ≤ n) (h2 : n ≤ 600) (h3 : 1 ≤ rs.length) (hb : Rb rs) : Bd (EL n rs) := bd_listF fun i hi => by
  obtain ⟨r, g1, g2⟩ := ear_ex (L := (n : Int)) (ne_of_len h3) (i : Int)
  have := early_near (L := (n : Int)) (by omega) r (i : Int)
  have := hb r g1
  rw [g2]
  omega
theorem LL_bd {n : Nat} {rs : List Row} (h1 : 1 ≤ n) (h2 : n ≤ 600) (h3 : 1 ≤ rs.length) (hb : Rb rs) : Bd (LL n rs) := bd_listF fun i hi => by
  obtain ⟨r, g1, g2⟩ := lat_ex (L := (n : Int)) (ne_of_len h3) (i : Int)
  have := late_near (L := (n : Int)) (by omega) r (i : Int)
  have := hb r g1
  rw [g2]
  omega
theorem told_fit {b : Bool} {ns : List Int} (hb : Bd ns) (hl : ns.length ≤ 600) : smallD (toldD b ns) = true ∧ bnd (toldD b ns) ≤ 20000 ∧ (toldD b ns).depth ≤ 2 := by
  cases b with
  | false => exact ⟨rfl, by simp [toldD, bnd], by simp [toldD, PyData.depth]⟩
  | true =>
    have d1 := depth_ints ns
    refine ⟨?_, ?_, ?_⟩
    · show smallD (.list [dInts ns, .bool true]) = true
      simp only [smallD, smallAll, Bool.and_true]
      unfold dInts
      simp only [smallD]
      exact smallAll_ints hb
    · show bnd (.list [dInts ns, .bool true]) ≤ 20000
      unfold dInts
      simp only [bnd, bndAll]
      rw [bnd_ints]
      omega
    · show PyData.depth (.list [dInts ns, .bool true]) ≤ 2
      simp only [PyData.depth, PyData.depthAll]
      omega
theorem due_fit {n : Nat} {rs : List Row} (h1 : 1 ≤ n) (h2 : n ≤ 600) (h3 : 1 ≤ rs.length) (hb : Rb rs) : PyData.showable (.list (dueL n rs)) = true ∧ PyData.depth (.list (dueL n rs)) ≤ 60 ∧ (PyData.shown (.list (dueL n rs))).length ≤ sizeLine := by
  obtain ⟨a1, a2, a3⟩ := told_fit (b := keptB (n : Int) rs) (EL_bd h1 h2 h3 hb) (by rw [EL_len]; exact h2)
  obtain ⟨b1, b2, b3⟩ := told_fit (b := keptB (n : Int) rs) (LL_bd h1 h2 h3 hb) (by rw [LL_len]; exact h2)
  have hs : smallD (.list (dueL n rs)) = true := by
    unfold dueL
    simp only [smallD, smallAll, a1, b1, Bool.and_self]
  refine ⟨small_show hs, ?_, Nat.le_trans (small_len hs) ?_⟩
  · unfold dueL
    simp only [PyData.depth, PyData.depthAll]
    omega
  · unfold dueL
    simp only [bnd, bndAll]
    have : sizeLine = 16777216 := by decide
    omega
theorem depth_rws (rs : List Row) : (dRows rs).depth ≤ 2 := by
  unfold dRows
  simp only [PyData.depth]
  have := depth_all (ds := rs.map dRow) (k := 1) fun d hd => by
    obtain ⟨r, _, rfl⟩ := List.mem_map.mp hd
    simp [dRow, PyData.depth, PyData.depthAll]
  omega
section
variable {P : Program} {w : World} {K : PySem.W.Frag} {mg : Str → Option Value} {base : Heap} {C : Addr}
theorem ok_pair {f f1 f2 f3 f4 : Addr} {fd fd1 fd2 fd3 fd4 : FuncData} (F : Fun K "_law_pair_right" "_law_pair_right" s__law_pair_right f fd) (T : Txt K mg C) (c__law_due : Cal P w K mg base "_law_due" f1 fd1 ["_law_length", "_law_rows"] 3 (sp_due K)) (c__law_told : Cal P w K mg base "_law_told" f2 fd2 ["_law_table"] 2 (sp_told K C))
    (c_earliest_with : Cal P w K mg base "earliest_with" f3 fd3 ["count", "rows"] 6 (sp_earliest K C)) (c_latest_with : Cal P w K mg base "latest_with" f4 fd4 ["count", "rows"] 6 (sp_latest K C))
    (kb_earliest_with_rows_count : KBn K fd3 ["count", "rows"] 0 ["rows", "count"] (fun us ws => us ++ ws.reverse) (fun vs zs => vs ++ zs.reverse)) (kb_latest_with_rows_count : KBn K fd4 ["count", "rows"] 0 ["rows", "count"] (fun us ws => us ++ ws.reverse) (fun vs zs => vs ++ zs.reverse)) :
    FnG P w K mg base CX0 7 f fd ["_law_length", "_law_rows"] sp_pair := by
  refine okG F sc__law_pair_right (fun vs H Q E h => ?_) (fun cdv A outer s H vs Q E hg hr h => ?_)
  · obtain ⟨a, n, rs, rfl, _⟩ := h
    rfl
  · obtain ⟨a, n, rs, rfl, hs, h1, h2, h3, h4, hb, k⟩ := h
    have hu := hr.units
    obtain ⟨w1, w2, w3⟩ := due_fit h1 h2 h3 hb
    have hsh : SeqAt.shaped (dRows rs) = true := shaped_small (plain_rows rs) (by have := depth_rws rs; omega)
    refine ⟨_, (pss_cons (ps_set (i := 2) sc__law_pair_right.nd rfl (Or.inl rfl) (pe_call c__law_due.ok (hr.mono (by decide)) (by rfl) c__law_due.mgx c__law_due.kp c__law_due.bd .nil pass0 (pa_cons (pv 0) (pa_cons (pv 1) pa_nil)))) (pss_cons (ps_set (i := 3) sc__law_pair_right.nd rfl (Or.inl rfl) (pe_callTy call_list_of (by rfl) T.b_list (by decide +kernel) (pa_cons (pv 1) pa_nil))) (pss_cons (ps_set (i := 4) sc__law_pair_right.nd rfl (Or.inl rfl) (pe_lst (pa_cons (pe_call c__law_told.ok (hr.mono (by decide)) (by rfl) c__law_told.mgx c__law_told.kp c__law_told.bd .nil pass0 (pa_cons (pe_call c_earliest_with.ok (hr.mono (by decide)) (by rfl) c_earliest_with.mgx c_earliest_with.kp c_earliest_with.bd .nil pass0 (pa_cons (pv 0) (pa_cons (pv 3) pa_nil))) pa_nil)) (pa_cons (pe_call c__law_told.ok (hr.mono (by decide)) (by rfl) c__law_told.mgx c__law_told.kp c__law_told.bd .nil pass0 (pa_cons (pe_call c_latest_with.ok (hr.mono (by decide)) (by rfl) c_latest_with.mgx c_latest_with.kp c_latest_with.bd .nil pass0 (pa_cons (pv 0) (pa_cons (pv 3) pa_nil))) pa_nil)) pa_nil)))) (pss_cons (ps_if (PW.pt (pw_or (pt_cmpR op_ne (pe_callB (call_reprD hg hu) (by rfl) T.b_repr (by decide +kernel) (pa_cons (pv 4) pa_nil)) (pe_callB (call_reprD hg hu) (by rfl) T.b_repr (by decide +kernel) (pa_cons (pv 2) pa_nil)) (nomark _)) (pw_or1 (pt_cmpR (neD (K := K) rfl hr.units) (pv 3) (pv 1) (nomark _))))) (pss_one (ps_ret pe_bl)) pss_nil) (pss_cons (ps_set (i := 4) sc__law_pair_right.nd rfl (Or.inl rfl) (pe_lst (pa_cons (pe_call c__law_told.ok (hr.mono (by decide)) (by rfl) c__law_told.mgx c__law_told.kp c__law_told.bd .nil pass0 (pa_cons (pe_callN0 c_earliest_with.ok (hr.mono (by decide)) (by rfl) c_earliest_with.mgx c_earliest_with.kp kb_earliest_with_rows_count pass0 (pk_cons (pe_callTy call_tuple_of (by rfl) T.b_tuple (by decide +kernel) (pa_cons (pv 3) pa_nil)) (pk_cons (pv 0) pk_nil))) pa_nil)) (pa_cons (pe_call c__law_told.ok (hr.mono (by decide)) (by rfl) c__law_told.mgx c__law_told.kp c__law_told.bd .nil pass0 (pa_cons (pe_callN0 c_latest_with.ok (hr.mono (by decide)) (by rfl) c_latest_with.mgx c_latest_with.kp kb_latest_with_rows_count pass0 (pk_cons (pe_callTy call_tuple_of (by rfl) T.b_tuple (by decide +kernel) (pa_cons (pv 3) pa_nil)) (pk_cons (pv 0) pk_nil))) pa_nil)) pa_nil)))) (pss_one (ps_ret (pe_cmpR op_eq (pe_callB (call_reprD hg hu) (by rfl) T.b_repr (by decide +kernel) (pa_cons (pv 4) pa_nil)) (pe_callB (call_reprD hg hu) (by rfl) T.b_repr (by decide +kernel) (pa_cons (pv 2) pa_nil)) (nomark _))))))))), ?_⟩
    refine q_asgD (K := K) (evd_call (ea_cons (ev_var rfl) (ea_cons (ev_var rfl) ea_nil)) (spd_due hs h1 h2 h3 h4)) fun v1 H1 e1 d1 => ?_
    refine q_asgP (evp_list (ev_var rfl) (hs.mono e1)) fun p H2 _ e2 hp => ?_
    refine q_asgD (K := K) (d := .list (dueL n rs)) (evd_lst (evad_cons (evd_told (m_ear (ea_cons (ev_var rfl) (ea_cons (ev_var rfl) ea_nil)) (.inl hp) h1 h2 h3 h4)) (evad_cons (evd_told (m_lat (ea_cons (ev_var rfl) (ea_cons (ev_var rfl) ea_nil)) (.inl hp) h1 h2 h3 h4)) evad_nil)) (by show 2 ≤ 100000; decide)) fun v3 H3 e3 d3 => ?_
    have d1' := dp_mono (e2.trans e3) d1
    refine q_when (b := false) (et_or (a := false) (b := false) (et_is (et_test (ev_op (ev_repr (evd_ref (ev_var rfl) d3) w1 w2 w3) (ev_repr (evd_ref (ev_var rfl) d1') w1 w2 w3) (rv_ne rfl))) (congrArg not (decide_eq_true (show _ = _ from rfl)))) fun _ =>
      et_is (et_test (evd_neD (evd_ref (ev_var rfl) (dp_rowsL (hp.mono e3))) (evd_ref (ev_var rfl) (dp_rowsL (hs.mono ((e1.trans e2).trans e3)))) hsh hsh)) (by rw [SeqAt.eqv_refl _ (SeqAt.canLay_of_shaped hsh)]; rfl)) (fun q => nomatch q) fun _ H4 e4 => ?_
    refine q_asgD (K := K) (d := .list (dueL n rs)) (evd_lst (evad_cons (evd_told (m_earU (fun _ _ => rfl) (evpu_tuple (ev_var rfl) (hp.mono (e3.trans e4))) (fun _ _ => ev_var rfl) h1 h2 h3 h4)) (evad_cons (evd_told (m_latU (fun _ _ => rfl) (evpu_tuple (ev_var rfl) (hp.mono (e3.trans e4))) (fun _ _ => ev_var rfl) h1 h2 h3 h4)) evad_nil)) (by show 2 ≤ 100000; decide)) fun v5 H5 e5 d5 => ?_
    exact s_ret (ev_is (ev_op (ev_repr (evd_ref (ev_var rfl) d5) w1 w2 w3) (ev_repr (evd_ref (ev_var rfl) (dp_mono (e4.trans e5) d1')) w1 w2 w3) (rv_eq rfl)) (congrArg V.bl (decide_eq_true (show _ = _ from rfl)))) fun H6 e6 => k H6 (((((e1.trans e2).trans e3).trans e4).trans e5).trans e6)
end
end K16
end
section
set_option maxHeartbeats 4000000
namespace K16
open PySem L2 Evl G TM
def Near (ns : List Int) : Prop := ∀ i, i < ns.length → -20000000 ≤ ns.getD i 0 ∧ ns.getD i 0 ≤ 20000000
theorem on_near {ns : List Int} (g : Good ns) (b : Near ns) (x : Int) : x - 20001000 ≤ onL ns x ∧ onL ns x ≤ x + 20001000 := by
  obtain ⟨i, t, hi, rfl⟩ := split_at g x
  rw [on_at g hi]
  have := b i hi
  have := g.most
  omega
theorem RowsAt.off {H : Hp} {ts : List Addr} {rs : List Row} {q : Addr} {xs : List V} {o : HO} (h : RowsAt H ts rs) (hq : H q = some (.lst xs)) : RowsAt (upd H q o) ts rs := ⟨h.1, fun j U r a b => by
  have e := h.2 j U r a b
  rw [upd_ne (ne_of e hq (fun z => by cases z))]
  exact e⟩
def Rs (rs : List Row) : Prop := ∀ r, r ∈ rs → -1000000000 ≤ r.1 ∧ r.1 ≤ 1000000000 ∧ -1000000000 ≤ r.2 ∧ r.2 ≤ 1000000000
theorem Rs.rb {rs : List Row} (h : Rs rs) : Rb rs := fun r hr => by have := h r hr; omega
def sp_read (K : PySem.W.Frag) : Sp := fun vs H Q _ => ∃ (p l : Addr) (ns : List Int) (m : Nat), vs = [.ref p, .ref l, .int (m : Int)] ∧ PotAt H p ∧ SqL K (wo H p) l (ns.map V.int) ∧ Good ns ∧ ns.length ≤ 24 ∧ Near ns ∧ m ≤ 60 ∧ ∀ (a : Addr) (rs : List Row) (H2 : Hp), rs.length = m → Reads ns rs → Rs rs → H a = none → Ex (wo H p) H2 → RowsL H2 a rs → PotAt H2 p → Q (.ref a) H2
structure Btw (n : Nat) (es ls fs : List Int) : Prop where
  len : fs.length = n
  lo : ∀ i, i < n → es.getD i 0 ≤ fs.getD i 0
  hi : ∀ i, i < n → fs.getD i 0 ≤ ls.getD i 0
def sp_between (K : PySem.W.Frag) : Sp := fun vs H Q _ => ∃ (p a b : Addr) (n : Nat) (es ls : List Int), vs = [.ref p, .ref a, .ref b, .int (n : Int)] ∧ PotAt H p ∧ SqL K (wo H p) a (es.map V.int) ∧ SqL K (wo H p) b (ls.map V.int) ∧ es.length = n ∧ ls.length = n ∧ n ≤ 600 ∧ (∀ i, i < n → es.getD i 0 ≤ ls.getD i 0) ∧ (∀ i j : Nat, i ≤ j → j < n → ls.getD i 0 ≤ ls.getD j 0) ∧
  ∀ (q : Addr) (fs : List Int) (H2 : Hp), Btw n es ls fs → H q = none → Ex (wo H p) H2 → H2 q = some (.lst (fs.map V.int)) → PotAt H2 p → Q (.ref q) H2
section
variable {K : PySem.W.Frag} {σ : L2.St} {H : Hp} {l : Addr} {ta te : TE} {D : Ends} {xs : List V}
/-- l.append(e), e read by hand -/
theorem app_k (ha : Ev ta σ H (.ref l)) (hl : H l = some (.lst xs)) (h : ∀ H1, Ex H H1 → te σ H1 fun v H2 => ∃ (l' : Addr) (xs' : List V) (v' : V), V.ref l = .ref l' ∧ [v] = [v'] ∧ H2 l' = some (.lst xs') ∧ xs'.length < sizeLine ∧ D.nx σ (upd H2 l' (.lst (xs' ++ [v'])))) : tDrop (tBM K "list" rAppend ta (tCons te tNil)) D σ H := ha H (Ex.refl H) _ fun H1 e1 =>
  ⟨Or.inl ⟨rfl, xs, sq_of (e1 l _ hl)⟩, h H1 e1⟩
end
theorem eqv_nil (fs : List Int) : PyData.eqv (dInts fs) (.list []) = fs.isEmpty := by
  cases fs with
  | nil => rfl
  | cons a fs => rfl
section
variable {P : Program} {w : World} {K : PySem.W.Frag} {mg : Str → Option Value} {base : Heap} {C : Addr}
theorem ok_read {f f1 f2 f3 : Addr} {fd fd1 fd2 fd3 : FuncData} (F : Fun K "_law_read" "_law_read" s__law_read f fd) (T : Txt K mg C) (c__law_pick : Cal P w K mg base "_law_pick" f1 fd1 ["_law_pot_here", "_law_some"] 2 (sp_pick K)) (c__law_draw : Cal P w K mg base "_law_draw" f2 fd2 ["_law_pot_here", "_law_size"] 1 sp_draw) (c__law_on : Cal P w K mg base "_law_on" f3 fd3 ["_law_days_here", "_law_day"] 1 (sp_lon K)) :
    FnOk P w K mg base CX0 3 f fd ["_law_pot_here", "_law_days_here", "_law_many"] (sp_read K) := by
  refine F.ok sc__law_read (fun vs H Q E h => ?_) (fun cdv A outer s H vs Q E hr h => ?_)
  · obtain ⟨p, l, ns, m, rfl, _⟩ := h
    rfl
  · obtain ⟨p, l, ns, m, rfl, hp, hs, g, h24, nr, hm, k⟩ := h
    have e0 : (ns.map V.int).length = ns.length := List.length_map ..
    have hgp := g.pos
    refine ⟨_, (pss_cons (ps_set (i := 3) sc__law_read.nd rfl (Or.inl rfl) (pe_lst pa_nil)) (pss_cons (ps_for PassesOwn.never rfl (pi_range1 (by rfl) T.b_range (pa_cons (pv 2) pa_nil)) (pg_name (i := 4) sc__law_read.nd rfl (Or.inl rfl)) (pss_cons (ps_set (i := 5) sc__law_read.nd rfl (Or.inl rfl) (pe_op op_add (pe_call c__law_pick.ok (hr.mono (by decide)) (by rfl) c__law_pick.mgx c__law_pick.kp c__law_pick.bd .nil pass0 (pa_cons (pv 0) (pa_cons (pe_lst (pa_cons pe_int (pa_cons (pe_callB (lenS (K := K) rfl) (by rfl) T.b_len (by decide +kernel) (pa_cons (pv 1) pa_nil)) (pa_cons (pe_un un_neg pe_int) (pa_cons (pe_op op_pow pe_int pe_int) (pa_cons (pe_op op_sub pe_int (pe_op op_pow pe_int pe_int)) pa_nil)))))) pa_nil))) (pe_call c__law_draw.ok (hr.mono (by decide)) (by rfl) c__law_draw.mgx c__law_draw.kp c__law_draw.bd .nil pass0 (pa_cons (pv 0) (pa_cons (pe_op op_mul pe_int (pe_callB (lenS (K := K) rfl) (by rfl) T.b_len (by decide +kernel) (pa_cons (pv 1) pa_nil))) pa_nil))))) (pss_one (ps_expr (pe_bm PySem.F.plainAttrs_list PySem.F.slot_list_append PySem.F.type_list_append mt_append (pv 3) (pa_cons (pe_tup (pa_cons (pv 5) (pa_cons (pe_call c__law_on.ok (hr.mono (by decide)) (by rfl) c__law_on.mgx c__law_on.kp c__law_on.bd .nil pass0 (pa_cons (pv 1) (pa_cons (pv 5) pa_nil))) pa_nil))) pa_nil)))))) (pss_one (ps_ret (pv 3))))), ?_⟩
    refine q_asgL (xs := []) (el_lst ea_nil (by show 0 ≤ 100000; decide)) fun q H1 hq e1 h1 => ?_
    obtain ⟨o, ho⟩ := hp.some
    have hqp : q ≠ p := (ne_of_none ho hq).symm
    have hqw : wo H p q = none := by rw [wo_ne hqp]; exact hq
    refine q_forR1 (n := (m : Int)) (ea_cons (ev_var rfl) ea_nil) (by omega) (fun i σ' H' => ∃ (ts : List Addr) (rs : List Row) (o1 o2 : Option V), σ' = [some (.ref p), some (.ref l), some (.int (m : Int)), some (.ref q), o1, o2] ∧ rs.length = i ∧ Reads ns rs ∧ Rs rs ∧ Ex (wo H p) H' ∧ H' q = some (.lst (ts.map V.ref)) ∧ RowsAt H' ts rs ∧ PotAt H' p) (fun H2 e2 => ?_) (fun i σ' H' hi hpv => ?_) (fun σ' H' hpv => ?_)
    · exact ⟨[], [], none, none, rfl, rfl, fun r hr => by simp at hr, fun r hr => by simp at hr, wo_ex.trans (e1.trans e2), e2 q _ h1, .nil, hp.mono (e1.trans e2)⟩
    · obtain ⟨ts, rs, o1, o2, rfl, hl, hrd, hrb, e3, h3, hA, hp3⟩ := hpv
      have hs3 : SqL K (wo H' p) l (ns.map V.int) := ex_l (wo_sub e3) hs
      refine asg_k (op_k (pickC (xs := ([0, (ns.length : Int), -1, 10 ^ 6, 0 - 10 ^ 6] : List Int).map V.int) hp3 rfl (ea_cons ev_c (ea_cons (ev_cb (ea_cons (ev_var rfl) ea_nil) (rc_len (.inl hs3) e0)) (ea_cons (ev_un ev_c ru_neg) (ea_cons (ev_op ev_c ev_c (rv_I (by unfold CPow; decide))) (ea_cons (ev_op ev_c (ev_op ev_c ev_c (rv_I (by unfold CPow; decide))) rv_I0) ea_nil))))) (by show 0 < 5; decide) (by show 5 ≤ 1000; decide) fun j v H4 hj e4 hp4 => ?_))
      obtain ⟨c, c1, c2, rfl⟩ : ∃ c : Int, -1000000 ≤ c ∧ c ≤ 1000000 ∧ v = .int c := by
        rw [List.getElem?_map] at hj
        obtain ⟨c, hc, rfl⟩ := Option.map_eq_some_iff.mp hj
        have hm := List.mem_of_getElem? hc
        simp only [List.mem_cons, List.mem_nil_iff, or_false] at hm
        exact ⟨c, by omega, by omega, rfl⟩
      clear hj
      have hs4 : SqL K (wo H4 p) l (ns.map V.int) := ex_l (wo_sub e4) hs3
      refine drawC (n := 3 * (ns.length : Int)) hp4 rfl (ev_op ev_c (ev_cb (ea_cons (ev_var rfl) ea_nil) (rc_len (.inl hs4) e0)) (rv_I (.inl ⟨by decide, by decide⟩))) (by omega) (by omega) fun d H5 d0 d1 e5 hp5 => rv_I0 H5 (Ex.refl _) _ fun H6 e6 => ?_
      have e36 : Ex (wo H' p) H6 := ((wo_sub e4).trans e5).trans e6
      have hs6 : SqL K H6 l (ns.map V.int) := ex_l e36 hs3
      have hp6 := hp5.mono e6
      have h6 : H6 q = some (.lst (ts.map V.ref)) := e36 q _ (by rw [wo_ne hqp]; exact h3)
      have hA6 : RowsAt H6 ts rs := ⟨hA.1, fun j U r a b => e36 U _ (by
        have e9 := hA.2 j U r a b
        obtain ⟨x1, x2, _, hpp⟩ := hp3
        rw [wo_ne (ne_of e9 hpp (fun z => by cases z))]
        exact e9)⟩
      refine s_appU h6 (ev_var rfl) (eu_tup (ea_cons (ev_var rfl) (ea_cons (ev_call (ea_cons (ev_var rfl) (ea_cons (ev_var rfl) ea_nil)) (spv_lon hs6 g)) ea_nil)) (by show 2 ≤ 100000; decide)) (by rw [List.length_map, hA.1]; omega) fun pt H7 hpt e7 h7 => ?_
      have nr6 := on_near g nr (c + d)
      refine ⟨ts ++ [pt], rs ++ [(c + d, onL ns (c + d))], _, _, rfl, by rw [List.length_append, hl]; rfl, fun r hr => ?_, fun r hr => ?_, ?_, by rw [upd_same, List.map_append]; rfl, ?_, pot_off (hp6.mono e7) hqp.symm⟩
      · rcases List.mem_append.mp hr with hr | hr
        · exact hrd r hr
        · have : r = (c + d, onL ns (c + d)) := by simpa using hr
          subst this
          rfl
      · rcases List.mem_append.mp hr with hr | hr
        · exact hrb r hr
        · have : r = (c + d, onL ns (c + d)) := by simpa using hr
          subst this
          refine ⟨?_, ?_, ?_, ?_⟩ <;> (show _ ≤ _) <;> omega
      · exact Ex.mut (((wo_sub e3).trans e36).trans e7) hqw
      · exact RowsAt.off ((hA6.mono e7).app (.one (r := (c + d, onL ns (c + d))) h7)) (e7 q _ h6)
    · obtain ⟨ts, rs, o1, o2, rfl, hl, hrd, hrb, e3, h3, hA, hp3⟩ := hpv
      rw [Int.toNat_natCast] at hl
      exact s_ret (ev_var rfl) fun H4 e4 => k q rs H4 hl hrd hrb hq (e3.trans e4) ⟨ts, e4 q _ h3, hA.mono e4⟩ (hp3.mono e4)
end
end K16
end
section
set_option maxHeartbeats 4000000
namespace K16
open PySem L2 Evl G TM
section
variable {K : PySem.W.Frag} {σ : L2.St} {H : Hp} {tt : TT} {ta tb : TE} {x y : V}
theorem ev_if2 {b : Bool} (h : EvT tt σ H b) (h1 : b = true → Ev ta σ H x) (h2 : b = false → Ev tb σ H y) : Ev (tIf tt ta tb) σ H (if b = true then x else y) := ev_if h (fun q => by rw [if_pos q]; exact h1 q) (fun q => by rw [if_neg (by rw [q]; decide)]; exact h2 q)
end
section
variable {P : Program} {w : World} {K : PySem.W.Frag} {mg : Str → Option Value} {base : Heap} {C : Addr}
theorem ok_between {f f1 : Addr} {fd fd1 : FuncData} (F : Fun K "_law_between" "_law_between" s__law_between f fd) (T : Txt K mg C) (c__law_draw : Cal P w K mg base "_law_draw" f1 fd1 ["_law_pot_here", "_law_size"] 1 sp_draw) : FnOk P w K mg base CX0 2 f fd ["_law_pot_here", "_law_early_here", "_law_late_here", "_law_length"] (sp_between K) := by
  refine F.ok sc__law_between (fun vs H Q E h => ?_) (fun cdv A outer s H vs Q E hr h => ?_)
  · obtain ⟨p, a, b, n, es, ls, rfl, _⟩ := h
    rfl
  · obtain ⟨p, a, b, n, es, ls, rfl, hp, he, hl, ne, nl, hn, hel, hup, k⟩ := h
    have hu := hr.units
    refine ⟨_, (pss_cons (ps_set (i := 4) sc__law_between.nd rfl (Or.inl rfl) (pe_lst pa_nil)) (pss_cons (ps_for PassesOwn.never rfl (pi_range1 (by rfl) T.b_range (pa_cons (pv 3) pa_nil)) (pg_name (i := 5) sc__law_between.nd rfl (Or.inl rfl)) (pss_cons (ps_set (i := 6) sc__law_between.nd rfl (Or.inl rfl) (pe_ifExp (pt_cmpR (eqD (K := K) rfl hr.units) (pv 4) (pe_lst pa_nil) (nomark _)) (pe_ix (ixL (K := K) rfl) (pv 1) (pv 5) (fun _ _ => rfl)) (pe_callB (call_max2 rfl) (by rfl) T.b_max (by decide +kernel) (pa_cons (pe_ix (ixL (K := K) rfl) (pv 1) (pv 5) (fun _ _ => rfl)) (pa_cons (pe_ix (ixL (K := K) rfl) (pv 4) (pe_un un_neg pe_int) (fun _ _ => rfl)) pa_nil))))) (pss_cons (ps_set (i := 7) sc__law_between.nd rfl (Or.inl rfl) (pe_ifExp (pt_cmpR (eqD (K := K) rfl hr.units) (pv 4) (pe_lst pa_nil) (nomark _)) (pe_ix (ixL (K := K) rfl) (pv 2) (pv 5) (fun _ _ => rfl)) (pe_callB (call_min2 rfl) (by rfl) T.b_min (by decide +kernel) (pa_cons (pe_ix (ixL (K := K) rfl) (pv 2) (pv 5) (fun _ _ => rfl)) (pa_cons (pe_op op_add (pe_ix (ixL (K := K) rfl) (pv 4) pe_int (fun _ _ => rfl)) (pv 3)) pa_nil))))) (pss_one (ps_expr (pe_bm PySem.F.plainAttrs_list PySem.F.slot_list_append PySem.F.type_list_append mt_append (pv 4) (pa_cons (pe_op op_add (pv 6) (pe_call c__law_draw.ok (hr.mono (by decide)) (by rfl) c__law_draw.mgx c__law_draw.kp c__law_draw.bd .nil pass0 (pa_cons (pv 0) (pa_cons (pe_callB (call_max2 rfl) (by rfl) T.b_max (by decide +kernel) (pa_cons pe_int (pa_cons (pe_callB (call_min2 rfl) (by rfl) T.b_min (by decide +kernel) (pa_cons pe_int (pa_cons (pe_op op_add (pe_op op_sub (pv 7) (pv 6)) pe_int) pa_nil))) pa_nil))) pa_nil)))) pa_nil))))))) (pss_one (ps_ret (pv 4))))), ?_⟩
    refine q_asgL (xs := []) (el_lst ea_nil (by show 0 ≤ 100000; decide)) fun q H1 hq e1 h1 => ?_
    obtain ⟨o, ho⟩ := hp.some
    have hqp : q ≠ p := (ne_of_none ho hq).symm
    have hqw : wo H p q = none := by rw [wo_ne hqp]; exact hq
    refine q_forR1 (n := (n : Int)) (ea_cons (ev_var rfl) ea_nil) (by omega) (fun i σ' H' => ∃ (fs : List Int) (o1 o2 o3 : Option V), σ' = [some (.ref p), some (.ref a), some (.ref b), some (.int (n : Int)), some (.ref q), o1, o2, o3] ∧ fs.length = i ∧ (∀ j, j < i → es.getD j 0 ≤ fs.getD j 0 ∧ fs.getD j 0 ≤ ls.getD j 0) ∧ Ex (wo H p) H' ∧ H' q = some (.lst (fs.map V.int)) ∧ PotAt H' p) (fun H2 e2 => ?_) (fun i σ' H' hi hpv => ?_) (fun σ' H' hpv => ?_)
    · exact ⟨[], none, none, none, rfl, rfl, fun j hj => absurd hj (Nat.not_lt_zero _), wo_ex.trans (e1.trans e2), e2 q _ h1, hp.mono (e1.trans e2)⟩
    · obtain ⟨fs, o1, o2, o3, rfl, hfl, hbt, e3, h3, hp3⟩ := hpv
      have hin : i < n := by omega
      have he3 : SqL K H' a (es.map V.int) := ex_l e3 he
      have hl3 : SqL K H' b (ls.map V.int) := ex_l e3 hl
      have isE : ∀ H2, Ex H' H2 → EvT (tTest (tOp (rEqD K) (tVar 4) (tLst tNil))) ([some (.ref p), some (.ref a), some (.ref b), some (.int (n : Int)), some (.ref q), some (.int (i : Int)), o2, o3] : L2.St) H2 fs.isEmpty := fun H2 e2 =>
        et_is (et_test (evd_eqD (evd_ref (ev_var rfl) (dp_ints (sq_of (e2 q _ h3)))) (evd_lst evad_nil (by show 0 ≤ 100000; decide)) (shaped_small (smallD_of fs) (by have := depth_ints fs; omega)) rfl)) (eqv_nil fs)
      have isE2 : ∀ (v : V) H2, Ex H' H2 → EvT (tTest (tOp (rEqD K) (tVar 4) (tLst tNil))) ([some (.ref p), some (.ref a), some (.ref b), some (.int (n : Int)), some (.ref q), some (.int (i : Int)), some v, o3] : L2.St) H2 fs.isEmpty := fun v H2 e2 =>
        et_is (et_test (evd_eqD (evd_ref (ev_var rfl) (dp_ints (sq_of (e2 q _ h3)))) (evd_lst evad_nil (by show 0 ≤ 100000; decide)) (shaped_small (smallD_of fs) (by have := depth_ints fs; omega)) rfl)) (eqv_nil fs)
      -- least, most
      obtain ⟨lo, hlo⟩ : ∃ lo : Int, lo = (if fs.isEmpty = true then es.getD i 0 else if fs.getD (fs.length - 1) 0 > es.getD i 0 then fs.getD (fs.length - 1) 0 else es.getD i 0) := ⟨_, rfl⟩
      obtain ⟨hi', hhi⟩ : ∃ hi' : Int, hi' = (if fs.isEmpty = true then ls.getD i 0 else if fs.getD 0 0 + (n : Int) < ls.getD i 0 then fs.getD 0 0 + (n : Int) else ls.getD i 0) := ⟨_, rfl⟩
      have hpos : fs.isEmpty = false → 1 ≤ fs.length := fun z => by
        cases fs with
        | nil => cases z
        | cons a fs => simp
      refine q_asg (v := .int lo) (ev_is (ev_if2 (isE H' (Ex.refl _)) (fun _ => ev_op (ev_var rfl) (ev_var rfl) (rv_ixL he3 (atI_nat (getI (by omega : i < es.length))))) (fun hf => ev_cb (ea_cons (ev_op (ev_var rfl) (ev_var rfl) (rv_ixL he3 (atI_nat (getI (by omega : i < es.length))))) (ea_cons (ev_op (ev_var rfl) (ev_un ev_c ru_neg) (rv_ixL (sq_of h3) (atI_m1 (hpos hf)))) ea_nil)) rc_max2)) (by rw [hlo]; split <;> rfl)) fun H4 e4 => ?_
      have e34 := e3.trans e4
      refine q_asg (v := .int hi') (ev_is (ev_if2 (isE2 (.int lo) H4 e4) (fun _ => ev_op (ev_var rfl) (ev_var rfl) (rv_ixL (ex_l e4 hl3) (atI_nat (getI (by omega : i < ls.length))))) (fun hf => ev_cb (ea_cons (ev_op (ev_var rfl) (ev_var rfl) (rv_ixL (ex_l e4 hl3) (atI_nat (getI (by omega : i < ls.length))))) (ea_cons (ev_op (ev_op (ev_var rfl) ev_c (rv_ixL (sq_of (e4 q _ h3)) (atI_int (by decide) (by have := hpos hf; omega)))) (ev_var rfl) rv_I0) ea_nil)) rc_min2)) (by rw [hhi]; split <;> rfl)) fun H5 e5 => ?_
      have e35 := e34.trans e5
      have h5 := (e4.trans e5) q _ h3
      have hp5 := hp3.mono (e4.trans e5)
      refine app_k (ev_var rfl) h5 fun H6 e6 => op_k ?_
      refine v_k (ev_var rfl) fun H7 e7 => ?_
      have e57 := e6.trans e7
      obtain ⟨z, hz⟩ : ∃ z : Int, z = (if (if hi' - lo + 1 < 4 then hi' - lo + 1 else 4) > 1 then (if hi' - lo + 1 < 4 then hi' - lo + 1 else 4) else 1) := ⟨_, rfl⟩
      refine drawC (n := z) (hp5.mono e57) rfl (ev_is (ev_cb (ea_cons ev_c (ea_cons (ev_cb (ea_cons ev_c (ea_cons (ev_op (ev_op (ev_var rfl) (ev_var rfl) rv_I0) ev_c rv_I0) ea_nil)) rc_min2) ea_nil)) rc_max2) (by rw [hz])) (by rw [hz]; split <;> omega) (by rw [hz]; split <;> split <;> omega) fun d H8 d0 d1 e8 hp8 => rv_I0 H8 (Ex.refl _) _ fun H9 e9 => ?_
      have h7 : H7 q = some (.lst (fs.map V.int)) := e57 q _ h5
      have h9 : H9 q = some (.lst (fs.map V.int)) := e9 q _ (e8 q _ (by rw [wo_ne hqp]; exact h7))
      have hg : (fs ++ [lo + d]).length = i + 1 := by rw [List.length_append, hfl]; rfl
      have e39 : Ex (wo H p) H9 := ((wo_sub (e35.trans e57)).trans e8).trans e9
      refine ⟨q, fs.map V.int, .int (lo + d), rfl, rfl, h9, by rw [List.length_map]; exact sz_lt (by omega), fs ++ [lo + d], _, _, _, rfl, hg, fun j hj => ?_, ?_, by rw [upd_same, List.map_append]; rfl, pot_off (hp8.mono e9) hqp.symm⟩
      · have main : es.getD i 0 ≤ lo + d ∧ lo + d ≤ ls.getD i 0 := by
          have a1 := hel i hin
          have a4 : lo ≤ ls.getD i 0 ∧ es.getD i 0 ≤ lo := by
            rw [hlo]
            split
            · exact ⟨a1, Int.le_refl _⟩
            · rename_i hf
              have hf' : fs.isEmpty = false := by simpa using hf
              have h1f := hpos hf'
              have a2 := (hbt (fs.length - 1) (by omega)).2
              have a3 := hup (fs.length - 1) i (by omega) hin
              split <;> omega
          have a5 : hi' ≤ ls.getD i 0 := by
            rw [hhi]
            split
            · exact Int.le_refl _
            · split <;> omega
          rw [hz] at d1
          split at d1 <;> (try split at d1) <;> omega
        by_cases hj2 : j < fs.length
        · rw [getD_app1 hj2]
          exact hbt j (by omega)
        · have : j = fs.length := by omega
          subst this
          rw [getD_app2, hfl]
          exact main
      · exact Ex.mut e39 hqw
    · obtain ⟨fs, o1, o2, o3, rfl, hfl, hbt, e3, h3, hp3⟩ := hpv
      rw [Int.toNat_natCast] at hfl hbt
      exact s_ret (ev_var rfl) fun H4 e4 => k q fs H4 ⟨hfl, fun j hj => (hbt j hj).1, fun j hj => (hbt j hj).2⟩ hq (e3.trans e4) (e4 q _ h3) (hp3.mono e4)
end
end K16
end
section
set_option maxHeartbeats 4000000
namespace K16
open PySem L2 Evl G TM
/-- a Table that stands apart from the pot -/
def Tw (C : Addr) (H : Hp) (p x : Addr) (ns : List Int) : Prop := ∃ dx l, x ≠ p ∧ l ≠ p ∧ H x = some (.ins C dx [("_days", .ref l)]) ∧ H l = some (.lst (ns.map V.int))
theorem Tw.ex {C p x : Addr} {H H' : Hp} {ns : List Int} (t : Tw C H p x ns) (e : Ex H H') : Tw C H' p x ns := let ⟨dx, l, h1, h2, h3, h4⟩ := t; ⟨dx, l, h1, h2, e x _ h3, e l _ h4⟩
theorem Tw.exw {C p x : Addr} {H H' : Hp} {ns : List Int} (t : Tw C H p x ns) (e : Ex (wo H p) H') : Tw C H' p x ns := let ⟨dx, l, h1, h2, h3, h4⟩ := t; ⟨dx, l, h1, h2, e x _ (by rw [wo_ne h1]; exact h3), e l _ (by rw [wo_ne h2]; exact h4)⟩
theorem Tw.tab {K : PySem.W.Frag} {C p x : Addr} {H : Hp} {ns : List Int} (t : Tw C H p x ns) : Tab K C H x ns := let ⟨dx, l, _, _, h3, h4⟩ := t; ⟨dx, l, h3, sq_of h4⟩
theorem Tw.of {C p x : Addr} {H H2 : Hp} {ns : List Int} (hp : PotAt H p) (hx : H x = none) (t : TabN C H H2 x ns) : Tw C H2 p x ns := by
  obtain ⟨o, ho⟩ := hp.some
  obtain ⟨dx, l, h, h1, h2⟩ := t
  exact ⟨dx, l, (ne_of_none ho hx).symm, (ne_of_none ho h).symm, h1, h2⟩
section
variable {K : PySem.W.Frag} {σ : L2.St} {H : Hp} {a b C p q s : Addr} {n : Nat} {rs : List Row} {ta tb te : TE} {tA tr tk : TA} {E : XK} {ns ms : List Int} {D : Ends} {tz : TS} {i j : Nat} {QA : List V → Hp → Prop} {M : Hp → Addr → Prop} {t : TT} {tu : TS}
theorem par2_k (h : tA σ H fun vs H1 => ∃ v w, vs = [v, w] ∧ tz D ((σ.set i (some v)).set j (some w)) H1) : tSeq (tPar i j tA) tz D σ H := h
theorem ac_m (h : EvM te σ H M) (k : ∀ p H1, H p = none → Ex H H1 → M H1 p → tr σ H1 fun xs H2 => QA (.ref p :: xs) H2) : tCons te tr σ H QA := h H (Ex.refl H) _ k
theorem evm_ear (ha : EvA tA σ H [.int (n : Int), .ref a]) (hs : RowsS H a rs) (h1 : 1 ≤ n) (h2 : n ≤ 600) (h3 : 1 ≤ rs.length) (h4 : rs.length ≤ 60) (hk : keptB (n : Int) rs = true) : EvM (tCall (sp_earliest K C) [] E tA) σ H (fun H2 p => TabN C H H2 p (EL n rs)) := fun H1 e Q q =>
  m_ear ha hs h1 h2 h3 h4 H1 e Q ⟨fun _ p H2 hp e2 t => q p H2 hp e2 (t.back e), fun z => by rw [hk] at z; cases z⟩
theorem evm_lat (ha : EvA tA σ H [.int (n : Int), .ref a]) (hs : RowsS H a rs) (h1 : 1 ≤ n) (h2 : n ≤ 600) (h3 : 1 ≤ rs.length) (h4 : rs.length ≤ 60) (hk : keptB (n : Int) rs = true) : EvM (tCall (sp_latest K C) [] E tA) σ H (fun H2 p => TabN C H H2 p (LL n rs)) := fun H1 e Q q =>
  m_lat ha hs h1 h2 h3 h4 H1 e Q ⟨fun _ p H2 hp e2 t => q p H2 hp e2 (t.back e), fun z => by rw [hk] at z; cases z⟩
theorem evm_earP (ha : Ev ta σ H (.int (n : Int))) (hb : EvP tb σ H rs) (h1 : 1 ≤ n) (h2 : n ≤ 600) (h3 : 1 ≤ rs.length) (h4 : rs.length ≤ 60) (hk : keptB (n : Int) rs = true) : EvM (tCall (sp_earliest K C) [] E (tCons ta (tCons tb tNil))) σ H (fun H2 p => TabN C H H2 p (EL n rs)) := fun H1 e Q q =>
  ha H1 e _ fun H2 e2 => hb H2 (e.trans e2) _ fun u H3 hu e3 hr => ⟨u, n, rs, rfl, .inl hr, h1, h2, h3, h4, fun _ p H4 hp e4 t => q p H4 (fresh_back (e2.trans e3) hp) ((e2.trans e3).trans e4) (t.back ((e.trans e2).trans e3)), fun z => by rw [hk] at z; cases z⟩
theorem evm_latP (ha : Ev ta σ H (.int (n : Int))) (hb : EvP tb σ H rs) (h1 : 1 ≤ n) (h2 : n ≤ 600) (h3 : 1 ≤ rs.length) (h4 : rs.length ≤ 60) (hk : keptB (n : Int) rs = true) : EvM (tCall (sp_latest K C) [] E (tCons ta (tCons tb tNil))) σ H (fun H2 p => TabN C H H2 p (LL n rs)) := fun H1 e Q q =>
  ha H1 e _ fun H2 e2 => hb H2 (e.trans e2) _ fun u H3 hu e3 hr => ⟨u, n, rs, rfl, .inl hr, h1, h2, h3, h4, fun _ p H4 hp e4 t => q p H4 (fresh_back (e2.trans e3) hp) ((e2.trans e3).trans e4) (t.back ((e.trans e2).trans e3)), fun z => by rw [hk] at z; cases z⟩
theorem evm_make (ha : Ev ta σ H (.ref s)) (hs : H s = some (.lst (ns.map V.int))) (g : Good ns) : EvM (tMake C (sp_init K C) [] E (tCons ta tNil)) σ H (fun H2 p => TabN C H H2 p ns) := fun H1 e Q q =>
  make_tab (ha.mono e) (.inl (e s _ hs)) g fun x l dx H2 hx hl e2 h1 h2 => q x H2 hx e2 ⟨dx, l, fresh_back e hl, h1, h2⟩
theorem ev_above (ha : Ev ta σ H (.ref a)) (hb : Ev tb σ H (.ref b)) (t1 : Tab K C H a ns) (t2 : Tab K C H b ms) (g : Good ns) (g2 : Good ms) (hl : ms.length = ns.length) (hd : ∀ d, onL ns d ≤ onL ms d) : Ev (tCall (sp_above K C) [] E (tCons ta (tCons tb tNil))) σ H .non := ev_call (ea_cons ha (ea_cons hb ea_nil)) (spv_above t1 t2 g g2 hl hd)
theorem ev_aboveR {Hb : Hp} (ha : Ev ta σ H (.ref a)) (hb : EvM tb σ H (fun H2 p => TabN C Hb H2 p ms)) (t1 : Tab K C H a ns) (g : Good ns) (g2 : Good ms) (hl : ms.length = ns.length) (hd : ∀ d, onL ns d ≤ onL ms d) : Ev (tCall (sp_above K C) [] E (tCons ta (tCons tb tNil))) σ H .non := fun H1 e Q q =>
  ha H1 e _ fun H2 e2 => hb H2 (e.trans e2) _ fun p H3 hp e3 t => ⟨a, p, ns, ms, rfl, t1.mono ((e.trans e2).trans e3), t.tab, g, g2, hl, hd, fun H4 e4 => q H4 ((e2.trans e3).trans e4)⟩
theorem ev_aboveL {Hb : Hp} (ha : EvM ta σ H (fun H2 p => TabN C Hb H2 p ns)) (hb : Ev tb σ H (.ref b)) (t2 : Tab K C H b ms) (g : Good ns) (g2 : Good ms) (hl : ms.length = ns.length) (hd : ∀ d, onL ns d ≤ onL ms d) : Ev (tCall (sp_above K C) [] E (tCons ta (tCons tb tNil))) σ H .non := fun H1 e Q q =>
  ha H1 e _ fun p H2 hp e2 t => hb H2 (e.trans e2) _ fun H3 e3 => ⟨p, b, ns, ms, rfl, (t.mono e3).tab, t2.mono ((e.trans e2).trans e3), g, g2, hl, hd, fun H4 e4 => q H4 ((e2.trans e3).trans e4)⟩
theorem et_none (h : Ev te σ H .non) : EvT (tTest (tOp (fun x y H Q => y = .non ∧ Q (.bl (!decide (x = .non))) H) te (tC .non))) σ H false := et_is (et_test (ev_op h ev_c rv_notN)) (congrArg not (decide_eq_true rfl))
theorem q_when2 {b : Bool} (h : EvT t σ H b) (h1 : b = true → ∀ H1, Ex H H1 → (∀ H2, Ex H1 H2 → tz D σ H2) → tu { D with nx := tz D } σ H1) (k : ∀ H1, Ex H H1 → tz D σ H1) : tSeq (tIfS t tu tNext) tz D σ H := q_when h (fun hb H1 e1 => h1 hb H1 e1 fun H2 e2 => k H2 (e1.trans e2)) (fun _ H1 e1 => k H1 e1)
/-- table.on(row[0]) == row[1] -/
theorem ev_serves {C x T : Addr} {r : Row} {ti tj : TE} (hx : Ev ta σ H (.ref x)) (t : Tab K C H x ns) (g : Good ns) (h1 : Ev ti σ H (.ref T)) (h2 : Ev tj σ H (.ref T)) (hT : H T = some (.tup (rowV r))) (ho : onL ns r.1 = r.2) : Ev (tOp rEq (tMeth C "on" (sp_on K C) [] E ta (tCons (tOp (rIxT K) ti (tC (.int 0))) tNil)) (tOp (rIxT K) tj (tC (.int 1)))) σ H (.bl true) := by
  obtain ⟨dx, l, a1, a2⟩ := id t
  exact ev_is (ev_op (ev_meth hx a1 rfl (ea_cons (ev_op h1 ev_c (rv_ixT (st_of hT) (v := .int r.1) rfl)) ea_nil) (spv_on t g)) (ev_op h2 ev_c (rv_ixT (st_of hT) (v := .int r.2) rfl)) (rv_eq rfl)) (congrArg V.bl (decide_eq_true (by rw [ho])))
end
/-! ### more of the mathematics -/
theorem ear_sub {L : Int} {rs ss : List Row} (h0 : rs ≠ []) (h : ∀ r, r ∈ rs → r ∈ ss) (d : Int) : earT L rs d ≤ earT L ss d := by
  obtain ⟨r, h1, h2⟩ := ear_ex (L := L) h0 d
  rw [h2]
  exact ear_ge (fun z => by have := h r h1; rw [z] at this; cases this) (h r h1)
theorem lat_sub {L : Int} {rs ss : List Row} (h0 : rs ≠ []) (h : ∀ r, r ∈ rs → r ∈ ss) (d : Int) : latT L ss d ≤ latT L rs d := by
  obtain ⟨r, h1, h2⟩ := lat_ex (L := L) h0 d
  rw [h2]
  exact lat_le (fun z => by have := h r h1; rw [z] at this; cases this) (h r h1)
theorem on_pt {ns ms : List Int} (g : Good ns) (g2 : Good ms) (hl : ms.length = ns.length) (h : ∀ i, i < ns.length → ns.getD i 0 ≤ ms.getD i 0) (x : Int) : onL ns x ≤ onL ms x := by
  obtain ⟨i, t, hi, rfl⟩ := split_at g x
  have e2 := on_at g2 (i := i) (by omega) t
  rw [hl] at e2
  rw [on_at g hi, e2]
  have := h i hi
  omega
theorem good_of_steps {fs : List Int} {n : Nat} (hl : fs.length = n) (h1 : 1 ≤ n) (h2 : n ≤ 600) (hs : ∀ i, i + 1 < n → fs.getD i 0 ≤ fs.getD (i + 1) 0) (hw : fs.getD (n - 1) 0 ≤ fs.getD 0 0 + (n : Int)) : Good fs := by
  refine ⟨by omega, by omega, fun i j hij hj => ?_, by rw [hl]; omega⟩
  rw [hl] at hj
  obtain ⟨k, rfl⟩ : ∃ k, j = i + k := ⟨j - i, by omega⟩
  clear hij
  induction k with
  | zero => exact Int.le_refl _
  | succ k ih =>
    have a1 := ih (by omega)
    have a2 := hs (i + k) (by omega)
    have e : i + (k + 1) = i + k + 1 := by omega
    rw [e]
    omega
def sp_hidden : Sp := fun vs H Q _ => ∃ (p l a : Addr) (ns : List Int) (rs : List Row), vs = [.ref p, .ref l, .ref a] ∧ PotAt H p ∧ l ≠ p ∧ H l = some (.lst (ns.map V.int)) ∧ RowsL (wo H p) a rs ∧ Good ns ∧ ns.length ≤ 24 ∧ Near ns ∧ Reads ns rs ∧ 1 ≤ rs.length ∧ rs.length ≤ 50 ∧ ∀ H2, Ex (wo H p) H2 → PotAt H2 p → Q (.bl true) H2
section
variable {P : Program} {w : World} {K : PySem.W.Frag} {mg : Str → Option Value} {base : Heap} {C : Addr}
theorem ok_hidden {f f1 f2 f3 f4 f5 f6 f7 f8 f9 : Addr} {fd fd1 fd2 fd3 fd4 fd5 fd6 fd7 fd8 fd9 : FuncData} (F : Fun K "_law_hidden_right" "_law_hidden_right" s__law_hidden_right f fd) (T : Txt K mg C) (mkI : Mk K C f5)
    (c_earliest_with : Cal P w K mg base "earliest_with" f1 fd1 ["count", "rows"] 6 (sp_earliest K C)) (c_latest_with : Cal P w K mg base "latest_with" f2 fd2 ["count", "rows"] 6 (sp_latest K C)) (m_on : Met P w K mg base C "on" f3 fd3 ["self", "day"] 3 (sp_on K C)) (c_first_above : Cal P w K mg base "first_above" f4 fd4 ["table", "other_table"] 4 (sp_above K C))
    (m_init : Ini P w K mg base C f5 fd5) (m_days : Met P w K mg base C "days" f6 fd6 ["self"] 1 (sp_days K C)) (c__law_between : Cal P w K mg base "_law_between" f7 fd7 ["_law_pot_here", "_law_early_here", "_law_late_here", "_law_length"] 2 (sp_between K)) (c__law_on : Cal P w K mg base "_law_on" f8 fd8 ["_law_days_here", "_law_day"] 1 (sp_lon K)) (c__law_read : Cal P w K mg base "_law_read" f9 fd9 ["_law_pot_here", "_law_days_here", "_law_many"] 3 (sp_read K)) :
    FnOk P w K mg base CX0 7 f fd ["_law_pot_here", "_law_days_here", "_law_rows"] sp_hidden := by
  refine F.ok sc__law_hidden_right (fun vs H Q E h => ?_) (fun cdv A outer s H vs Q E hr h => ?_)
  · obtain ⟨p, l, a, ns, rs, rfl, _⟩ := h
    rfl
  · obtain ⟨p, l, a, ns, rs, rfl, hp, hlp, hl, hrs, g, h24, nr, hrd, h3, h50, k⟩ := h
    have e0 : (ns.map V.int).length = ns.length := List.length_map ..
    have h1 := g.pos
    have h2 : ns.length ≤ 600 := g.most
    have h0 := ne_of_len h3
    have hk := reads_kept g hrd
    have hu := hr.units
    have gE := EL_good h1 h2 h3
    have gL := LL_good h1 h2 h3
    have oE : ∀ d, onL (EL ns.length rs) d ≤ onL ns d := fun d => by rw [EL_on h1 h2 h3]; exact ear_on g h0 hrd d
    have oL : ∀ d, onL ns d ≤ onL (LL ns.length rs) d := fun d => by rw [LL_on h1 h2 h3]; exact on_lat g h0 hrd d
    have kE : ∀ r, r ∈ rs → onL (EL ns.length rs) r.1 = r.2 := fun r hr => by have := EL_kept h1 h2 h3; rw [hk, List.all_eq_true] at this; exact of_decide_eq_true (this r hr)
    have kL : ∀ r, r ∈ rs → onL (LL ns.length rs) r.1 = r.2 := fun r hr => by have := LL_kept h1 h2 h3; rw [hk, List.all_eq_true] at this; exact of_decide_eq_true (this r hr)
    have hw : wo H p l = some (.lst (ns.map V.int)) := by rw [wo_ne hlp]; exact hl
    refine ⟨_, (pss_cons (ps_set (i := 3) sc__law_hidden_right.nd rfl (Or.inl rfl) (pe_callB (lenS (K := K) rfl) (by rfl) T.b_len (by decide +kernel) (pa_cons (pv 1) pa_nil))) (pss_cons (ps_par (i := 4) (j := 5) (by rfl) sc__law_hidden_right.nd rfl rfl (by decide) rfl rfl (pa_cons (pe_call c_earliest_with.ok (hr.mono (by decide)) (by rfl) c_earliest_with.mgx c_earliest_with.kp c_earliest_with.bd .nil pass0 (pa_cons (pv 3) (pa_cons (pv 2) pa_nil))) (pa_cons (pe_call c_latest_with.ok (hr.mono (by decide)) (by rfl) c_latest_with.mgx c_latest_with.kp c_latest_with.bd .nil pass0 (pa_cons (pv 3) (pa_cons (pv 2) pa_nil))) pa_nil)) (by rfl)) (pss_cons (ps_if (PW.pt (pw_or (pt_cmpR op_isN (pv 4) pe_non (nomark _)) (pw_or1 (pt_cmpR op_isN (pv 5) pe_non (nomark _))))) (pss_one (ps_ret pe_bl)) pss_nil) (pss_cons (ps_for PassesOwn.never rfl (piL (K := K) rfl (pe_lst (pa_cons (pv 4) (pa_cons (pv 5) pa_nil)))) (pg_name (i := 6) sc__law_hidden_right.nd rfl (Or.inr rfl)) (pss_one (ps_if (pt_not (pt_val (pe_callB (allL (K := K) rfl rfl) (by rfl) T.b_all (by decide +kernel) (pa_cons (pe_lc (own := [("_law_row", 12)]) (g := (gName 12)) (by rfl) sc__law_hidden_right.nd (piL (K := K) rfl (pv 2)) (blkOk_by (own := [("_law_row", 12)]) (N := ["_law_pot_here", "_law_days_here", "_law_rows", "_law_length", "_law_early_here", "_law_late_here", "_law_table", "_law_hidden", "_law_drawn", "_law_more", "_law_nearer", "_law_farther", "_law_row", "_law_at"]) (sc := defScope s__law_hidden_right) (by decide +kernel)) (fun _ _ _ _ _ => (pg_name (i := 12) sc__law_hidden_right.nd rfl (Or.inl rfl))) (fun _ _ _ _ _ => pts_nil) (fun _ _ _ _ _ => (pe_cmpR op_eq (pe_meth (pv 6) T.cl m_on.me m_on.ok (hr.mono (by decide)) m_on.bd .nil pass0 (pa_cons (pe_ix (ixT (K := K) rfl) (pv 12) pe_int (fun _ _ => rfl)) pa_nil)) (pe_ix (ixT (K := K) rfl) (pv 12) pe_int (fun _ _ => rfl)) (nomark _)))) pa_nil)))) (pss_one (ps_ret pe_bl)) pss_nil))) (pss_cons (ps_set (i := 7) sc__law_hidden_right.nd rfl (Or.inl rfl) (pe_make mkI m_init.ok (hr.mono (by decide)) (by rfl) T.mg_Table m_init.bd .nil pass0 (pa_cons (pv 1) pa_nil))) (pss_cons (ps_if (PW.pt (pw_or (pt_cmpR op_notN (pe_call c_first_above.ok (hr.mono (by decide)) (by rfl) c_first_above.mgx c_first_above.kp c_first_above.bd .nil pass0 (pa_cons (pv 4) (pa_cons (pv 7) pa_nil))) pe_non (nomark _)) (pw_or1 (pt_cmpR op_notN (pe_call c_first_above.ok (hr.mono (by decide)) (by rfl) c_first_above.mgx c_first_above.kp c_first_above.bd .nil pass0 (pa_cons (pv 7) (pa_cons (pv 5) pa_nil))) pe_non (nomark _))))) (pss_one (ps_ret pe_bl)) pss_nil) (pss_cons (ps_set (i := 8) sc__law_hidden_right.nd rfl (Or.inr rfl) (pe_call c__law_between.ok (hr.mono (by decide)) (by rfl) c__law_between.mgx c__law_between.kp c__law_between.bd .nil pass0 (pa_cons (pv 0) (pa_cons (pe_meth0 (pv 4) T.cl m_days.me m_days.ok (hr.mono (by decide)) m_days.bd .nil pass0) (pa_cons (pe_meth0 (pv 5) T.cl m_days.me m_days.ok (hr.mono (by decide)) m_days.bd .nil pass0) (pa_cons (pv 3) pa_nil)))))) (pss_cons (ps_if (PW.pt (pw_and (pt_val (pe_callB (allL (K := K) rfl rfl) (by rfl) T.b_all (by decide +kernel) (pa_cons (pe_lc (own := [("_law_at", 13)]) (g := (gName 13)) (by rfl) sc__law_hidden_right.nd (pi_range1 (by rfl) T.b_range (pa_cons (pe_op op_sub (pv 3) pe_int) pa_nil)) (blkOk_by (own := [("_law_at", 13)]) (N := ["_law_pot_here", "_law_days_here", "_law_rows", "_law_length", "_law_early_here", "_law_late_here", "_law_table", "_law_hidden", "_law_drawn", "_law_more", "_law_nearer", "_law_farther", "_law_row", "_law_at"]) (sc := defScope s__law_hidden_right) (by decide +kernel)) (fun _ _ _ _ _ => (pg_name (i := 13) sc__law_hidden_right.nd rfl (Or.inl rfl))) (fun _ _ _ _ _ => pts_nil) (fun _ _ _ _ _ => (pe_cmpR op_le (pe_ix (ixL (K := K) rfl) (pv 8) (pv 13) (fun _ _ => rfl)) (pe_ix (ixL (K := K) rfl) (pv 8) (pe_op op_add (pv 13) pe_int) (fun _ _ => rfl)) (nomark _)))) pa_nil))) (pw_and1 (pt_cmpR op_le (pe_ix (ixL (K := K) rfl) (pv 8) (pe_un un_neg pe_int) (fun _ _ => rfl)) (pe_op op_add (pe_ix (ixL (K := K) rfl) (pv 8) pe_int (fun _ _ => rfl)) (pv 3)) (nomark _))))) (pss_cons (ps_if (pt_not (pt_val (pe_callB (allL (K := K) rfl rfl) (by rfl) T.b_all (by decide +kernel) (pa_cons (pe_lc (own := [("_law_row", 12)]) (g := (gName 12)) (by rfl) sc__law_hidden_right.nd (piL (K := K) rfl (pv 2)) (blkOk_by (own := [("_law_row", 12)]) (N := ["_law_pot_here", "_law_days_here", "_law_rows", "_law_length", "_law_early_here", "_law_late_here", "_law_table", "_law_hidden", "_law_drawn", "_law_more", "_law_nearer", "_law_farther", "_law_row", "_law_at"]) (sc := defScope s__law_hidden_right) (by decide +kernel)) (fun _ _ _ _ _ => (pg_name (i := 12) sc__law_hidden_right.nd rfl (Or.inl rfl))) (fun _ _ _ _ _ => pts_nil) (fun _ _ _ _ _ => (pe_cmpR op_eq (pe_call c__law_on.ok (hr.mono (by decide)) (by rfl) c__law_on.mgx c__law_on.kp c__law_on.bd .nil pass0 (pa_cons (pv 8) (pa_cons (pe_ix (ixT (K := K) rfl) (pv 12) pe_int (fun _ _ => rfl)) pa_nil))) (pe_ix (ixT (K := K) rfl) (pv 12) pe_int (fun _ _ => rfl)) (nomark _)))) pa_nil)))) (pss_one (ps_ret pe_bl)) pss_nil) (pss_one (ps_if (PW.pt (pw_or (pt_cmpR op_notN (pe_call c_first_above.ok (hr.mono (by decide)) (by rfl) c_first_above.mgx c_first_above.kp c_first_above.bd .nil pass0 (pa_cons (pv 4) (pa_cons (pe_make mkI m_init.ok (hr.mono (by decide)) (by rfl) T.mg_Table m_init.bd .nil pass0 (pa_cons (pv 8) pa_nil)) pa_nil))) pe_non (nomark _)) (pw_or1 (pt_cmpR op_notN (pe_call c_first_above.ok (hr.mono (by decide)) (by rfl) c_first_above.mgx c_first_above.kp c_first_above.bd .nil pass0 (pa_cons (pe_make mkI m_init.ok (hr.mono (by decide)) (by rfl) T.mg_Table m_init.bd .nil pass0 (pa_cons (pv 8) pa_nil)) (pa_cons (pv 5) pa_nil))) pe_non (nomark _))))) (pss_one (ps_ret pe_bl)) pss_nil))) pss_nil) (pss_cons (ps_set (i := 9) sc__law_hidden_right.nd rfl (Or.inl rfl) (pe_call c__law_read.ok (hr.mono (by decide)) (by rfl) c__law_read.mgx c__law_read.kp c__law_read.bd .nil pass0 (pa_cons (pv 0) (pa_cons (pv 1) (pa_cons pe_int pa_nil))))) (pss_cons (ps_par (i := 10) (j := 11) (by rfl) sc__law_hidden_right.nd rfl rfl (by decide) rfl rfl (pa_cons (pe_call c_earliest_with.ok (hr.mono (by decide)) (by rfl) c_earliest_with.mgx c_earliest_with.kp c_earliest_with.bd .nil pass0 (pa_cons (pv 3) (pa_cons (pe_op op_cat (pv 2) (pv 9)) pa_nil))) (pa_cons (pe_call c_latest_with.ok (hr.mono (by decide)) (by rfl) c_latest_with.mgx c_latest_with.kp c_latest_with.bd .nil pass0 (pa_cons (pv 3) (pa_cons (pe_op op_cat (pv 9) (pv 2)) pa_nil))) pa_nil)) (by rfl)) (pss_cons (ps_if (PW.pt (pw_or (pt_cmpR op_notN (pe_call c_first_above.ok (hr.mono (by decide)) (by rfl) c_first_above.mgx c_first_above.kp c_first_above.bd .nil pass0 (pa_cons (pv 4) (pa_cons (pv 10) pa_nil))) pe_non (nomark _)) (pw_or1 (pt_cmpR op_notN (pe_call c_first_above.ok (hr.mono (by decide)) (by rfl) c_first_above.mgx c_first_above.kp c_first_above.bd .nil pass0 (pa_cons (pv 11) (pa_cons (pv 5) pa_nil))) pe_non (nomark _))))) (pss_one (ps_ret pe_bl)) pss_nil) (pss_one (ps_ret (pe_and (pe_cmpR op_eq (pe_meth (pv 10) T.cl m_on.me m_on.ok (hr.mono (by decide)) m_on.bd .nil pass0 (pa_cons (pe_ix (ixT (K := K) rfl) (pe_ix (ixL (K := K) rfl) (pv 9) pe_int (fun _ _ => rfl)) pe_int (fun _ _ => rfl)) pa_nil)) (pe_ix (ixT (K := K) rfl) (pe_ix (ixL (K := K) rfl) (pv 9) pe_int (fun _ _ => rfl)) pe_int (fun _ _ => rfl)) (nomark _)) (pe_one (pe_cmpR op_eq (pe_meth (pv 11) T.cl m_on.me m_on.ok (hr.mono (by decide)) m_on.bd .nil pass0 (pa_cons (pe_ix (ixT (K := K) rfl) (pe_ix (ixL (K := K) rfl) (pv 9) pe_int (fun _ _ => rfl)) pe_int (fun _ _ => rfl)) pa_nil)) (pe_ix (ixT (K := K) rfl) (pe_ix (ixL (K := K) rfl) (pv 9) pe_int (fun _ _ => rfl)) pe_int (fun _ _ => rfl)) (nomark _))))))))))))))))), ?_⟩
    refine q_asg (v := .int (ns.length : Int)) (ev_cb (ea_cons (ev_var rfl) ea_nil) (rc_len (.inl (sq_of hl)) e0)) fun H1 e1 => ?_
    have eA : Ex (wo H p) H1 := wo_ex.trans e1
    have hp1 := hp.mono e1
    refine par2_k (ac_m (evm_ear (ea_cons (ev_var rfl) (ea_cons (ev_var rfl) ea_nil)) (.inl (hrs.mono eA)) h1 h2 h3 (by omega) hk) fun x4 H2 hx4 e2 t4 => ac_m (evm_lat (ea_cons (ev_var rfl) (ea_cons (ev_var rfl) ea_nil)) (.inl (hrs.mono (eA.trans e2))) h1 h2 h3 (by omega) hk) fun x5 H3 hx5 e3 t5 => ac_nil ⟨_, _, rfl, ?_⟩)
    have w4 : Tw C H3 p x4 (EL ns.length rs) := (Tw.of hp1 hx4 t4).ex e3
    have w5 : Tw C H3 p x5 (LL ns.length rs) := Tw.of (hp1.mono e2) hx5 t5
    have hp3 := (hp1.mono e2).mono e3
    have eB : Ex (wo H p) H3 := (eA.trans e2).trans e3
    clear t4 t5 hx4 hx5 hp1 eA e1 e2 e3
    refine q_when (b := false) (et_or (a := false) (b := false) (et_is (et_test (ev_op (ev_var rfl) ev_c rv_isN)) (decide_eq_false (fun z => by cases z))) fun _ => et_is (et_test (ev_op (ev_var rfl) ev_c rv_isN)) (decide_eq_false (fun z => by cases z))) (fun q => nomatch q) fun _ H4 e4 => ?_
    have w4' := w4.ex e4
    have w5' := w5.ex e4
    have hp4 := hp3.mono e4
    have eC := eB.trans e4
    clear w4 w5 hp3 eB e4
    -- both serve the rows
    refine q_forNLn (K := K) (xs := [.ref x4, .ref x5]) (el_lst (ea_cons (ev_var rfl) (ea_cons (ev_var rfl) ea_nil)) (by show 2 ≤ 100000; decide)) (fun q i σ' H' => Ex H4 H' ∧ H' q = some (.lst [.ref x4, .ref x5]) ∧ ∃ o : Option V, σ' = [some (.ref p), some (.ref l), some (.ref a), some (.int (ns.length : Int)), some (.ref x4), some (.ref x5), o, none, none, none, none, none, none, none])
      (fun q H5 _ e5 h5 => ⟨e5, h5, none, rfl⟩) (fun q i σ' H' _ h => sq_of h.2.1) (fun q i x σ' H' hi h => ?_) (fun q σ' H' h => ?_)
    · obtain ⟨e5, h5, o, rfl⟩ := h
      obtain ⟨y, ms, rfl, gm, tm, hm⟩ : ∃ (y : Addr) (ms : List Int), x = .ref y ∧ Good ms ∧ Tw C H4 p y ms ∧ ∀ r, r ∈ rs → onL ms r.1 = r.2 := by
        match i, hi with
        | 0, hi => cases hi; exact ⟨x4, _, rfl, gE, w4', kE⟩
        | 1, hi => cases hi; exact ⟨x5, _, rfl, gL, w5', kL⟩
        | i + 2, hi => simp at hi
      refine s_when (b := false) (et_not (a := true) (et_B (ev_is (ev_cbL (el_rowsL (fun _ => V.bl true) (ev_var rfl) (hrs.mono (eC.trans e5)) (by omega) (fun _ => rfl) (fun U r H6 e6 hr hU => ev_serves (ev_var rfl) ((tm.ex e5).ex e6).tab gm (ev_var rfl) (ev_var rfl) hU (hm r hr))) fun p H2 _ h => rc_allR h) (congrArg V.bl (by rw [List.all_eq_true]; exact fun _ _ => rfl))))) (fun q => nomatch q) fun _ H6 e6 => ⟨e5.trans e6, e6 _ _ h5, _, rfl⟩
    obtain ⟨e5, h5, o, rfl⟩ := h
    have w4 := w4'.ex e5
    have w5 := w5'.ex e5
    have hp5 := hp4.mono e5
    have eD := eC.trans e5
    clear w4' w5' hp4 eC e5 h5
    -- hidden
    refine asg_k (evm_make (ev_var rfl) (eD l _ hw) g _ (Ex.refl _) _ fun x7 H6 hx7 e6 t7 => ?_)
    have w7 := Tw.of hp5 hx7 t7
    have w4' := w4.ex e6
    have w5' := w5.ex e6
    have hp6 := hp5.mono e6
    have eE := eD.trans e6
    clear w4 w5 hp5 eD e6 t7 hx7
    refine q_when (b := false) (et_or (a := false) (b := false) (et_none (ev_above (ev_var rfl) (ev_var rfl) w4'.tab w7.tab gE g EL_len.symm oE)) fun _ => et_none (ev_above (ev_var rfl) (ev_var rfl) w7.tab w5'.tab g gL LL_len oL)) (fun q => nomatch q) fun _ H7 e7 => ?_
    have w4 := w4'.ex e7
    have w5 := w5'.ex e7
    have hp7 := hp6.mono e7
    have eF := eE.trans e7
    clear w4' w5' hp6 eE e7 w7
    obtain ⟨dx4, l4, n41, n42, i4, j4⟩ := id w4
    obtain ⟨dx5, l5, n51, n52, i5, j5⟩ := id w5
    obtain ⟨o7, ho7⟩ := hp7.some
    -- drawn
    refine asg_k (call_k (ac_v (ev_var rfl) fun H8 e8 => ac_l (el_meth (ev_var rfl) (e8 x4 _ i4) rfl ea_nil (spl_days (w4.ex e8).tab)) fun qa H9 hqa e9 ga => ac_l (el_meth (ev_var rfl) ((e8.trans e9) x5 _ i5) rfl ea_nil (spl_days (w5.ex (e8.trans e9)).tab)) fun qb H10 hqb e10 gb => ac_v (ev_var rfl) fun H11 e11 => ac_nil ?_))
    have e711 := ((e8.trans e9).trans e10).trans e11
    have hqap : qa ≠ p := (ne_of_none (e8 p _ ho7) hqa).symm
    have hqbp : qb ≠ p := (ne_of_none ((e8.trans e9) p _ ho7) hqb).symm
    refine ⟨p, qa, qb, ns.length, EL ns.length rs, LL ns.length rs, rfl, hp7.mono e711, sq_of (by rw [wo_ne hqap]; exact (e10.trans e11) qa _ ga), sq_of (by rw [wo_ne hqbp]; exact e11 qb _ gb), EL_len, LL_len, h2, fun i hi => ?_, fun i j hij hj => ?_, fun x8 fs H12 hbt hx8 e12 g8 hp12 => ?_⟩
    · unfold EL LL
      rw [listF_at hi, listF_at hi]
      exact Int.le_trans (ear_on g h0 hrd _) (on_lat g h0 hrd _)
    · unfold LL
      rw [listF_at (by omega), listF_at hj]
      exact lat_mono h0 (by omega) (by omega)
    have e7w : Ex (wo H7 p) H12 := (wo_mono e711).trans e12
    have w4' := w4.exw e7w
    have w5' := w5.exw e7w
    have eG : Ex (wo H p) H12 := (wo_sub eF).trans e7w
    have hx8p : x8 ≠ p := (ne_of_none (e711 p _ ho7) hx8).symm
    clear w4 w5 i4 j4 i5 j5 hp7 eF e8 e9 e10 e11 e711 ga gb hqa hqb e12 e7w hx8 ho7
    -- if it is a rule
    refine q_when2 (b := (((List.range ((ns.length : Int) - 1).toNat).map fun i => decide (fs.getD i 0 ≤ fs.getD (i + 1) 0)).all id) && decide (fs.getD (fs.length - 1) 0 ≤ fs.getD (0 : Int).toNat 0 + (ns.length : Int))) (et_and (et_B (ev_cbL (el_lcR1 (fun _ => true) (fun i => V.bl (decide (fs.getD i 0 ≤ fs.getD (i + 1) 0))) (ea_cons (ev_op (ev_var rfl) ev_c rv_I0) ea_nil) (by omega) (fun _ => rfl) (fun _ _ _ _ => lc_yes) (fun i H13 e13 hi _ => ?_)) fun q H13 e13 h13 => ?_)) fun _ => ?_) (fun hb H13 e13 kk => ?_) fun H13 e13 => ?_
    · exact ev_op (ev_op (ev_var rfl) (ev_var rfl) (rv_ixL (sq_of (e13 x8 _ g8)) (atI_nat (getI (by have := hbt.len; omega : i < fs.length))))) (ev_op (ev_var rfl) (ev_is (ev_op (ev_var rfl) ev_c rv_I0) (by congr 1 : V.int ((i : Int) + 1) = V.int ((i + 1 : Nat) : Int))) (rv_ixL (sq_of (e13 x8 _ g8)) (atI_nat (getI (by have := hbt.len; omega : i + 1 < fs.length))))) rv_I0
    · rw [given_all] at h13
      exact rc_all (sq_of (by rw [List.map_map]; exact h13))
    · exact et_test (ev_op (ev_op (ev_var rfl) (ev_un ev_c ru_neg) (rv_ixL (sq_of g8) (atI_m1 (by have := hbt.len; omega)))) (ev_op (ev_op (ev_var rfl) ev_c (rv_ixL (sq_of g8) (atI_int (by decide) (by have := hbt.len; omega)))) (ev_var rfl) rv_I0) rv_I0)
    · rw [Bool.and_eq_true] at hb
      have gF : Good fs := good_of_steps hbt.len h1 h2 (fun i hi => by
        have z := hb.1
        rw [List.all_eq_true] at z
        have := z _ (List.mem_map.mpr ⟨i, List.mem_range.mpr (by omega), rfl⟩)
        exact of_decide_eq_true this) (by have := of_decide_eq_true hb.2; rw [hbt.len] at this; exact this)
      have oF1 : ∀ d, onL (EL ns.length rs) d ≤ onL fs d := on_pt gE gF (by rw [EL_len, hbt.len]) (fun i hi => hbt.lo i (by rw [EL_len] at hi; exact hi))
      have oF2 : ∀ d, onL fs d ≤ onL (LL ns.length rs) d := on_pt gF gL (by rw [LL_len, hbt.len]) (fun i hi => hbt.hi i (by rw [hbt.len] at hi; exact hi))
      have kF : ∀ r, r ∈ rs → onL fs r.1 = r.2 := fun r hr => by
        have a1 := oF1 r.1
        have a2 := oF2 r.1
        have a3 := kE r hr
        have a4 := kL r hr
        omega
      refine q_when (b := false) (et_not (a := true) (et_B (ev_is (ev_cbL (el_rowsL (fun _ => V.bl true) (ev_var rfl) (hrs.mono (eG.trans e13)) (by omega) (fun _ => rfl) (fun U r H14 e14 hr hU => ?_)) fun p H2 _ h => rc_allR h) (congrArg V.bl (by rw [List.all_eq_true]; exact fun _ _ => rfl))))) (fun q => nomatch q) fun _ H14 e14 => ?_
      · exact ev_is (ev_op (ev_call (ea_cons (ev_var rfl) (ea_cons (ev_op (ev_var rfl) ev_c (rv_ixT (st_of hU) (v := .int r.1) rfl)) ea_nil)) (spv_lon (sq_of ((e13.trans e14) x8 _ g8)) gF)) (ev_op (ev_var rfl) ev_c (rv_ixT (st_of hU) (v := .int r.2) rfl)) (rv_eq rfl)) (congrArg V.bl (decide_eq_true (by rw [kF r hr])))
      · have g8' := (e13.trans e14) x8 _ g8
        exact s_when (b := false) (et_or (a := false) (b := false) (et_none (ev_aboveR (ev_var rfl) (evm_make (ev_var rfl) g8' gF) (w4'.ex (e13.trans e14)).tab gE gF (by rw [EL_len, hbt.len]) oF1)) fun _ => et_none (ev_aboveL (evm_make (ev_var rfl) g8' gF) (ev_var rfl) (w5'.ex (e13.trans e14)).tab gF gL (by rw [LL_len, hbt.len]) oF2)) (fun q => nomatch q) fun _ H15 e15 => kk H15 (e14.trans e15)
    have w4 := w4'.ex e13
    have w5 := w5'.ex e13
    have hp13 := hp12.mono e13
    have eH := eG.trans e13
    clear w4' w5' hp12 eG e13 g8 hbt
    -- more
    refine asg_k (call_k (ac_v (ev_var rfl) fun H14 e14 => ac_v (ev_var rfl) fun H15 e15 => ac_v ev_c fun H16 e16 => ac_nil ?_))
    have e136 := (e14.trans e15).trans e16
    have eI := eH.trans e136
    refine ⟨p, l, ns, 1, rfl, hp13.mono e136, sq_of ((wo_sub eI) l _ hw), g, h24, nr, by decide, fun x9 ms H17 hml hmr hmb hx9 e17 hms hp17 => ?_⟩
    have e1317 : Ex (wo H13 p) H17 := (wo_mono e136).trans e17
    have w4' := w4.exw e1317
    have w5' := w5.exw e1317
    have eJ : Ex (wo H p) H17 := (wo_sub eH).trans e1317
    clear w4 w5 hp13 eH e14 e15 e16 e136 eI e17 e1317
    obtain ⟨r0, rfl⟩ : ∃ r0, ms = [r0] := by
      match ms, hml with
      | [r0], _ => exact ⟨r0, rfl⟩
    have hrA : Reads ns (rs ++ [r0]) := fun r hr => by
      rcases List.mem_append.mp hr with z | z
      · exact hrd r z
      · exact hmr r z
    have hrB : Reads ns ([r0] ++ rs) := fun r hr => by
      rcases List.mem_append.mp hr with z | z
      · exact hmr r z
      · exact hrd r z
    have lA : 1 ≤ (rs ++ [r0]).length ∧ (rs ++ [r0]).length ≤ 60 := by rw [List.length_append]; show _ ∧ _ + 1 ≤ 60; omega
    have lB : 1 ≤ ([r0] ++ rs).length ∧ ([r0] ++ rs).length ≤ 60 := by rw [List.length_append]; show 1 ≤ 1 + _ ∧ 1 + _ ≤ 60; omega
    have kA := reads_kept g hrA
    have kB := reads_kept g hrB
    -- nearer, farther
    refine par2_k (ac_m (evm_earP (ev_var rfl) (evp_cat (ev_var rfl) (ev_var rfl) (hrs.mono eJ) hms (by have := lA.2; rw [List.length_append] at this; omega)) h1 h2 lA.1 lA.2 kA) fun x10 H18 hx10 e18 t10 => ac_m (evm_latP (ev_var rfl) (evp_cat (ev_var rfl) (ev_var rfl) (hms.mono e18) (hrs.mono (eJ.trans e18)) (by have := lB.2; rw [List.length_append] at this; omega)) h1 h2 lB.1 lB.2 kB) fun x11 H19 hx11 e19 t11 => ac_nil ⟨_, _, rfl, ?_⟩)
    have e179 := e18.trans e19
    have tabA := (t10.mono e19).tab (K := K)
    have tabB := t11.tab (K := K)
    have gA := EL_good h1 h2 lA.1
    have gB := LL_good h1 h2 lB.1
    refine q_when (b := false) (et_or (a := false) (b := false) (et_none (ev_above (ev_var rfl) (ev_var rfl) (w4'.ex e179).tab tabA gE gA (by rw [EL_len, EL_len]) fun d => ?_)) fun _ => et_none (ev_above (ev_var rfl) (ev_var rfl) tabB (w5'.ex e179).tab gB gL (by rw [LL_len, LL_len]) fun d => ?_)) (fun q => nomatch q) fun _ H20 e20 => ?_
    · rw [EL_on h1 h2 h3, EL_on h1 h2 lA.1]
      exact ear_sub h0 (fun r hr => List.mem_append_left _ hr) d
    · rw [LL_on h1 h2 h3, LL_on h1 h2 lB.1]
      exact lat_sub h0 (fun r hr => List.mem_append_right _ hr) d
    have eK := (e179.trans e20)
    obtain ⟨us, gm1, gm2⟩ := hms.mono eK
    obtain ⟨U, hU1, hU2⟩ := gm2.at (k := 0) (r := r0) rfl
    have ixU : Ev (tOp (rIxL K) (tVar 9) (tC (.int 0))) ([some (.ref p), some (.ref l), some (.ref a), some (.int (ns.length : Int)), some (.ref x4), some (.ref x5), o, some (.ref x7), some (.ref x8), some (.ref x9), some (.ref x10), some (.ref x11), none, none] : L2.St) H20 (.ref U) := ev_op (ev_var rfl) ev_c (rv_ixL (sq_of gm1) (atI_get (i := 0) hU1))
    have kA0 : onL (EL ns.length (rs ++ [r0])) r0.1 = r0.2 := by have := EL_kept h1 h2 lA.1; rw [kA, List.all_eq_true] at this; exact of_decide_eq_true (this r0 (List.mem_append_right _ (List.mem_singleton.mpr rfl)))
    have kB0 : onL (LL ns.length ([r0] ++ rs)) r0.1 = r0.2 := by have := LL_kept h1 h2 lB.1; rw [kB, List.all_eq_true] at this; exact of_decide_eq_true (this r0 (List.mem_append_left _ (List.mem_singleton.mpr rfl)))
    exact s_ret (ev_is (ev_andV (a := true) (b := true) (ev_serves (ev_var rfl) (tabA.mono e20) gA ixU ixU hU2 kA0) fun _ => ev_serves (ev_var rfl) (tabB.mono e20) gB ixU ixU hU2 kB0) rfl) fun H21 e21 => k H21 ((eJ.trans eK).trans e21) (hp17.mono (eK.trans e21))
end
end K16
end
section
set_option maxHeartbeats 4000000
namespace K16
open PySem L2 Evl G TM
section
variable {K : PySem.W.Frag} {σ : L2.St} {H : Hp} {a b C p q s : Addr} {n : Nat} {rs : List Row} {ta tb te : TE} {tA tr tk : TA} {E : XK} {ns ms : List Int} {D : Ends} {tz : TS} {i j : Nat} {QA : List V → Hp → Prop} {t tt : TT} {tu : TS} {vs : List Nat} {Q : VK} {g : TG}
theorem range_app {α : Type} {f : Nat → α} (i : Nat) : (List.range (i + 1)).map f = (List.range i).map f ++ [f i] := by rw [List.range_succ, List.map_append]; rfl
/-- [(e, e2) for x in range(n)] -/
theorem evp_lcR1 (f : Nat → Row) (h : EvA tA σ H [.int (n : Int)]) (hn : n ≤ 40000) (hw : ∀ x, wipe ((wipe σ vs).set j (some x)) vs = wipe σ vs)
    (he : ∀ (i : Nat) H1, Ex H H1 → i < n → EvU te ((wipe σ vs).set j (some (.int (i : Int)))) H1 (rowV (f i))) : EvP (tLc (iRng1 tA) (gName j) tYes te vs) σ H ((List.range n).map f) := fun H0 e Q q => h H0 e _ fun H1 e1 => ⟨(n : Int), rfl, by omega, by omega, fun Dl hD => by
  rw [Int.toNat_natCast]
  refine lc_range (lo := 0) (n := n) (fun i H' => ∃ ts : List Addr, Ex H1 H' ∧ H' Dl = some (.lst (ts.map V.ref)) ∧ RowsAt H' ts ((List.range i).map f)) ⟨[], Ex.new hD, upd_same, .nil⟩ (fun i H' hi hpv => ?_) (fun H' hpv => ?_)
  · obtain ⟨ts, e2, h2, hA⟩ := hpv
    have e0 : (0 : Int) + (i : Int) = (i : Int) := Int.zero_add _
    show wipe ((wipe σ vs).set j (some (.int ((0 : Int) + (i : Int))))) vs = wipe σ vs ∧ tYes ((wipe σ vs).set j (some (.int ((0 : Int) + (i : Int))))) H' fun b H3 => if b = true then te ((wipe σ vs).set j (some (.int ((0 : Int) + (i : Int))))) H3 fun y H4 => _ else _
    rw [e0]
    refine ⟨hw _, ?_⟩
    unfold tYes
    refine iteT ?_
    refine he i H' ((e.trans e1).trans e2) hi H' (Ex.refl _) _ fun U H3 hU e3 h3 => ?_
    refine ⟨_, e3 Dl _ h2, by rw [List.length_map, hA.1]; simp; exact sz_lt (by omega), ts ++ [U], Ex.mut (e2.trans e3) hD, by rw [upd_same, List.map_append]; rfl, ?_⟩
    rw [range_app]
    exact RowsAt.off ((hA.mono e3).app (.one h3)) (e3 Dl _ h2)
  · obtain ⟨ts, e2, h2, hA⟩ := hpv
    exact q Dl H' (fresh_back e1 hD) (e1.trans e2) ⟨ts, h2, hA⟩⟩
theorem ev_pairP (ha : Ev ta σ H (.int (n : Int))) (hb : EvP tb σ H rs) (h1 : 1 ≤ n) (h2 : n ≤ 600) (h3 : 1 ≤ rs.length) (h4 : rs.length ≤ 60) (hr : Rb rs) : Ev (tCall sp_pair [] E (tCons ta (tCons tb tNil))) σ H (.bl true) := fun H1 e Q q =>
  ha H1 e _ fun H2 e2 => hb H2 (e.trans e2) _ fun u H3 hu e3 hl => ⟨u, n, rs, rfl, hl, h1, h2, h3, h4, hr, fun H4 e4 => q H4 ((e2.trans e3).trans e4)⟩
/-- Tables of the same days are not unlike -/
theorem ev_neT {Ha Hb : Hp} (ha : EvM ta σ H (fun H2 p => TabN C Ha H2 p ns)) (hb : EvM tb σ H (fun H2 p => TabN C Hb H2 p ns)) : Ev (tOp (rNeO C (sp_eq K C) E) ta tb) σ H (.bl false) := fun H1 e Q q =>
  ha H1 e _ fun p H2 hp e2 t => hb H2 (e.trans e2) _ fun u H3 hu e3 t' => by
    obtain ⟨dx, l, _, a1, a2⟩ := id (t.mono e3)
    obtain ⟨dy, m, _, b1, b2⟩ := id t'
    exact ⟨p, u, dx, dy, _, _, rfl, rfl, a1, b1, p, u, ns, rfl, (t.mono e3).tab, t'.tab, fun H4 e4 => ⟨true, rfl, q H4 ((e2.trans e3).trans e4)⟩⟩
theorem andV_k (h : ta σ H fun x H1 => ∃ c, x = .bl c ∧ if c = true then tb σ H1 Q else Q (.bl false) H1) : tAndV ta tb σ H Q := h
end
theorem Rb_near {ns : List Int} (g : Good ns) (nr : Near ns) {rs : List Row} (h : ∀ r, r ∈ rs → -2000000 ≤ r.1 ∧ r.1 ≤ 2000000 ∧ onL ns r.1 = r.2) : Rb rs := fun r hr => by
  obtain ⟨a1, a2, a3⟩ := h r hr
  have := on_near g nr r.1
  rw [a3] at this
  omega
def sp_ends : Sp := fun vs H Q _ => ∃ (p l : Addr) (ns : List Int), vs = [.ref p, .ref l] ∧ PotAt H p ∧ l ≠ p ∧ H l = some (.lst (ns.map V.int)) ∧ Good ns ∧ ns.length ≤ 24 ∧ Near ns ∧ ∀ H2, Ex (wo H p) H2 → PotAt H2 p → Q (.bl true) H2
section
variable {P : Program} {w : World} {K : PySem.W.Frag} {mg : Str → Option Value} {base : Heap} {C : Addr}
theorem ok_ends {f f1 f2 f3 f4 f5 f6 f7 f8 : Addr} {fd fd1 fd2 fd3 fd4 fd5 fd6 fd7 fd8 : FuncData} (F : Fun K "_law_ends_right" "_law_ends_right" s__law_ends_right f fd) (T : Txt K mg C) (mkI : Mk K C f5)
    (c__law_draw : Cal P w K mg base "_law_draw" f1 fd1 ["_law_pot_here", "_law_size"] 1 sp_draw) (c__law_on : Cal P w K mg base "_law_on" f2 fd2 ["_law_days_here", "_law_day"] 1 (sp_lon K)) (c_earliest_with : Cal P w K mg base "earliest_with" f3 fd3 ["count", "rows"] 6 (sp_earliest K C)) (c_latest_with : Cal P w K mg base "latest_with" f4 fd4 ["count", "rows"] 6 (sp_latest K C))
    (m_init : Ini P w K mg base C f5 fd5) (m_eq : Met P w K mg base C "__eq__" f6 fd6 ["self", "other"] 1 (sp_eq K C)) (c__law_pair_right : CalG P w K mg base "_law_pair_right" f7 fd7 ["_law_length", "_law_rows"] 7 sp_pair) (c__law_read : Cal P w K mg base "_law_read" f8 fd8 ["_law_pot_here", "_law_days_here", "_law_many"] 3 (sp_read K)) :
    FnG P w K mg base CX0 8 f fd ["_law_pot_here", "_law_days_here"] sp_ends := by
  refine okG F sc__law_ends_right (fun vs H Q E h => ?_) (fun cdv A outer s H vs Q E hg hr h => ?_)
  · obtain ⟨p, l, ns, rfl, _⟩ := h
    rfl
  · obtain ⟨p, l, ns, rfl, hp, hlp, hl, g, h24, nr, k⟩ := h
    have e0 : (ns.map V.int).length = ns.length := List.length_map ..
    have h1 := g.pos
    have h2 : ns.length ≤ 600 := g.most
    have hu := hr.units
    have hw : wo H p l = some (.lst (ns.map V.int)) := by rw [wo_ne hlp]; exact hl
    refine ⟨_, (pss_cons (ps_set (i := 2) sc__law_ends_right.nd rfl (Or.inl rfl) (pe_callB (lenS (K := K) rfl) (by rfl) T.b_len (by decide +kernel) (pa_cons (pv 1) pa_nil))) (pss_cons (ps_set (i := 3) sc__law_ends_right.nd rfl (Or.inr rfl) (pe_op op_sub (pe_call c__law_draw.ok (hr.mono (by decide)) (by rfl) c__law_draw.mgx c__law_draw.kp c__law_draw.bd .nil pass0 (pa_cons (pv 0) (pa_cons pe_int pa_nil))) pe_int)) (pss_cons (ps_setLc (i := 4) (own := [("_law_at", 6)]) (g := (gName 6)) (by rfl) sc__law_ends_right.nd rfl rfl (sw_true rfl rfl rfl (by decide +kernel)) (pi_range1 (by rfl) T.b_range (pa_cons (pv 2) pa_nil)) (blkOk_by (own := [("_law_at", 6)]) (N := ["_law_pot_here", "_law_days_here", "_law_length", "_law_first", "_law_rows", "_law_row", "_law_at"]) (sc := defScope s__law_ends_right) (by decide +kernel)) (fun _ _ _ _ _ => (pg_name (i := 6) sc__law_ends_right.nd rfl (Or.inl rfl))) (fun _ _ _ _ _ => pts_nil) (fun _ _ _ _ _ => (pe_tup (pa_cons (pe_op op_add (pv 3) (pv 6)) (pa_cons (pe_call c__law_on.ok (hr.mono (by decide)) (by rfl) c__law_on.mgx c__law_on.kp c__law_on.bd .nil pass0 (pa_cons (pv 1) (pa_cons (pe_op op_add (pv 3) (pv 6)) pa_nil))) pa_nil))))) (pss_cons (ps_if (PW.pt (pw_or (pt_cmpR (op_neO m_eq.ok T.mo T.ne m_eq.me.at_ m_eq.me.fn m_eq.bd pass0 (hr.mono (by decide))) (pe_call c_earliest_with.ok (hr.mono (by decide)) (by rfl) c_earliest_with.mgx c_earliest_with.kp c_earliest_with.bd .nil pass0 (pa_cons (pv 2) (pa_cons (pv 4) pa_nil))) (pe_make mkI m_init.ok (hr.mono (by decide)) (by rfl) T.mg_Table m_init.bd .nil pass0 (pa_cons (pv 1) pa_nil)) (nomark _)) (pw_or1 (pt_cmpR (op_neO m_eq.ok T.mo T.ne m_eq.me.at_ m_eq.me.fn m_eq.bd pass0 (hr.mono (by decide))) (pe_call c_latest_with.ok (hr.mono (by decide)) (by rfl) c_latest_with.mgx c_latest_with.kp c_latest_with.bd .nil pass0 (pa_cons (pv 2) (pa_cons (pe_revL (pv 4)) pa_nil))) (pe_make mkI m_init.ok (hr.mono (by decide)) (by rfl) T.mg_Table m_init.bd .nil pass0 (pa_cons (pv 1) pa_nil)) (nomark _))))) (pss_one (ps_ret pe_bl)) pss_nil) (pss_cons (ps_set (i := 5) sc__law_ends_right.nd rfl (Or.inl rfl) (pe_tup (pa_cons (pv 3) (pa_cons (pe_call c__law_on.ok (hr.mono (by decide)) (by rfl) c__law_on.mgx c__law_on.kp c__law_on.bd .nil pass0 (pa_cons (pv 1) (pa_cons (pv 3) pa_nil))) pa_nil)))) (pss_cons (ps_if (PW.pt (pw_or (pt_not (pt_val (pe_callG c__law_pair_right.ok hg (hr.mono (by decide)) (by rfl) c__law_pair_right.mgx c__law_pair_right.kp c__law_pair_right.bd .nil pass0 (pa_cons (pv 2) (pa_cons (pe_lst (pa_cons (pv 5) pa_nil)) pa_nil))))) (pw_or1 (pt_not (pt_val (pe_callG c__law_pair_right.ok hg (hr.mono (by decide)) (by rfl) c__law_pair_right.mgx c__law_pair_right.kp c__law_pair_right.bd .nil pass0 (pa_cons (pv 2) (pa_cons (pe_op op_rep (pe_lst (pa_cons (pv 5) pa_nil)) pe_int) pa_nil)))))))) (pss_one (ps_ret pe_bl)) pss_nil) (pss_cons (ps_if (PW.pt (pw_or (pt_not (pt_val (pe_callG c__law_pair_right.ok hg (hr.mono (by decide)) (by rfl) c__law_pair_right.mgx c__law_pair_right.kp c__law_pair_right.bd .nil pass0 (pa_cons pe_int (pa_cons (pe_lst (pa_cons (pv 5) pa_nil)) pa_nil))))) (pw_or1 (pt_not (pt_val (pe_callG c__law_pair_right.ok hg (hr.mono (by decide)) (by rfl) c__law_pair_right.mgx c__law_pair_right.kp c__law_pair_right.bd .nil pass0 (pa_cons pe_int (pa_cons (pv 4) pa_nil)))))))) (pss_one (ps_ret pe_bl)) pss_nil) (pss_one (ps_ret (pe_and (pe_callG c__law_pair_right.ok hg (hr.mono (by decide)) (by rfl) c__law_pair_right.mgx c__law_pair_right.kp c__law_pair_right.bd .nil pass0 (pa_cons pe_int (pa_cons (pe_call c__law_read.ok (hr.mono (by decide)) (by rfl) c__law_read.mgx c__law_read.kp c__law_read.bd .nil pass0 (pa_cons (pv 0) (pa_cons (pv 1) (pa_cons pe_int pa_nil)))) pa_nil))) (pe_one (pe_callG c__law_pair_right.ok hg (hr.mono (by decide)) (by rfl) c__law_pair_right.mgx c__law_pair_right.kp c__law_pair_right.bd .nil pass0 (pa_cons (pe_op op_add (pe_call c__law_draw.ok (hr.mono (by decide)) (by rfl) c__law_draw.mgx c__law_draw.kp c__law_draw.bd .nil pass0 (pa_cons (pv 0) (pa_cons pe_int pa_nil))) pe_int) (pa_cons (pv 4) pa_nil)))))))))))))), ?_⟩
    refine q_asg (v := .int (ns.length : Int)) (ev_cb (ea_cons (ev_var rfl) ea_nil) (rc_len (.inl (sq_of hl)) e0)) fun H1 e1 => ?_
    refine asg_k (op_k (drawC (n := 40) (hp.mono e1) rfl ev_c (by decide) (by decide) fun d H2 d0 d1 e2 hp2 => ?_))
    refine v_k (ev_c (v := .int 20)) fun H3 e3 => rv_I0 H3 (Ex.refl _) _ fun H4 e4 => ?_
    have eA : Ex (wo H p) H4 := (((wo_sub (wo_ex.trans e1)).trans e2).trans e3).trans e4
    have hp4 := (hp2.mono e3).mono e4
    obtain ⟨x, x1, x2, hx⟩ : ∃ x : Int, -20 ≤ x ∧ x < 20 ∧ d - 20 = x := ⟨_, by omega, by omega, rfl⟩
    rw [hx]
    clear hx d0 d1 e1 e2 e3 e4 hp2
    -- rows
    refine q_asgP (rs := endRows ns x) (evp_lcR1 (fun i => (x + (i : Int), onL ns (x + (i : Int)))) (ea_cons (ev_var rfl) ea_nil) (by omega) (fun _ => rfl) (fun i H5 e5 hi => eu_tup (ea_cons (ev_op (ev_var rfl) (ev_var rfl) rv_I0) (ea_cons (ev_call (ea_cons (ev_var rfl) (ea_cons (ev_op (ev_var rfl) (ev_var rfl) rv_I0) ea_nil)) (spv_lon (sq_of ((eA.trans e5) l _ hw)) g)) ea_nil)) (by show 2 ≤ 100000; decide))) fun u H5 _ e5 hrows => ?_
    have hp5 := hp4.mono e5
    have eB := eA.trans e5
    have lenR : (endRows ns x).length = ns.length := by unfold endRows; rw [List.length_map, List.length_range]
    have rbR : Rb (endRows ns x) := Rb_near g nr fun r hr => by
      obtain ⟨i, hi, rfl⟩ := List.mem_map.mp hr
      have := List.mem_range.mp hi
      exact ⟨by show _ ≤ x + (i : Int); omega, by show x + (i : Int) ≤ _; omega, rfl⟩
    have hEL : EL ns.length (endRows ns x) = ns := by
      unfold EL
      rw [show earT (ns.length : Int) (endRows ns x) = onL ns from funext fun d => end_ear g (fun r => Iff.rfl) d]
      exact list_on g
    have hLL : LL ns.length (endRows ns x).reverse = ns := by
      unfold LL
      rw [show latT (ns.length : Int) (endRows ns x).reverse = onL ns from funext fun d => end_lat g (first := x) (fun r => List.mem_reverse) d]
      exact list_on g
    have kA := reads_kept g (end_reads (ns := ns) (first := x))
    have kB := reads_kept g (rs := (endRows ns x).reverse) (fun r hr => end_reads r (List.mem_reverse.mp hr))
    clear eA hp4 e5
    have mE : EvM (tCall (sp_earliest K C) [] E0 (tCons (tVar 2) (tCons (tVar 4) tNil))) ([some (.ref p), some (.ref l), some (.int (ns.length : Int)), some (.int x), some (.ref u), none, none] : L2.St) H5 (fun H2 p => TabN C H5 H2 p ns) := by
      have := evm_ear (E := E0) (K := K) (C := C) (σ := ([some (.ref p), some (.ref l), some (.int (ns.length : Int)), some (.int x), some (.ref u), none, none] : L2.St)) (H := H5) (tA := tCons (tVar 2) (tCons (tVar 4) tNil)) (ea_cons (ev_var rfl) (ea_cons (ev_var rfl) ea_nil)) (.inl hrows) h1 h2 (by rw [lenR]; exact h1) (by rw [lenR]; omega) kA
      rw [hEL] at this
      exact this
    have mL : ∀ H6, Ex H5 H6 → EvM (tCall (sp_latest K C) [] E0 (tCons (tVar 2) (tCons (tRevL K (tVar 4)) tNil))) ([some (.ref p), some (.ref l), some (.int (ns.length : Int)), some (.int x), some (.ref u), none, none] : L2.St) H6 (fun H2 p => TabN C H6 H2 p ns) := fun H6 e6 => by
      have := evm_latP (E := E0) (K := K) (C := C) (σ := ([some (.ref p), some (.ref l), some (.int (ns.length : Int)), some (.int x), some (.ref u), none, none] : L2.St)) (H := H6) (ta := tVar 2) (tb := tRevL K (tVar 4)) (ev_var rfl) (evp_rev (ev_var rfl) (hrows.mono e6)) h1 h2 (by rw [List.length_reverse, lenR]; exact h1) (by rw [List.length_reverse, lenR]; omega) kB
      rw [hLL] at this
      exact this
    refine q_when (b := false) (et_or (a := false) (b := false) (et_test (ev_neT mE (evm_make (ev_var rfl) (eB l _ hw) g))) fun _ => et_test (ev_neT (mL H5 (Ex.refl _)) (evm_make (ev_var rfl) (eB l _ hw) g))) (fun q => nomatch q) fun _ H6 e6 => ?_
    -- row
    refine q_asgU (xs := rowV (x, onL ns x)) (eu_tup (ea_cons (ev_var rfl) (ea_cons (ev_call (ea_cons (ev_var rfl) (ea_cons (ev_var rfl) ea_nil)) (spv_lon (sq_of ((eB.trans e6) l _ hw)) g)) ea_nil)) (by show 2 ≤ 100000; decide)) fun y H7 _ e7 hy => ?_
    have rb1 : ∀ m : Nat, Rb (List.replicate m (x, onL ns x)) := fun m => Rb_near g nr fun r hr => by
      obtain ⟨_, rfl⟩ := List.mem_replicate.mp hr
      exact ⟨by show _ ≤ x; omega, by show x ≤ _; omega, rfl⟩
    refine q_when (b := false) (et_or (a := false) (b := false) (et_not (a := true) (et_B (ev_pairP (ev_var rfl) (evp_one (ev_var rfl) hy) h1 h2 (by show 1 ≤ 1; decide) (by show 1 ≤ 60; decide) (rb1 1)))) fun _ => et_not (a := true) (et_B (ev_pairP (ev_var rfl) (evp_rep (n := 60) (ev_var rfl) hy ev_c (by decide)) h1 h2 (by rw [List.length_replicate]; decide) (by rw [List.length_replicate]; decide) (rb1 60)))) (fun q => nomatch q) fun _ H8 e8 => ?_
    have hrows8 := hrows.mono ((e6.trans e7).trans e8)
    refine q_when (b := false) (et_or (a := false) (b := false) (et_not (a := true) (et_B (ev_pairP (n := 1) ev_c (evp_one (ev_var rfl) (e8 y _ hy)) (by decide) (by decide) (by show 1 ≤ 1; decide) (by show 1 ≤ 60; decide) (rb1 1)))) fun _ => et_not (a := true) (et_B (ev_call (ea_cons ev_c (ea_cons (ev_var rfl) ea_nil)) (spv_pair (n := 1) hrows8 (by decide) (by decide) (by rw [lenR]; exact h1) (by rw [lenR]; omega) rbR)))) (fun q => nomatch q) fun _ H9 e9 => ?_
    have hrows9 := hrows8.mono e9
    have e59 := ((e6.trans e7).trans e8).trans e9
    have hp9 := hp5.mono e59
    have eC := eB.trans e59
    clear eB hp5 e6 e7 e8 e9 hrows hrows8 mE mL hy e59
    obtain ⟨us, hu1, hu2⟩ := id hrows9
    have hup : u ≠ p := by
      intro z
      subst z
      obtain ⟨x3, x4, _, x6⟩ := hp9
      rw [hu1] at x6
      injection x6 with x6
      injection x6 with x6
      cases us with
      | nil => cases x6
      | cons c us => rw [List.map_cons] at x6; injection x6 with x6; cases x6
    have hrw : RowsL (wo H9 p) u (endRows ns x) := ⟨us, by rw [wo_ne hup]; exact hu1, hu2.1, fun j U r a b => by
      have z := hu2.2 j U r a b
      obtain ⟨x3, x4, _, x6⟩ := hp9
      rw [wo_ne (ne_of z x6 (fun y => by cases y))]
      exact z⟩
    refine ret_k (andV_k (call_k (ac_v ev_c fun H10 e10 => ac_k (call_k (ac_v (ev_var rfl) fun H11 e11 => ac_v (ev_var rfl) fun H12 e12 => ac_v ev_c fun H13 e13 => ac_nil ?_)))))
    have e913 := ((e10.trans e11).trans e12).trans e13
    refine ⟨p, l, ns, 5, rfl, hp9.mono e913, sq_of ((wo_sub (eC.trans e913)) l _ hw), g, h24, nr, by decide, fun z ms H14 hml hmr hmb hz e14 hms hp14 => ?_⟩
    refine ⟨z, 600, ms, rfl, hms, by decide, by decide, by rw [hml]; decide, by rw [hml]; decide, hmb.rb, fun H15 e15 => ⟨true, rfl, ?_⟩⟩
    rw [if_pos rfl]
    have e915 : Ex (wo H9 p) H15 := ((wo_mono e913).trans e14).trans e15
    have hp15 := hp14.mono e15
    refine call_k (ac_k (op_k (drawC (n := 30) hp15 rfl ev_c (by decide) (by decide) fun d2 H16 d20 d21 e16 hp16 => ?_)))
    refine v_k (ev_c (v := .int 1)) fun H17 e17 => rv_I0 H17 (Ex.refl _) _ fun H18 e18 => ac_v (ev_var rfl) fun H19 e19 => ac_nil ?_
    have e919 : Ex (wo H9 p) H19 := ((((wo_sub e915).trans e16).trans e17).trans e18).trans e19
    refine ⟨u, (d2 + 1).toNat, endRows ns x, ?_, hrw.mono e919, by omega, by omega, by rw [lenR]; exact h1, by rw [lenR]; omega, rbR, fun H20 e20 => k H20 (((wo_sub eC).trans e919).trans e20) ((((hp16.mono e17).mono e18).mono e19).mono e20)⟩
    rw [Int.toNat_of_nonneg (by omega)]
    rfl
end
end K16
end
section
set_option maxHeartbeats 4000000
namespace K16
open PySem L2 Evl G TM
section
variable {K : PySem.W.Frag} {σ : L2.St} {H : Hp} {a b C p q s : Addr} {n : Nat} {rs : List Row} {ta tb te to ti : TE} {tA tr tk : TA} {E : XK} {ns ms : List Int} {D : Ends} {tz : TS} {i j : Nat} {QA : List V → Hp → Prop} {t tt : TT} {tu : TS} {vs : List Nat} {Q : VK} {g : TG}
theorem ornot_k (h : te σ H fun x H1 => ∃ c, x = .bl c ∧ if (!c) = true then tu { D with nx := tz D } σ H1 else tSeq (tIfS tt tu tNext) tz D σ H1) : tSeq (tIfS (tOr (tNot (tB te)) tt) tu tNext) tz D σ H := h
theorem asgS_k (h : te σ H fun v H1 => to σ H1 fun o H2 => ti σ H2 fun i H3 => rSetL o i v H3 fun H4 => tz D σ H4) : tSeq (tAsg te (gSub to ti rSetL)) tz D σ H := h
theorem tup_k (h : tA σ H fun vs H1 => vs.length ≤ sizeLine ∧ ∀ p, H1 p = none → Q (.ref p) (upd H1 p (.tup vs))) : tTup tA σ H Q := h
theorem rng_k (h : tA σ H fun ws H1 => tLc (iRng1 (fun _ H' Q' => Q' ws H')) g tt te vs σ H1 Q) : tLc (iRng1 tA) g tt te vs σ H Q := h
/-- [(e, e2) for x in range(n)], the turns draw from a pot -/
theorem lcp_at (B : Row → Prop) (Wp : Hp → Prop) (hn : n ≤ 1000) (hw : ∀ x, wipe ((wipe σ vs).set j (some x)) vs = wipe σ vs) (h0 : Wp H) (hD : ∀ H2 l o, Wp H2 → H l = none → Wp (upd H2 l o)) (hf : ∀ H2 l, Wp H2 → H2 l = none → H l = none)
    (he : ∀ (i : Nat) (H' : Hp), Wp H' → ∀ Q' : VK, (∀ (U : Addr) (r : Row) (H2 : Hp), B r → Wp H2 → (∀ l o, H l = none → H' l = some o → H2 l = some o) → H' U = none → H2 U = some (.tup (rowV r)) → Q' (.ref U) H2) → te ((wipe σ vs).set j (some (.int (i : Int)))) H' Q')
    (k : ∀ (a : Addr) (rs : List Row) (H2 : Hp), rs.length = n → (∀ r, r ∈ rs → B r) → H a = none → Wp H2 → RowsL H2 a rs → Q (.ref a) H2) : tLc (iRng1 (fun _ H' Q' => Q' [.int (n : Int)] H')) (gName j) tYes te vs σ H Q := ⟨(n : Int), rfl, by omega, by omega, fun Dl hDl => by
  rw [Int.toNat_natCast]
  refine lc_range (lo := 0) (n := n) (fun i H' => ∃ (ts : List Addr) (rs : List Row), rs.length = i ∧ (∀ r, r ∈ rs → B r) ∧ Wp H' ∧ H' Dl = some (.lst (ts.map V.ref)) ∧ RowsAt H' ts rs ∧ ∀ T, T ∈ ts → H T = none) ⟨[], [], rfl, fun r hr => by simp at hr, hD _ _ _ h0 hDl, upd_same, .nil, fun T hT => by simp at hT⟩ (fun i H' hi hpv => ?_) (fun H' hpv => ?_)
  · obtain ⟨ts, rs, hl, hB, hW, h2, hA, hT⟩ := hpv
    have e0 : (0 : Int) + (i : Int) = (i : Int) := Int.zero_add _
    show wipe ((wipe σ vs).set j (some (.int ((0 : Int) + (i : Int))))) vs = wipe σ vs ∧ tYes ((wipe σ vs).set j (some (.int ((0 : Int) + (i : Int))))) H' fun b H3 => if b = true then te ((wipe σ vs).set j (some (.int ((0 : Int) + (i : Int))))) H3 fun y H4 => _ else _
    rw [e0]
    refine ⟨hw _, ?_⟩
    unfold tYes
    refine iteT ?_
    refine he i H' hW _ fun U r H3 hr hW3 e3 hU h3 => ?_
    have hd3 := e3 Dl _ hDl h2
    refine ⟨_, hd3, by rw [List.length_map, hA.1, hl]; exact sz_lt (by omega), ts ++ [U], rs ++ [r], by rw [List.length_append, hl]; rfl, fun r' hr' => ?_, hD _ _ _ hW3 hDl, by rw [upd_same, List.map_append]; rfl, ?_, fun T' hT' => ?_⟩
    · rcases List.mem_append.mp hr' with z | z
      · exact hB r' z
      · have : r' = r := by simpa using z
        subst this
        exact hr
    · refine RowsAt.off (RowsAt.app ⟨hA.1, fun j V r' a b => e3 V _ (hT V (List.mem_of_getElem? a)) (hA.2 j V r' a b)⟩ (.one h3)) hd3
    · rcases List.mem_append.mp hT' with z | z
      · exact hT T' z
      · have : T' = U := by simpa using z
        subst this
        exact hf _ _ hW hU
  · obtain ⟨ts, rs, hl, hB, hW, h2, hA, _⟩ := hpv
    exact k Dl rs H' hl hB hDl hW ⟨ts, h2, hA⟩⟩
theorem RowsL.off {xs : List V} {o : HO} (h : RowsL H a rs) (ha : a ≠ q) (hq : H q = some (.lst xs)) : RowsL (upd H q o) a rs := let ⟨ts, h1, h2⟩ := h; ⟨ts, by rw [upd_ne ha]; exact h1, RowsAt.off h2 hq⟩
theorem RowsAt.set {ts : List Addr} {U : Addr} {r : Row} (h : RowsAt H ts rs) (hU : H U = some (.tup (rowV r))) (j : Nat) : RowsAt H (ts.set j U) (rs.set j r) := ⟨by rw [List.length_set, List.length_set, h.1], fun m V r' a b => by
  rw [List.getElem?_set] at a b
  split at a
  · rename_i hjm
    rw [if_pos hjm] at b
    split at a
    · rw [if_pos (by rw [← h.1]; assumption)] at b
      cases a
      cases b
      exact hU
    · cases a
  · rename_i hjm
    rw [if_neg hjm] at b
    exact h.2 m V r' a b⟩
end
def sp_right : Sp := fun vs H Q _ => ∃ p, vs = [.ref p] ∧ PotAt H p ∧ ∀ H2, Ex (wo H p) H2 → PotAt H2 p → Q (.bl true) H2
section
variable {P : Program} {w : World} {K : PySem.W.Frag} {mg : Str → Option Value} {base : Heap} {C : Addr}
theorem ok_right {f f1 f2 f3 f4 f5 f6 f7 : Addr} {fd fd1 fd2 fd3 fd4 fd5 fd6 fd7 : FuncData} (F : Fun K "_law_right" "_law_right" s__law_right f fd) (T : Txt K mg C)
    (c__law_pick : Cal P w K mg base "_law_pick" f1 fd1 ["_law_pot_here", "_law_some"] 2 (sp_pick K)) (c__law_days : Cal P w K mg base "_law_days" f2 fd2 ["_law_pot_here", "_law_length", "_law_first"] 3 sp_ldays) (c__law_draw : Cal P w K mg base "_law_draw" f3 fd3 ["_law_pot_here", "_law_size"] 1 sp_draw) (c__law_read : Cal P w K mg base "_law_read" f4 fd4 ["_law_pot_here", "_law_days_here", "_law_many"] 3 (sp_read K))
    (c__law_pair_right : CalG P w K mg base "_law_pair_right" f5 fd5 ["_law_length", "_law_rows"] 7 sp_pair) (c__law_hidden_right : Cal P w K mg base "_law_hidden_right" f6 fd6 ["_law_pot_here", "_law_days_here", "_law_rows"] 7 sp_hidden) (c__law_ends_right : CalG P w K mg base "_law_ends_right" f7 fd7 ["_law_pot_here", "_law_days_here"] 8 sp_ends) :
    FnG P w K mg base CX0 9 f fd ["_law_pot_here"] sp_right := by
  refine okG F sc__law_right (fun vs H Q E h => ?_) (fun cdv A outer s H vs Q E hg hr h => ?_)
  · obtain ⟨p, rfl, _⟩ := h
    rfl
  · obtain ⟨p, rfl, hp, k⟩ := h
    have hu := hr.units
    refine ⟨_, (pss_cons (ps_set (i := 1) sc__law_right.nd rfl (Or.inr rfl) (pe_call c__law_pick.ok (hr.mono (by decide)) (by rfl) c__law_pick.mgx c__law_pick.kp c__law_pick.bd .nil pass0 (pa_cons (pv 0) (pa_cons (pe_lst (pa_cons pe_int (pa_cons pe_int (pa_cons pe_int (pa_cons pe_int (pa_cons pe_int (pa_cons pe_int (pa_cons pe_int (pa_cons pe_int (pa_cons pe_int pa_nil)))))))))) pa_nil)))) (pss_cons (ps_set (i := 2) sc__law_right.nd rfl (Or.inl rfl) (pe_call c__law_days.ok (hr.mono (by decide)) (by rfl) c__law_days.mgx c__law_days.kp c__law_days.bd .nil pass0 (pa_cons (pv 0) (pa_cons (pv 1) (pa_cons (pe_call c__law_pick.ok (hr.mono (by decide)) (by rfl) c__law_pick.mgx c__law_pick.kp c__law_pick.bd .nil pass0 (pa_cons (pv 0) (pa_cons (pe_lst (pa_cons pe_int (pa_cons pe_int (pa_cons (pe_un un_neg pe_int) (pa_cons (pv 1) (pa_cons pe_int (pa_cons (pe_op op_sub pe_int (pe_op op_pow pe_int pe_int)) pa_nil))))))) pa_nil))) pa_nil))))) (pss_cons (ps_set (i := 3) sc__law_right.nd rfl (Or.inl rfl) (pe_call c__law_read.ok (hr.mono (by decide)) (by rfl) c__law_read.mgx c__law_read.kp c__law_read.bd .nil pass0 (pa_cons (pv 0) (pa_cons (pv 2) (pa_cons (pe_op op_add (pe_call c__law_draw.ok (hr.mono (by decide)) (by rfl) c__law_draw.mgx c__law_draw.kp c__law_draw.bd .nil pass0 (pa_cons (pv 0) (pa_cons pe_int pa_nil))) pe_int) pa_nil))))) (pss_cons (ps_if (PW.pt (pw_or (pt_not (pt_val (pe_callG c__law_pair_right.ok hg (hr.mono (by decide)) (by rfl) c__law_pair_right.mgx c__law_pair_right.kp c__law_pair_right.bd .nil pass0 (pa_cons (pv 1) (pa_cons (pv 3) pa_nil))))) (pw_or (pt_not (pt_val (pe_call c__law_hidden_right.ok (hr.mono (by decide)) (by rfl) c__law_hidden_right.mgx c__law_hidden_right.kp c__law_hidden_right.bd .nil pass0 (pa_cons (pv 0) (pa_cons (pv 2) (pa_cons (pv 3) pa_nil)))))) (pw_or1 (pt_not (pt_val (pe_callG c__law_ends_right.ok hg (hr.mono (by decide)) (by rfl) c__law_ends_right.mgx c__law_ends_right.kp c__law_ends_right.bd .nil pass0 (pa_cons (pv 0) (pa_cons (pv 2) pa_nil))))))))) (pss_one (ps_ret pe_bl)) pss_nil) (pss_cons (ps_set (i := 4) sc__law_right.nd rfl (Or.inl rfl) (pe_call c__law_draw.ok (hr.mono (by decide)) (by rfl) c__law_draw.mgx c__law_draw.kp c__law_draw.bd .nil pass0 (pa_cons (pv 0) (pa_cons (pe_callB (lenS (K := K) rfl) (by rfl) T.b_len (by decide +kernel) (pa_cons (pv 3) pa_nil)) pa_nil)))) (pss_cons (ps_set (i := 5) sc__law_right.nd rfl (Or.inl rfl) (pe_callTy call_list_of (by rfl) T.b_list (by decide +kernel) (pa_cons (pv 3) pa_nil))) (pss_cons (ps_asg (pe_tup (pa_cons (pe_ix (ixT (K := K) rfl) (pe_ix (ixL (K := K) rfl) (pv 3) (pv 4) (fun _ _ => rfl)) pe_int (fun _ _ => rfl)) (pa_cons (pe_op op_add (pe_ix (ixT (K := K) rfl) (pe_ix (ixL (K := K) rfl) (pv 3) (pv 4) (fun _ _ => rfl)) pe_int (fun _ _ => rfl)) (pe_call c__law_pick.ok (hr.mono (by decide)) (by rfl) c__law_pick.mgx c__law_pick.kp c__law_pick.bd .nil pass0 (pa_cons (pv 0) (pa_cons (pe_lst (pa_cons pe_int (pa_cons (pe_un un_neg pe_int) (pa_cons pe_int (pa_cons (pv 1) (pa_cons (pe_op op_sub pe_int (pv 1)) (pa_cons (pe_op op_add (pe_op op_mul pe_int (pv 1)) pe_int) pa_nil))))))) pa_nil)))) pa_nil))) (pg_sub (pv 5) (pv 4) set_list)) (pss_cons (ps_if (PW.pt (pw_or (pt_not (pt_val (pe_callG c__law_pair_right.ok hg (hr.mono (by decide)) (by rfl) c__law_pair_right.mgx c__law_pair_right.kp c__law_pair_right.bd .nil pass0 (pa_cons (pv 1) (pa_cons (pv 5) pa_nil))))) (pw_or1 (pt_not (pt_val (pe_callG c__law_pair_right.ok hg (hr.mono (by decide)) (by rfl) c__law_pair_right.mgx c__law_pair_right.kp c__law_pair_right.bd .nil pass0 (pa_cons (pv 1) (pa_cons (pe_op op_cat (pv 5) (pv 3)) pa_nil)))))))) (pss_one (ps_ret pe_bl)) pss_nil) (pss_cons (ps_setLc (i := 6) (own := [("_law_turn", 7)]) (g := (gName 7)) (by rfl) sc__law_right.nd rfl rfl (sw_true rfl rfl rfl (by decide +kernel)) (pi_range1 (by rfl) T.b_range (pa_cons (pe_op op_add (pe_call c__law_draw.ok (hr.mono (by decide)) (by rfl) c__law_draw.mgx c__law_draw.kp c__law_draw.bd .nil pass0 (pa_cons (pv 0) (pa_cons pe_int pa_nil))) pe_int) pa_nil)) (blkOk_by (own := [("_law_turn", 7)]) (N := ["_law_pot_here", "_law_length", "_law_days_here", "_law_rows", "_law_at", "_law_spoilt", "_law_free", "_law_turn"]) (sc := defScope s__law_right) (by decide +kernel)) (fun _ _ _ _ _ => (pg_name (i := 7) sc__law_right.nd rfl (Or.inl rfl))) (fun _ _ _ _ _ => pts_nil) (fun _ _ _ _ _ => (pe_tup (pa_cons (pe_op op_sub (pe_call c__law_draw.ok (hr.mono (by decide)) (by rfl) c__law_draw.mgx c__law_draw.kp c__law_draw.bd .nil pass0 (pa_cons (pv 0) (pa_cons (pe_op op_mul pe_int (pv 1)) pa_nil))) (pv 1)) (pa_cons (pe_op op_sub (pe_call c__law_draw.ok (hr.mono (by decide)) (by rfl) c__law_draw.mgx c__law_draw.kp c__law_draw.bd .nil pass0 (pa_cons (pv 0) (pa_cons (pe_op op_mul pe_int (pv 1)) pa_nil))) (pv 1)) pa_nil))))) (pss_one (ps_ret (pe_callG c__law_pair_right.ok hg (hr.mono (by decide)) (by rfl) c__law_pair_right.mgx c__law_pair_right.kp c__law_pair_right.bd .nil pass0 (pa_cons (pv 1) (pa_cons (pv 6) pa_nil)))))))))))))), ?_⟩
    refine q_pick (xs := ([1, 2, 3, 4, 5, 6, 7, 8, 12] : List Int).map V.int) hp rfl (ea_cons ev_c (ea_cons ev_c (ea_cons ev_c (ea_cons ev_c (ea_cons ev_c (ea_cons ev_c (ea_cons ev_c (ea_cons ev_c (ea_cons ev_c ea_nil))))))))) (by show 0 < 9; decide) (by show 9 ≤ 1000; decide) fun j v H1 hj e1 hp1 => ?_
    obtain ⟨n, n1, n2, rfl⟩ : ∃ n : Nat, 1 ≤ n ∧ n ≤ 12 ∧ v = .int (n : Int) := by
      rw [List.getElem?_map] at hj
      obtain ⟨c, hc, rfl⟩ := Option.map_eq_some_iff.mp hj
      have hm := List.mem_of_getElem? hc
      simp only [List.mem_cons, List.mem_nil_iff, or_false] at hm
      exact ⟨c.toNat, by omega, by omega, congrArg V.int (by omega)⟩
    clear hj
    -- days
    refine asg_k (call_k (ac_v (ev_var rfl) fun H2 e2 => ac_v (ev_var rfl) fun H3 e3 => ac_k (pickC (xs := ([0, 1, -3, (n : Int), 50, 0 - 10 ^ 7] : List Int).map V.int) ((hp1.mono e2).mono e3) rfl (ea_cons ev_c (ea_cons ev_c (ea_cons (ev_un ev_c ru_neg) (ea_cons (ev_var rfl) (ea_cons ev_c (ea_cons (ev_op ev_c (ev_op ev_c ev_c (rv_I (by unfold CPow; decide))) rv_I0) ea_nil)))))) (by show 0 < 6; decide) (by show 6 ≤ 1000; decide) fun j v H4 hj e4 hp4 => ac_nil ?_)))
    obtain ⟨x0, x1, x2, rfl⟩ : ∃ x : Int, -10000000 ≤ x ∧ x ≤ 50 ∧ v = .int x := by
      rw [List.getElem?_map] at hj
      obtain ⟨c, hc, rfl⟩ := Option.map_eq_some_iff.mp hj
      have hm := List.mem_of_getElem? hc
      simp only [List.mem_cons, List.mem_nil_iff, or_false] at hm
      exact ⟨c, by omega, by omega, rfl⟩
    clear hj
    refine ⟨p, n, x0, rfl, hp4, n1, by omega, fun l ns H5 hlen g hf hb hl e5 h5 hp5 => ?_⟩
    have eA : Ex (wo H p) H5 := (wo_sub ((wo_sub ((e1.trans e2).trans e3)).trans e4)).trans e5
    obtain ⟨o4, ho4⟩ := hp4.some
    have hlp : l ≠ p := (ne_of_none ho4 hl).symm
    have hgm := g.most
    have hgp := g.pos
    have h24 : ns.length ≤ 24 := by omega
    have nr : Near ns := fun i hi => by have := hb i (by rw [← hlen]; exact hi); omega
    clear hp hp1 e1 e2 e3 e4 hp4 hl e5 ho4
    -- rows
    refine asg_k (call_k (ac_v (ev_var rfl) fun H6 e6 => ac_v (ev_var rfl) fun H7 e7 => ac_k (op_k (drawC (n := 8) ((hp5.mono e6).mono e7) rfl ev_c (by decide) (by decide) fun d H8 d0 d1 e8 hp8 => v_k (ev_c (v := .int 1)) fun H9 e9 => rv_I0 H9 (Ex.refl _) _ fun H10 e10 => ac_nil ?_))))
    have e510 : Ex (wo H5 p) H10 := (((wo_mono (e6.trans e7)).trans e8).trans e9).trans e10
    have hp10 := (hp8.mono e9).mono e10
    have hl10 : H10 l = some (.lst (ns.map V.int)) := e510 l _ (by rw [wo_ne hlp]; exact h5)
    refine ⟨p, l, ns, (d + 1).toNat, by rw [Int.toNat_of_nonneg (by omega)]; rfl, hp10, sq_of (by rw [wo_ne hlp]; exact hl10), g, h24, nr, by omega, fun a rs H11 hrl hrd hrb ha e11 hrows hp11 => ?_⟩
    obtain ⟨o10, ho10⟩ := hp10.some
    have hap : a ≠ p := (ne_of_none ho10 ha).symm
    have eB : Ex (wo H p) H11 := (wo_sub ((wo_sub eA).trans e510)).trans e11
    have hl11 : H11 l = some (.lst (ns.map V.int)) := e11 l _ (by rw [wo_ne hlp]; exact hl10)
    have m1 : 1 ≤ rs.length := by omega
    have m2 : rs.length ≤ 8 := by omega
    clear hp5 h5 eA e6 e7 e8 hp8 e9 e10 e510 hp10 hl10 hrl ha e11 ho10 d0 d1
    have rowsW : ∀ {Hx : Hp}, PotAt Hx p → RowsL Hx a rs → RowsL (wo Hx p) a rs := fun {Hx} hpx hx => by
      obtain ⟨us, hu1, hu2⟩ := hx
      exact ⟨us, by rw [wo_ne hap]; exact hu1, hu2.1, fun j U r c b => by
        have z := hu2.2 j U r c b
        obtain ⟨x3, x4, _, x6⟩ := hpx
        rw [wo_ne (ne_of z x6 (fun y => by cases y))]
        exact z⟩
    -- three judgements
    refine ornot_k (call_k (ac_v (ev_var rfl) fun H12 e12 => ac_v (ev_var rfl) fun H13 e13 => ac_nil ⟨a, n, rs, rfl, hrows.mono (e12.trans e13), n1, by omega, m1, by omega, hrb.rb, fun H14 e14 => ⟨true, rfl, ?_⟩⟩))
    rw [if_neg (by decide)]
    have e24 := (e12.trans e13).trans e14
    refine ornot_k (call_k (ac_v (ev_var rfl) fun H15 e15 => ac_v (ev_var rfl) fun H16 e16 => ac_v (ev_var rfl) fun H17 e17 => ac_nil ?_))
    have e27 := ((e24.trans e15).trans e16).trans e17
    have hp17 := hp11.mono e27
    refine ⟨p, l, a, ns, rs, rfl, hp17, hlp, e27 l _ hl11, rowsW hp17 (hrows.mono e27), g, h24, nr, hrd, m1, by omega, fun H18 e18 hp18 => ⟨true, rfl, ?_⟩⟩
    rw [if_neg (by decide)]
    have eC : Ex (wo H11 p) H18 := (wo_mono e27).trans e18
    refine notall_k (call_k (ac_v (ev_var rfl) fun H19 e19 => ac_v (ev_var rfl) fun H20 e20 => ac_nil ?_))
    have e820 := e19.trans e20
    have eC' := eC.trans e820
    refine ⟨p, l, ns, rfl, hp18.mono e820, hlp, eC' l _ (by rw [wo_ne hlp]; exact hl11), g, h24, nr, fun H21 e21 hp21 => ⟨true, rfl, ?_⟩⟩
    rw [if_neg (by decide)]
    have eD : Ex (wo H11 p) H21 := (wo_sub eC').trans e21
    have hrows21 : RowsL H21 a rs := (rowsW hp11 hrows).mono eD
    have eE : Ex (wo H p) H21 := (wo_sub eB).trans eD
    clear hp11 eB hrows hl11 e12 e13 e14 e24 e15 e16 e17 e27 hp17 e18 hp18 eC e19 e20 e820 eC' e21 eD
    -- at
    obtain ⟨us0, hu01, hu02⟩ := rowsW hp21 hrows21
    refine asg_k (drawC (n := (rs.length : Int)) hp21 rfl (ev_cb (ea_cons (ev_var rfl) ea_nil) (rc_len (n := rs.length) (.inl (sq_of hu01)) (by rw [List.length_map, hu02.1]))) (by omega) (by omega) fun d H22 d0 d1 e22 hp22 => ?_)
    have hrows22 : RowsL H22 a rs := (rowsW hp21 hrows21).mono e22
    have eF : Ex (wo H p) H22 := (wo_sub eE).trans e22
    clear hu01 hu02 hrows21 hp21 eE e22
    obtain ⟨m, rfl⟩ : ∃ m : Nat, d = (m : Int) := ⟨d.toNat, by omega⟩
    have hm : m < rs.length := by omega
    -- spoilt
    refine q_asgP (evp_list (ev_var rfl) hrows22) fun z H23 hz e23 hzr => ?_
    obtain ⟨o22, ho22⟩ := hp22.some
    have hzp : z ≠ p := (ne_of_none ho22 hz).symm
    have hza : a ≠ z := by
      obtain ⟨us, hu1, hu2⟩ := hrows22
      exact ne_of_none hu1 hz
    have hrows23 := hrows22.mono e23
    have hp23 := hp22.mono e23
    have eG := eF.trans e23
    have hzH : wo H p z = none := fresh_back eF hz
    clear hrows22 hp22 eF hz e23 ho22
    obtain ⟨r, hr0⟩ : ∃ r, rs[m]? = some r := ⟨rs[m], List.getElem?_eq_getElem hm⟩
    obtain ⟨us, hu1, hu2⟩ := id hrows23
    obtain ⟨U, hU1, hU2⟩ := hu2.at hr0
    have ixR : ∀ {Hx : Hp} {v : V} {i : Int}, Ex H23 Hx → atI (rowV r) i = some v → Ev (tOp (rIxT K) (tOp (rIxL K) (tVar 3) (tVar 4)) (tC (.int i))) ([some (.ref p), some (.int (n : Int)), some (.ref l), some (.ref a), some (.int (m : Int)), some (.ref z), none, none] : L2.St) Hx v := fun {Hx v i} ex hv =>
      ev_op (ev_op (ev_var rfl) (ev_var rfl) (rv_ixL (sq_of (ex a _ hu1)) (atI_get hU1))) ev_c (rv_ixT (st_of (ex U _ hU2)) hv)
    refine asgS_k (tup_k (ac_v (ixR (v := .int r.1) (Ex.refl _) rfl) fun H24 e24 => ac_k (op_k (v_k (ixR (v := .int r.2) e24 rfl) fun H25 e25 => pickC (xs := ([1, -1, 2, (n : Int), 0 - (n : Int), 3 * (n : Int) + 1] : List Int).map V.int) ((hp23.mono e24).mono e25) rfl (ea_cons ev_c (ea_cons (ev_un ev_c ru_neg) (ea_cons ev_c (ea_cons (ev_var rfl) (ea_cons (ev_op ev_c (ev_var rfl) rv_I0) (ea_cons (ev_op (ev_op ev_c (ev_var rfl) (rv_I (.inl ⟨by decide, by decide⟩))) ev_c rv_I0) ea_nil)))))) (by show 0 < 6; decide) (by show 6 ≤ 1000; decide) fun j v H26 hj e26 hp26 => ?_))))
    obtain ⟨c, c1, c2, rfl⟩ : ∃ c : Int, -100 ≤ c ∧ c ≤ 100 ∧ v = .int c := by
      rw [List.getElem?_map] at hj
      obtain ⟨c, hc, rfl⟩ := Option.map_eq_some_iff.mp hj
      have hm := List.mem_of_getElem? hc
      simp only [List.mem_cons, List.mem_nil_iff, or_false] at hm
      exact ⟨c, by omega, by omega, rfl⟩
    clear hj
    refine rv_I0 H26 (Ex.refl _) _ fun H27 e27 => ac_nil ⟨by show 2 ≤ sizeLine; decide, fun W hW => ?_⟩
    have e2327 : Ex (wo H23 p) H27 := ((wo_mono (e24.trans e25)).trans e26).trans e27
    have hp27 := hp26.mono e27
    have hrows27 : RowsL H27 a rs := (rowsW hp23 hrows23).mono e2327
    have hz27 : RowsL H27 z rs := by
      obtain ⟨ws, hw1, hw2⟩ := hzr
      exact ⟨ws, e2327 z _ (by rw [wo_ne hzp]; exact hw1), hw2.1, fun j V r' c b => e2327 V _ (by
        have y := hw2.2 j V r' c b
        obtain ⟨x3, x4, _, x6⟩ := hp23
        rw [wo_ne (ne_of y x6 (fun q => by cases q))]
        exact y)⟩
    have eH : Ex (wo H p) H27 := (wo_sub eG).trans e2327
    obtain ⟨ws, hw1, hw2⟩ := hz27.mono (Ex.new (o := .tup [.int r.1, .int (r.2 + c)]) hW)
    have hpW := hp27.mono (Ex.new (o := .tup [.int r.1, .int (r.2 + c)]) hW)
    have hrowsW := hrows27.mono (Ex.new (o := .tup [.int r.1, .int (r.2 + c)]) hW)
    have eI := eH.trans (Ex.new (o := .tup [.int r.1, .int (r.2 + c)]) hW)
    have hWW : upd H27 W (.tup [.int r.1, .int (r.2 + c)]) W = some (.tup (rowV (r.1, r.2 + c))) := upd_same
    clear hp23 hrows23 hzr e24 e25 e26 hp26 e27 e2327 hp27 hrows27 hz27 eH eG ixR hu1 hu2 hU1 hU2
    generalize upd H27 W (.tup [.int r.1, .int (r.2 + c)]) = H28 at hw1 hw2 hpW hrowsW eI hWW ⊢
    refine v_k (ev_var rfl) fun H29 e29 => v_k (ev_var rfl) fun H30 e30 => ?_
    have e830 := e29.trans e30
    refine ⟨z, ws.map V.ref, (m : Int), m, rfl, rfl, e830 z _ hw1, ixN_nat (by rw [List.length_map, hw2.1]; exact hm), ?_⟩
    have hz30 := e830 z _ hw1
    have hS : RowsL (upd H30 z (.lst ((ws.map V.ref).set m (.ref W)))) z (rs.set m (r.1, r.2 + c)) := ⟨ws.set m W, by rw [upd_same, List.map_set], RowsAt.off (RowsAt.set (hw2.mono e830) (e830 W _ hWW) m) hz30⟩
    have hR : RowsL (upd H30 z (.lst ((ws.map V.ref).set m (.ref W)))) a rs := RowsL.off (hrowsW.mono e830) hza hz30
    have hp31 : PotAt (upd H30 z (.lst ((ws.map V.ref).set m (.ref W)))) p := pot_off (hpW.mono e830) hzp.symm
    have eJ : Ex (wo H p) (upd H30 z (.lst ((ws.map V.ref).set m (.ref W)))) := (eI.trans e830).mut hzH
    generalize upd H30 z (.lst ((ws.map V.ref).set m (.ref W))) = H31 at hS hR hp31 eJ ⊢
    clear hw1 hw2 hpW hrowsW eI hWW e29 e30 e830 hz30 hzH
    have rb1 : Rb (rs.set m (r.1, r.2 + c)) := fun r' hr' => by
      rcases List.mem_or_eq_of_mem_set hr' with z | z
      · exact hrb.rb r' z
      · subst z
        have := hrb r (List.mem_of_getElem? hr0)
        show _ ≤ r.1 ∧ r.1 ≤ _ ∧ _ ≤ r.2 + c ∧ r.2 + c ≤ _
        omega
    have rb2 : Rb (rs.set m (r.1, r.2 + c) ++ rs) := fun r' hr' => by
      rcases List.mem_append.mp hr' with z | z
      · exact rb1 r' z
      · exact hrb.rb r' z
    refine q_when (b := false) (et_or (a := false) (b := false) (et_not (a := true) (et_B (ev_call (ea_cons (ev_var rfl) (ea_cons (ev_var rfl) ea_nil)) (spv_pair hS n1 (by omega) (by rw [List.length_set]; exact m1) (by rw [List.length_set]; omega) rb1)))) fun _ => et_not (a := true) (et_B (ev_pairP (ev_var rfl) (evp_cat (ev_var rfl) (ev_var rfl) hS hR (by rw [List.length_set]; omega)) n1 (by omega) (by rw [List.length_append, List.length_set]; omega) (by rw [List.length_append, List.length_set]; omega) rb2))) (fun q => nomatch q) fun _ H32 e32 => ?_
    have hp32 := hp31.mono e32
    have eK := eJ.trans e32
    -- free
    refine asg_k (rng_k (ac_k (op_k (drawC (n := 4) hp32 rfl ev_c (by decide) (by decide) fun d2 H33 d20 d21 e33 hp33 => v_k (ev_c (v := .int 1)) fun H34 e34 => rv_I0 H34 (Ex.refl _) _ fun H35 e35 => ac_nil ?_))))
    have hp35 := (hp33.mono e34).mono e35
    have eL : Ex (wo H p) H35 := (((wo_sub eK).trans e33).trans e34).trans e35
    obtain ⟨o35, ho35⟩ := hp35.some
    obtain ⟨m3, hm3, hm4⟩ : ∃ m3 : Nat, d2 + 1 = (m3 : Int) ∧ 1 ≤ m3 ∧ m3 ≤ 4 := ⟨(d2 + 1).toNat, by omega, by omega, by omega⟩
    rw [hm3]
    refine lcp_at (fun r => -1000 ≤ r.1 ∧ r.1 ≤ 1000 ∧ -1000 ≤ r.2 ∧ r.2 ≤ 1000) (fun Hx => Ex (wo H35 p) Hx ∧ PotAt Hx p) (by omega) (fun _ => rfl) ⟨wo_ex, hp35⟩ (fun H2 l o hx hl => ?_) (fun H2 l hx hl => ?_) (fun i H36 hx Q' kq => ?_) (fun y fs H37 hfl hfb hy hx hfr => ?_)
    · have hpl : p ≠ l := ne_of_none ho35 hl
      exact ⟨hx.1.mut (by rw [wo_ne hpl.symm]; exact hl), pot_off hx.2 hpl⟩
    · exact wo_fresh ho35 hx.1 hl hx.2.some
    · refine tup_k (ac_k (op_k (drawC (n := 4 * (n : Int)) hx.2 rfl (ev_op ev_c (ev_var rfl) (rv_I (.inl ⟨by decide, by decide⟩))) (by omega) (by omega) fun a1 H37 a10 a11 e37 hp37 => v_k (ev_var rfl) fun H38 e38 => rv_I0 H38 (Ex.refl _) _ fun H39 e39 => ac_k (op_k (drawC (n := 4 * (n : Int)) ((hp37.mono e38).mono e39) rfl (ev_op ev_c (ev_var rfl) (rv_I (.inl ⟨by decide, by decide⟩))) (by omega) (by omega) fun a2 H40 a20 a21 e40 hp40 => v_k (ev_var rfl) fun H41 e41 => rv_I0 H41 (Ex.refl _) _ fun H42 e42 => ac_nil ⟨by show 2 ≤ sizeLine; decide, fun V hV => ?_⟩)))))
      have e642 : Ex (wo H36 p) H42 := (((wo_sub ((e37.trans e38).trans e39)).trans e40).trans e41).trans e42
      have hp42 := (hp40.mono e41).mono e42
      refine kq V (a1 - (n : Int), a2 - (n : Int)) _ ⟨by show _ ≤ a1 - (n : Int); omega, by show a1 - (n : Int) ≤ _; omega, by show _ ≤ a2 - (n : Int); omega, by show a2 - (n : Int) ≤ _; omega⟩ ⟨((wo_sub hx.1).trans e642).trans (Ex.new hV), hp42.mono (Ex.new hV)⟩ (fun l o hl ho => ?_) ?_ upd_same
      · have hlp2 : l ≠ p := (ne_of_none ho35 hl).symm
        have := e642 l o (by rw [wo_ne hlp2]; exact ho)
        rw [upd_ne (ne_of_none this hV)]
        exact this
      · obtain ⟨o36, ho36⟩ := hx.2.some
        exact wo_fresh ho36 e642 hV hp42.some
    · have rb3 : Rb fs := fun r hr => by have := hfb r hr; omega
      exact s_ret (ev_call (ea_cons (ev_var rfl) (ea_cons (ev_var rfl) ea_nil)) (spv_pair hfr n1 (by omega) (by omega) (by omega) rb3)) fun H38 e38 => k H38 (((wo_sub eL).trans hx.1).trans e38) (hx.2.mono e38)
end
end K16
end
section
set_option maxHeartbeats 2000000
namespace G
open PySem PySem.Spec PyProof.Rows L2

/-! ### the end of a law whose promise is told where no repr is running -/
section
variable {P : Program} {w : World} {K : PySem.W.Frag} {mg mb : Str → Option Value} {CX : CXT} {k : Nat} {fa a : Addr} {fd : FuncData} {x : Str} {sp : Sp} {s₁ : Shared} {vs : List Value} {ns : List Int}
def scrObj (vs : List Value) : Obj := { cls := .type "list", data := .seq vs.toArray }
/-- the script alone, if the module does not know it -/
def scrHp (K : PySem.W.Frag) (a : Addr) (vs : List Value) (ns : List Int) : Hp := fun b => if b = a ∧ (K.lookup a).isNone = true then some (.frz (scrObj vs) (.lst (ns.map V.int))) else none
theorem scr_some {b : Addr} {u : HO} (h : scrHp K a vs ns b = some u) : (b = a ∧ (K.lookup a).isNone = true) ∧ u = .frz (scrObj vs) (.lst (ns.map V.int)) := by
  unfold scrHp at h
  by_cases q : b = a ∧ (K.lookup a).isNone = true
  · rw [if_pos q] at h
    exact ⟨q, (Option.some.inj h).symm⟩
  · rw [if_neg q] at h
    cases h
theorem scr_off {b : Addr} (h : ¬ (b = a ∧ (K.lookup a).isNone = true)) : scrHp K a vs ns b = none := if_neg h
theorem scr_only : Only (scrHp K a vs ns) := fun b => by
  cases q : scrHp K a vs ns b with
  | none => exact .inl rfl
  | some u => exact .inr ⟨_, _, by rw [(scr_some q).2]⟩
theorem scr_sq (KX : K.In s₁.heap) (ha : s₁.heap.get? a = some (scrObj vs)) (rv : Vals (ns.map V.int) vs) (hlen : vs.length = ns.length) (hl : ns.length ≤ sizeLine) : SqL K (scrHp K a vs ns) a (ns.map V.int) := by
  cases q : K.lookup a with
  | none => exact .inl (.inr ⟨scrObj vs, if_pos ⟨rfl, by rw [q]; rfl⟩⟩)
  | some o =>
    have e := KX a o q
    rw [ha] at e
    cases e
    exact .inr ⟨_, vs.toArray, _, q, rfl, rfl, rfl, by simpa [hlen] using hl, by simpa using rv⟩
theorem law_true (KX : K.In s₁.heap) (hns : s₁.heap.Ns mainGlobals mg) (hb : s₁.heap.Ns builtinsNs mb) (hbb : ∀ x : Str, x ≠ "__name__" → mb x = bootBuiltins x) (hlim : s₁.heap.NoLimit) (hg : s₁.gens = #[])
    (ha : s₁.heap.get? a = some (scrObj vs)) (hi : IntsAre vs ns) (hl : ns.length ≤ sizeLine) (hr : Room k callerA)
    (F : ∀ base : Heap, K.In base → base.Ns mainGlobals mg → FnG P w K mg base CX k fa fd [x] sp) (hbind : ∀ (s : Shared) (u : Value), BindsTo s fd ⟨[u], []⟩ [(x, u)])
    (hsp : ∀ H : Hp, Only H → SqL K H a (ns.map V.int) → sp [.ref a] H (fun v _ => v = .bl true) fun _ _ _ => False) (hCX : ∀ H e s', CX [] H s₁ (fun _ _ _ => False) e s' → False) :
    codeAny (model P w) callerA (.call (.ref fa) ⟨[.ref a], []⟩) (fun r s' => r = .ok (.ret (.bool true)) ∧ OldK s₁.heap s'.heap ∧ s'.os = s₁.os ∧ AllBare s'.gens) s₁ := by
  have rv := vals_ints hi
  have hok : HOk P w (scrHp K a vs ns) s₁.heap := fun b u z => by
    obtain ⟨⟨rfl, _⟩, rfl⟩ := scr_some z
    exact ⟨ha, by rw [List.length_map]; exact hl, vs, _, rv, ha⟩
  have keepK : ∀ {b : Addr} {o : Obj}, K.lookup b = some o → (hidT s₁.heap (scrHp K a vs ns)).get? b = some o := fun {b o} e => hidT_get (KX b o e) (scr_off fun q => by
    obtain ⟨rfl, q2⟩ := q
    rw [e] at q2
    cases q2)
  have keepN : ∀ {b : Addr} {m : Str → Option Value}, s₁.heap.Ns b m → (hidT s₁.heap (scrHp K a vs ns)).Ns b m := by
    rintro b m ⟨o, es, ep, e, d, r⟩
    refine ⟨o, es, ep, hidT_get e (scr_off fun q => ?_), d, r⟩
    obtain ⟨rfl, _⟩ := q
    rw [ha] at e
    cases e
    cases (show Data.seq vs.toArray _ = Data.dict es ep from d)
  have inK : K.In (hidT s₁.heap (scrHp K a vs ns)) := fun b o e => keepK e
  have M : Mod K mg (hidT s₁.heap (scrHp K a vs ns)) := ⟨inK, keepN hns, ⟨mb, keepN hb, hbb⟩, by obtain ⟨mc, q1, q2⟩ := hlim; exact ⟨mc, keepN q1, q2⟩⟩
  have out : ∀ b : Addr, b ∉ ([] : List Addr) := fun b q => nomatch q
  have env : Env0 P w K mg (hidT s₁.heap (scrHp K a vs ns)) callerA [] s₁ (scrHp K a vs ns) := { frames := rfl, mod := M, bs := fun b o e => of_hidT e, bsz := Nat.le_of_eq (hidT_size _ _), funs := trivial, frf := fun b q => (out b q).elim, hok := hok, bare := .of_eq hg }
  have go := (F _ inK (keepN hns)).run callerA [] s₁ (scrHp K a vs ns) ⟨[.ref a], []⟩ [.ref a] [.ref a] _ _ rfl hr env (hbind s₁ (.ref a)) (.cons rfl .nil) (hsp _ scr_only (scr_sq KX ha rv hi.length hl))
  refine codeAny_mono go fun r s' h => ?_
  match r, h with
  | .error e, h => exact (hCX _ e s' h).elim
  | .ok .next, h => exact h.elim
  | .ok .brk, h => exact h.elim
  | .ok .cont, h => exact h.elim
  | .ok (.ret u), h =>
    obtain ⟨v, H', os, bare, un, hok', r', rfl⟩ := h
    cases r'
    refine ⟨rfl, OldK.of_keep fun b o e => ?_, os, bare⟩
    cases q : scrHp K a vs ns b with
    | none => exact un.keep b o e q (out b) (by simp)
    | some u =>
      have q2 := (scr_some q).2
      subst q2
      have z1 := (hok b _ q).1
      have z2 := (hok' b _ (un.frzs b _ _ q)).1
      rw [e] at z1
      cases z1
      exact z2
end
theorem walkG {l : PySem.W.OpenLaw} {n k : Nat} {q : Program} {loose : List Str} {XP : (Str → Option Value) → Heap → Prop} {YP : World → Heap → Prop} {d : DefRec} {K : Params → PySem.W.Frag} {CX : CXT} {sp : PySem.W.Frag → Sp} {x : Str}
    (hn : l.most = some n) (hn2 : n ≤ sizeLine) (hdf : d.params.defaults = []) (hr : Room k callerA) (hY : ∀ (w : World) (h : Heap), YP w h → (K w.params).In h)
    (F : ∀ (w : World) (mg : Str → Option Value) (fa : Addr) (h : Heap), (K w.params).In h → h.Ns mainGlobals mg → mg d.name = some (.ref fa) → ∃ fd : FuncData, (∀ (s : Shared) (u : Value), BindsTo s fd ⟨[u], []⟩ [(x, u)]) ∧ ∀ base : Heap, (K w.params).In base → base.Ns mainGlobals mg → FnG l.prog w (K w.params) mg base CX k fa fd [x] (sp (K w.params)))
    (hsp : ∀ (K : PySem.W.Frag) (H : Hp) (a : Addr) (ns : List Int), ns.length ≤ n → Only H → SqL K H a (ns.map V.int) → sp K [.ref a] H (fun v _ => v = .bl true) fun _ _ _ => False)
    (hCX : ∀ (H : Hp) (s : Shared) (e : Value) (s' : Shared), CX [] H s (fun _ _ _ => False) e s' → False) : PySem.W.WalkO q loose XP YP l.row.toRowW d [] (fun f vs => PySem.call f vs) :=
  Att.attach_call hn hdf fun w s₀ s₁ mg mb fa o pm cd doc a vs ns G Y ho hd hcd hmg hobj hints hlen hg => by
    have KX := hY w _ Y
    obtain ⟨fd, hb, hF⟩ := F w mg fa _ KX G.T.g hmg
    exact law_true KX G.T.g G.T.b G.T.builtins G.T.nolimit hg hobj hints (Nat.le_trans hlen hn2) hr hF hb (fun H hO hS => hsp _ H a ns hlen hO hS) fun H e s' => hCX H s₁ e s'
/-- a def called with keywords, no defaults -/
theorem kb_of {K : PySem.W.Frag} {x qual : Str} {st : Stmt} {f : Addr} {fd : FuncData} {ps ks : List Str} {n : Nat} {g : List Value → List Value → List Value} {gV : List V → List V → List V} (F : Fun K x qual st f fd)
    (h : ∀ (kV doc pm : Value) (an : Option Addr) (cdv ct : Value) (us ws : List Value), us.length = n → ws.length = ks.length → bindArgs (PySem.W.fnOf x qual (defArgs st) (defBody st) (defScope st) .none kV doc pm an cdv ct) ⟨us, ks.zip ws⟩ = pure (ps.zip (g us ws)))
    (hrel : ∀ {vs : List V} {us : List Value} {zs : List V} {ws : List Value}, Vals vs us → Vals zs ws → Vals (gV vs zs) (g us ws)) : KBn K fd ps n ks g gV := by
  obtain ⟨oc, od, kV, doc, pm, an, cdv, ct, osl, rfl, lk, hcd⟩ := F.ex
  exact ⟨fun s us ws _ h1 h2 => BindsTo.of_looks fun M => by rw [h kV doc pm an cdv ct us ws h1 h2]; exact PySem.W.Looks.now, hrel⟩
theorem vals_rev : ∀ {vs : List V} {us : List Value}, Vals vs us → Vals vs.reverse us.reverse
  | _, _, .nil => .nil
  | _, _, .cons a b => by rw [List.reverse_cons, List.reverse_cons]; exact (vals_rev b).append (.cons a .nil)
end G
end
section
set_option maxHeartbeats 4000000
namespace K16
open PySem L2 Evl G TM
section
variable {P : Program} {w : World} {K : PySem.W.Frag} {mg : Str → Option Value} {base : Heap} {C : Addr}
theorem ok_law {f f1 f2 : Addr} {fd fd1 fd2 : FuncData} (F : Fun K "law" "law" s_law f fd) (T : Txt K mg C) (c__law_pot : Cal P w K mg base "_law_pot" f1 fd1 ["_law_script", "_law_k"] 1 (sp_pot K)) (c__law_right : CalG P w K mg base "_law_right" f2 fd2 ["_law_pot_here"] 9 sp_right) :
    FnG P w K mg base CX0 10 f fd ["_law_script"] (sp_law K) := by
  refine okG F sc_law (fun vs H Q E h => ?_) (fun cdv A outer s H vs Q E hg hr h => ?_)
  · obtain ⟨a, ns, rfl, _⟩ := h
    rfl
  · obtain ⟨a, ns, rfl, hs, hl, k⟩ := h
    have hu := hr.units
    have e0 : (ns.map V.int).length = ns.length := List.length_map ..
    refine ⟨_, (pss_one (ps_ret (pe_callB (allL (K := K) rfl rfl) (by rfl) T.b_all (by decide +kernel) (pa_cons (pe_lc (own := [("_law_k", 1)]) (g := (gName 1)) (by rfl) sc_law.nd (pi_range1 (by rfl) T.b_range (pa_cons (pe_callB (call_max2 rfl) (by rfl) T.b_max (by decide +kernel) (pa_cons pe_int (pa_cons (pe_callB (call_min2 rfl) (by rfl) T.b_min (by decide +kernel) (pa_cons pe_int (pa_cons (pe_callB (lenS (K := K) rfl) (by rfl) T.b_len (by decide +kernel) (pa_cons (pv 0) pa_nil)) pa_nil))) pa_nil))) pa_nil)) (blkOk_by (own := [("_law_k", 1)]) (N := ["_law_script", "_law_k"]) (sc := defScope s_law) (by decide +kernel)) (fun _ _ _ _ _ => (pg_name (i := 1) sc_law.nd rfl (Or.inl rfl))) (fun _ _ _ _ _ => pts_nil) (fun _ _ _ _ _ => (pe_callG c__law_right.ok hg (hr.mono (by decide)) (by rfl) c__law_right.mgx c__law_right.kp c__law_right.bd .nil pass0 (pa_cons (pe_call c__law_pot.ok (hr.mono (by decide)) (by rfl) c__law_pot.mgx c__law_pot.kp c__law_pot.bd .nil pass0 (pa_cons (pv 0) (pa_cons (pv 1) pa_nil))) pa_nil)))) pa_nil)))), ?_⟩
    refine s_ret (ev_allT (el_lcR1 (fun _ => true) (fun _ => V.bl true) (ea_cons (ev_cb (ea_cons ev_c (ea_cons (ev_cb (ea_cons ev_c (ea_cons (ev_cb (ea_cons (ev_var rfl) ea_nil) (rc_len (.inl hs) e0)) ea_nil)) rc_min2) ea_nil)) rc_max2) ea_nil) ?_ (fun _ => rfl) (fun _ _ _ _ => lc_yes) (fun i H1 e1 hi _ => ?_))) k
    · split <;> split <;> omega
    · refine fun Ha ea Qa qa => ⟨.ref a, rfl, .int (i : Int), rfl, a, ns, (i : Int), rfl, ex_l (e1.trans ea) hs, by omega, ?_, fun p H2 hp e2 pot => ⟨p, rfl, pot, fun H3 e3 hp3 => qa H3 ((ex_pot e2 hp).trans e3)⟩⟩
      split at hi <;> split at hi <;> omega
theorem all_mk {h : Heap} {fa : Addr} (X : K.In h) (G : h.Ns mainGlobals mg) (hmg : mg "law" = some (.ref fa))
    {C : Addr}
    {tq_MOST_LENGTH : Tok}
    {f_is_day : Addr} {od_is_day an_is_day : Option Addr} {sl_is_day : Array (Option Value)} {oc_is_day kV_is_day dc_is_day pm_is_day cd_is_day ct_is_day : Value}
    {f_is_count : Addr} {od_is_count an_is_count : Option Addr} {sl_is_count : Array (Option Value)} {oc_is_count kV_is_count dc_is_count pm_is_count cd_is_count ct_is_count : Value}
    {f_need_day : Addr} {od_need_day an_need_day : Option Addr} {sl_need_day : Array (Option Value)} {oc_need_day kV_need_day dc_need_day pm_need_day cd_need_day ct_need_day : Value}
    {f_need_length : Addr} {od_need_length an_need_length : Option Addr} {sl_need_length : Array (Option Value)} {oc_need_length kV_need_length dc_need_length pm_need_length cd_need_length ct_need_length : Value}
    {f_is_list : Addr} {od_is_list an_is_list : Option Addr} {sl_is_list : Array (Option Value)} {oc_is_list kV_is_list dc_is_list pm_is_list cd_is_list ct_is_list : Value}
    {f_is_row_of_days : Addr} {od_is_row_of_days an_is_row_of_days : Option Addr} {sl_is_row_of_days : Array (Option Value)} {oc_is_row_of_days kV_is_row_of_days dc_is_row_of_days pm_is_row_of_days cd_is_row_of_days ct_is_row_of_days : Value}
    {f_is_table : Addr} {od_is_table an_is_table : Option Addr} {sl_is_table : Array (Option Value)} {oc_is_table kV_is_table dc_is_table pm_is_table cd_is_table ct_is_table : Value}
    {f_Table___init__ : Addr} {od_Table___init__ an_Table___init__ : Option Addr} {sl_Table___init__ : Array (Option Value)} {oc_Table___init__ kV_Table___init__ dc_Table___init__ pm_Table___init__ cd_Table___init__ ct_Table___init__ : Value}
    {f_Table_length : Addr} {od_Table_length an_Table_length : Option Addr} {sl_Table_length : Array (Option Value)} {oc_Table_length kV_Table_length dc_Table_length pm_Table_length cd_Table_length ct_Table_length : Value}
    {p_Table_length : Addr} {rs_Table_length : List Value}
    {f_Table_days : Addr} {od_Table_days an_Table_days : Option Addr} {sl_Table_days : Array (Option Value)} {oc_Table_days kV_Table_days dc_Table_days pm_Table_days cd_Table_days ct_Table_days : Value}
    {f_Table_on : Addr} {od_Table_on an_Table_on : Option Addr} {sl_Table_on : Array (Option Value)} {oc_Table_on kV_Table_on dc_Table_on pm_Table_on cd_Table_on ct_Table_on : Value}
    {f_Table___eq__ : Addr} {od_Table___eq__ an_Table___eq__ : Option Addr} {sl_Table___eq__ : Array (Option Value)} {oc_Table___eq__ kV_Table___eq__ dc_Table___eq__ pm_Table___eq__ cd_Table___eq__ ct_Table___eq__ : Value}
    {f__common_length : Addr} {od__common_length an__common_length : Option Addr} {sl__common_length : Array (Option Value)} {oc__common_length kV__common_length dc__common_length pm__common_length cd__common_length ct__common_length : Value}
    {f_first_above : Addr} {od_first_above an_first_above : Option Addr} {sl_first_above : Array (Option Value)} {oc_first_above kV_first_above dc_first_above pm_first_above cd_first_above ct_first_above : Value}
    {f__need_rows : Addr} {od__need_rows an__need_rows : Option Addr} {sl__need_rows : Array (Option Value)} {oc__need_rows kV__need_rows dc__need_rows pm__need_rows cd__need_rows ct__need_rows : Value}
    {f__row_ahead : Addr} {od__row_ahead an__row_ahead : Option Addr} {sl__row_ahead : Array (Option Value)} {oc__row_ahead kV__row_ahead dc__row_ahead pm__row_ahead cd__row_ahead ct__row_ahead : Value}
    {f__row_behind : Addr} {od__row_behind an__row_behind : Option Addr} {sl__row_behind : Array (Option Value)} {oc__row_behind kV__row_behind dc__row_behind pm__row_behind cd__row_behind ct__row_behind : Value}
    {f__serving : Addr} {od__serving an__serving : Option Addr} {sl__serving : Array (Option Value)} {oc__serving kV__serving dc__serving pm__serving cd__serving ct__serving : Value}
    {f_earliest_with : Addr} {od_earliest_with an_earliest_with : Option Addr} {sl_earliest_with : Array (Option Value)} {oc_earliest_with kV_earliest_with dc_earliest_with pm_earliest_with cd_earliest_with ct_earliest_with : Value}
    {f_latest_with : Addr} {od_latest_with an_latest_with : Option Addr} {sl_latest_with : Array (Option Value)} {oc_latest_with kV_latest_with dc_latest_with pm_latest_with cd_latest_with ct_latest_with : Value}
    {f__law_pot : Addr} {od__law_pot an__law_pot : Option Addr} {sl__law_pot : Array (Option Value)} {oc__law_pot kV__law_pot dc__law_pot pm__law_pot cd__law_pot ct__law_pot : Value}
    {f__law_draw : Addr} {od__law_draw an__law_draw : Option Addr} {sl__law_draw : Array (Option Value)} {oc__law_draw kV__law_draw dc__law_draw pm__law_draw cd__law_draw ct__law_draw : Value}
    {f__law_pick : Addr} {od__law_pick an__law_pick : Option Addr} {sl__law_pick : Array (Option Value)} {oc__law_pick kV__law_pick dc__law_pick pm__law_pick cd__law_pick ct__law_pick : Value}
    {f__law_days : Addr} {od__law_days an__law_days : Option Addr} {sl__law_days : Array (Option Value)} {oc__law_days kV__law_days dc__law_days pm__law_days cd__law_days ct__law_days : Value}
    {f__law_on : Addr} {od__law_on an__law_on : Option Addr} {sl__law_on : Array (Option Value)} {oc__law_on kV__law_on dc__law_on pm__law_on cd__law_on ct__law_on : Value}
    {f__law_early : Addr} {od__law_early an__law_early : Option Addr} {sl__law_early : Array (Option Value)} {oc__law_early kV__law_early dc__law_early pm__law_early cd__law_early ct__law_early : Value}
    {f__law_late : Addr} {od__law_late an__law_late : Option Addr} {sl__law_late : Array (Option Value)} {oc__law_late kV__law_late dc__law_late pm__law_late cd__law_late ct__law_late : Value}
    {f__law_is_kept : Addr} {od__law_is_kept an__law_is_kept : Option Addr} {sl__law_is_kept : Array (Option Value)} {oc__law_is_kept kV__law_is_kept dc__law_is_kept pm__law_is_kept cd__law_is_kept ct__law_is_kept : Value}
    {f__law_told : Addr} {od__law_told an__law_told : Option Addr} {sl__law_told : Array (Option Value)} {oc__law_told kV__law_told dc__law_told pm__law_told cd__law_told ct__law_told : Value}
    {f__law_due : Addr} {od__law_due an__law_due : Option Addr} {sl__law_due : Array (Option Value)} {oc__law_due kV__law_due dc__law_due pm__law_due cd__law_due ct__law_due : Value}
    {f__law_pair_right : Addr} {od__law_pair_right an__law_pair_right : Option Addr} {sl__law_pair_right : Array (Option Value)} {oc__law_pair_right kV__law_pair_right dc__law_pair_right pm__law_pair_right cd__law_pair_right ct__law_pair_right : Value}
    {f__law_read : Addr} {od__law_read an__law_read : Option Addr} {sl__law_read : Array (Option Value)} {oc__law_read kV__law_read dc__law_read pm__law_read cd__law_read ct__law_read : Value}
    {f__law_between : Addr} {od__law_between an__law_between : Option Addr} {sl__law_between : Array (Option Value)} {oc__law_between kV__law_between dc__law_between pm__law_between cd__law_between ct__law_between : Value}
    {f__law_hidden_right : Addr} {od__law_hidden_right an__law_hidden_right : Option Addr} {sl__law_hidden_right : Array (Option Value)} {oc__law_hidden_right kV__law_hidden_right dc__law_hidden_right pm__law_hidden_right cd__law_hidden_right ct__law_hidden_right : Value}
    {f__law_ends_right : Addr} {od__law_ends_right an__law_ends_right : Option Addr} {sl__law_ends_right : Array (Option Value)} {oc__law_ends_right kV__law_ends_right dc__law_ends_right pm__law_ends_right cd__law_ends_right ct__law_ends_right : Value}
    {f__law_right : Addr} {od__law_right an__law_right : Option Addr} {sl__law_right : Array (Option Value)} {oc__law_right kV__law_right dc__law_right pm__law_right cd__law_right ct__law_right : Value}
    {f_law : Addr} {od_law an_law : Option Addr} {sl_law : Array (Option Value)} {oc_law kV_law dc_law pm_law cd_law ct_law : Value}
    (aC : PySem.W.nsIn K mainGlobals "Table" = some (some (.ref C)))
    (pg : PySem.W.plainGet K C Str.empty = true)
    (hd : PySem.W.hasDictIn K C = true)
    (po : PySem.W.plainOver K C = true)
    (sa : PySem.W.findIn K (.ref C) "__setattr__" = some (some (.builtin "object.__setattr__")))
    (mk : PySem.W.makesIn K C = true)
    (kc : PySem.W.keepIn K (.ref C) = true)
    (n_days : PySem.W.findIn K (.ref C) "_days" = some none)
    (rd : PySem.W.readsIn K C (.type "type") = true)
    (ga : PySem.W.specialIn K (.ref C) "__getattribute__" = some (some (.builtin "type.__getattribute__")))
    (xMOST_LENGTH : PySem.W.findCls K (.ref C) (.type "type") "MOST_LENGTH" = some (.val (.int 600 tq_MOST_LENGTH)))
    (ne : PySem.W.findIn K (.ref C) "__ne__" = some (some (.builtin "object.__ne__")))
    (mo : PySem.W.mroIn K C (.type "object") = some true)
    (tc1 : PySem.W.findIn K (.ref C) "__class__" = some (some (.builtin "object.__class__")))
    (tc2 : PySem.W.specialIn K (.builtin "object.__class__") "__get__" = some (some (.builtin "getset_descriptor.__get__")))
    (tc3 : PySem.W.takesIn K (.builtin "object.__class__") = some true)
    (a_is_day : PySem.W.nsIn K mainGlobals "is_day" = some (some (.ref f_is_day)))
    (l_is_day : K.lookup f_is_day = some ⟨oc_is_day, od_is_day, .func (PySem.W.fnOf "is_day" "is_day" (defArgs s_is_day) (defBody s_is_day) (defScope s_is_day) .none kV_is_day dc_is_day pm_is_day an_is_day cd_is_day ct_is_day), sl_is_day⟩)
    (c_is_day : PySem.W.codeIn K cd_is_day "is_day" = true)
    (k_is_day : PySem.W.keepIn K (.ref f_is_day) = true)
    (a_is_count : PySem.W.nsIn K mainGlobals "is_count" = some (some (.ref f_is_count)))
    (l_is_count : K.lookup f_is_count = some ⟨oc_is_count, od_is_count, .func (PySem.W.fnOf "is_count" "is_count" (defArgs s_is_count) (defBody s_is_count) (defScope s_is_count) .none kV_is_count dc_is_count pm_is_count an_is_count cd_is_count ct_is_count), sl_is_count⟩)
    (c_is_count : PySem.W.codeIn K cd_is_count "is_count" = true)
    (k_is_count : PySem.W.keepIn K (.ref f_is_count) = true)
    (a_need_day : PySem.W.nsIn K mainGlobals "need_day" = some (some (.ref f_need_day)))
    (l_need_day : K.lookup f_need_day = some ⟨oc_need_day, od_need_day, .func (PySem.W.fnOf "need_day" "need_day" (defArgs s_need_day) (defBody s_need_day) (defScope s_need_day) .none kV_need_day dc_need_day pm_need_day an_need_day cd_need_day ct_need_day), sl_need_day⟩)
    (c_need_day : PySem.W.codeIn K cd_need_day "need_day" = true)
    (k_need_day : PySem.W.keepIn K (.ref f_need_day) = true)
    (a_need_length : PySem.W.nsIn K mainGlobals "need_length" = some (some (.ref f_need_length)))
    (l_need_length : K.lookup f_need_length = some ⟨oc_need_length, od_need_length, .func (PySem.W.fnOf "need_length" "need_length" (defArgs s_need_length) (defBody s_need_length) (defScope s_need_length) .none kV_need_length dc_need_length pm_need_length an_need_length cd_need_length ct_need_length), sl_need_length⟩)
    (c_need_length : PySem.W.codeIn K cd_need_length "need_length" = true)
    (k_need_length : PySem.W.keepIn K (.ref f_need_length) = true)
    (a_is_list : PySem.W.nsIn K mainGlobals "is_list" = some (some (.ref f_is_list)))
    (l_is_list : K.lookup f_is_list = some ⟨oc_is_list, od_is_list, .func (PySem.W.fnOf "is_list" "is_list" (defArgs s_is_list) (defBody s_is_list) (defScope s_is_list) .none kV_is_list dc_is_list pm_is_list an_is_list cd_is_list ct_is_list), sl_is_list⟩)
    (c_is_list : PySem.W.codeIn K cd_is_list "is_list" = true)
    (k_is_list : PySem.W.keepIn K (.ref f_is_list) = true)
    (a_is_row_of_days : PySem.W.nsIn K mainGlobals "is_row_of_days" = some (some (.ref f_is_row_of_days)))
    (l_is_row_of_days : K.lookup f_is_row_of_days = some ⟨oc_is_row_of_days, od_is_row_of_days, .func (PySem.W.fnOf "is_row_of_days" "is_row_of_days" (defArgs s_is_row_of_days) (defBody s_is_row_of_days) (defScope s_is_row_of_days) .none kV_is_row_of_days dc_is_row_of_days pm_is_row_of_days an_is_row_of_days cd_is_row_of_days ct_is_row_of_days), sl_is_row_of_days⟩)
    (c_is_row_of_days : PySem.W.codeIn K cd_is_row_of_days "is_row_of_days" = true)
    (k_is_row_of_days : PySem.W.keepIn K (.ref f_is_row_of_days) = true)
    (a_is_table : PySem.W.nsIn K mainGlobals "is_table" = some (some (.ref f_is_table)))
    (l_is_table : K.lookup f_is_table = some ⟨oc_is_table, od_is_table, .func (PySem.W.fnOf "is_table" "is_table" (defArgs s_is_table) (defBody s_is_table) (defScope s_is_table) .none kV_is_table dc_is_table pm_is_table an_is_table cd_is_table ct_is_table), sl_is_table⟩)
    (c_is_table : PySem.W.codeIn K cd_is_table "is_table" = true)
    (k_is_table : PySem.W.keepIn K (.ref f_is_table) = true)
    (a_Table___init__ : PySem.W.findIn K (.ref C) "__init__" = some (some (.ref f_Table___init__)))
    (i_Table___init__ : PySem.W.isFn K (.ref f_Table___init__) = true)
    (l_Table___init__ : K.lookup f_Table___init__ = some ⟨oc_Table___init__, od_Table___init__, .func (PySem.W.fnOf "__init__" "Table.__init__" (defArgs s_Table___init__) (defBody s_Table___init__) (defScope s_Table___init__) .none kV_Table___init__ dc_Table___init__ pm_Table___init__ an_Table___init__ cd_Table___init__ ct_Table___init__), sl_Table___init__⟩)
    (c_Table___init__ : PySem.W.codeIn K cd_Table___init__ "Table.__init__" = true)
    (k_Table___init__ : PySem.W.keepIn K (.ref f_Table___init__) = true)
    (a_Table_length : PySem.W.findIn K (.ref C) "length" = some (some (.ref p_Table_length)))
    (g_Table_length : PySem.W.specialIn K (.ref p_Table_length) "__get__" = some (some (.builtin "property.__get__")))
    (t_Table_length : PySem.W.takesIn K (.ref p_Table_length) = some true)
    (r_Table_length : PySem.W.recIn K p_Table_length "property" = some (.ref f_Table_length :: rs_Table_length))
    (l_Table_length : K.lookup f_Table_length = some ⟨oc_Table_length, od_Table_length, .func (PySem.W.fnOf "length" "Table.length" (defArgs s_Table_length) (defBody s_Table_length) (defScope s_Table_length) .none kV_Table_length dc_Table_length pm_Table_length an_Table_length cd_Table_length ct_Table_length), sl_Table_length⟩)
    (c_Table_length : PySem.W.codeIn K cd_Table_length "Table.length" = true)
    (k_Table_length : PySem.W.keepIn K (.ref f_Table_length) = true)
    (a_Table_days : PySem.W.findIn K (.ref C) "days" = some (some (.ref f_Table_days)))
    (i_Table_days : PySem.W.isFn K (.ref f_Table_days) = true)
    (l_Table_days : K.lookup f_Table_days = some ⟨oc_Table_days, od_Table_days, .func (PySem.W.fnOf "days" "Table.days" (defArgs s_Table_days) (defBody s_Table_days) (defScope s_Table_days) .none kV_Table_days dc_Table_days pm_Table_days an_Table_days cd_Table_days ct_Table_days), sl_Table_days⟩)
    (c_Table_days : PySem.W.codeIn K cd_Table_days "Table.days" = true)
    (k_Table_days : PySem.W.keepIn K (.ref f_Table_days) = true)
    (a_Table_on : PySem.W.findIn K (.ref C) "on" = some (some (.ref f_Table_on)))
    (i_Table_on : PySem.W.isFn K (.ref f_Table_on) = true)
    (l_Table_on : K.lookup f_Table_on = some ⟨oc_Table_on, od_Table_on, .func (PySem.W.fnOf "on" "Table.on" (defArgs s_Table_on) (defBody s_Table_on) (defScope s_Table_on) .none kV_Table_on dc_Table_on pm_Table_on an_Table_on cd_Table_on ct_Table_on), sl_Table_on⟩)
    (c_Table_on : PySem.W.codeIn K cd_Table_on "Table.on" = true)
    (k_Table_on : PySem.W.keepIn K (.ref f_Table_on) = true)
    (a_Table___eq__ : PySem.W.findIn K (.ref C) "__eq__" = some (some (.ref f_Table___eq__)))
    (i_Table___eq__ : PySem.W.isFn K (.ref f_Table___eq__) = true)
    (l_Table___eq__ : K.lookup f_Table___eq__ = some ⟨oc_Table___eq__, od_Table___eq__, .func (PySem.W.fnOf "__eq__" "Table.__eq__" (defArgs s_Table___eq__) (defBody s_Table___eq__) (defScope s_Table___eq__) .none kV_Table___eq__ dc_Table___eq__ pm_Table___eq__ an_Table___eq__ cd_Table___eq__ ct_Table___eq__), sl_Table___eq__⟩)
    (c_Table___eq__ : PySem.W.codeIn K cd_Table___eq__ "Table.__eq__" = true)
    (k_Table___eq__ : PySem.W.keepIn K (.ref f_Table___eq__) = true)
    (a__common_length : PySem.W.nsIn K mainGlobals "_common_length" = some (some (.ref f__common_length)))
    (l__common_length : K.lookup f__common_length = some ⟨oc__common_length, od__common_length, .func (PySem.W.fnOf "_common_length" "_common_length" (defArgs s__common_length) (defBody s__common_length) (defScope s__common_length) .none kV__common_length dc__common_length pm__common_length an__common_length cd__common_length ct__common_length), sl__common_length⟩)
    (c__common_length : PySem.W.codeIn K cd__common_length "_common_length" = true)
    (k__common_length : PySem.W.keepIn K (.ref f__common_length) = true)
    (a_first_above : PySem.W.nsIn K mainGlobals "first_above" = some (some (.ref f_first_above)))
    (l_first_above : K.lookup f_first_above = some ⟨oc_first_above, od_first_above, .func (PySem.W.fnOf "first_above" "first_above" (defArgs s_first_above) (defBody s_first_above) (defScope s_first_above) .none kV_first_above dc_first_above pm_first_above an_first_above cd_first_above ct_first_above), sl_first_above⟩)
    (c_first_above : PySem.W.codeIn K cd_first_above "first_above" = true)
    (k_first_above : PySem.W.keepIn K (.ref f_first_above) = true)
    (a__need_rows : PySem.W.nsIn K mainGlobals "_need_rows" = some (some (.ref f__need_rows)))
    (l__need_rows : K.lookup f__need_rows = some ⟨oc__need_rows, od__need_rows, .func (PySem.W.fnOf "_need_rows" "_need_rows" (defArgs s__need_rows) (defBody s__need_rows) (defScope s__need_rows) .none kV__need_rows dc__need_rows pm__need_rows an__need_rows cd__need_rows ct__need_rows), sl__need_rows⟩)
    (c__need_rows : PySem.W.codeIn K cd__need_rows "_need_rows" = true)
    (k__need_rows : PySem.W.keepIn K (.ref f__need_rows) = true)
    (a__row_ahead : PySem.W.nsIn K mainGlobals "_row_ahead" = some (some (.ref f__row_ahead)))
    (l__row_ahead : K.lookup f__row_ahead = some ⟨oc__row_ahead, od__row_ahead, .func (PySem.W.fnOf "_row_ahead" "_row_ahead" (defArgs s__row_ahead) (defBody s__row_ahead) (defScope s__row_ahead) .none kV__row_ahead dc__row_ahead pm__row_ahead an__row_ahead cd__row_ahead ct__row_ahead), sl__row_ahead⟩)
    (c__row_ahead : PySem.W.codeIn K cd__row_ahead "_row_ahead" = true)
    (k__row_ahead : PySem.W.keepIn K (.ref f__row_ahead) = true)
    (a__row_behind : PySem.W.nsIn K mainGlobals "_row_behind" = some (some (.ref f__row_behind)))
    (l__row_behind : K.lookup f__row_behind = some ⟨oc__row_behind, od__row_behind, .func (PySem.W.fnOf "_row_behind" "_row_behind" (defArgs s__row_behind) (defBody s__row_behind) (defScope s__row_behind) .none kV__row_behind dc__row_behind pm__row_behind an__row_behind cd__row_behind ct__row_behind), sl__row_behind⟩)
    (c__row_behind : PySem.W.codeIn K cd__row_behind "_row_behind" = true)
    (k__row_behind : PySem.W.keepIn K (.ref f__row_behind) = true)
    (a__serving : PySem.W.nsIn K mainGlobals "_serving" = some (some (.ref f__serving)))
    (l__serving : K.lookup f__serving = some ⟨oc__serving, od__serving, .func (PySem.W.fnOf "_serving" "_serving" (defArgs s__serving) (defBody s__serving) (defScope s__serving) .none kV__serving dc__serving pm__serving an__serving cd__serving ct__serving), sl__serving⟩)
    (c__serving : PySem.W.codeIn K cd__serving "_serving" = true)
    (k__serving : PySem.W.keepIn K (.ref f__serving) = true)
    (a_earliest_with : PySem.W.nsIn K mainGlobals "earliest_with" = some (some (.ref f_earliest_with)))
    (l_earliest_with : K.lookup f_earliest_with = some ⟨oc_earliest_with, od_earliest_with, .func (PySem.W.fnOf "earliest_with" "earliest_with" (defArgs s_earliest_with) (defBody s_earliest_with) (defScope s_earliest_with) .none kV_earliest_with dc_earliest_with pm_earliest_with an_earliest_with cd_earliest_with ct_earliest_with), sl_earliest_with⟩)
    (c_earliest_with : PySem.W.codeIn K cd_earliest_with "earliest_with" = true)
    (k_earliest_with : PySem.W.keepIn K (.ref f_earliest_with) = true)
    (a_latest_with : PySem.W.nsIn K mainGlobals "latest_with" = some (some (.ref f_latest_with)))
    (l_latest_with : K.lookup f_latest_with = some ⟨oc_latest_with, od_latest_with, .func (PySem.W.fnOf "latest_with" "latest_with" (defArgs s_latest_with) (defBody s_latest_with) (defScope s_latest_with) .none kV_latest_with dc_latest_with pm_latest_with an_latest_with cd_latest_with ct_latest_with), sl_latest_with⟩)
    (c_latest_with : PySem.W.codeIn K cd_latest_with "latest_with" = true)
    (k_latest_with : PySem.W.keepIn K (.ref f_latest_with) = true)
    (a__law_pot : PySem.W.nsIn K mainGlobals "_law_pot" = some (some (.ref f__law_pot)))
    (l__law_pot : K.lookup f__law_pot = some ⟨oc__law_pot, od__law_pot, .func (PySem.W.fnOf "_law_pot" "_law_pot" (defArgs s__law_pot) (defBody s__law_pot) (defScope s__law_pot) .none kV__law_pot dc__law_pot pm__law_pot an__law_pot cd__law_pot ct__law_pot), sl__law_pot⟩)
    (c__law_pot : PySem.W.codeIn K cd__law_pot "_law_pot" = true)
    (k__law_pot : PySem.W.keepIn K (.ref f__law_pot) = true)
    (a__law_draw : PySem.W.nsIn K mainGlobals "_law_draw" = some (some (.ref f__law_draw)))
    (l__law_draw : K.lookup f__law_draw = some ⟨oc__law_draw, od__law_draw, .func (PySem.W.fnOf "_law_draw" "_law_draw" (defArgs s__law_draw) (defBody s__law_draw) (defScope s__law_draw) .none kV__law_draw dc__law_draw pm__law_draw an__law_draw cd__law_draw ct__law_draw), sl__law_draw⟩)
    (c__law_draw : PySem.W.codeIn K cd__law_draw "_law_draw" = true)
    (k__law_draw : PySem.W.keepIn K (.ref f__law_draw) = true)
    (a__law_pick : PySem.W.nsIn K mainGlobals "_law_pick" = some (some (.ref f__law_pick)))
    (l__law_pick : K.lookup f__law_pick = some ⟨oc__law_pick, od__law_pick, .func (PySem.W.fnOf "_law_pick" "_law_pick" (defArgs s__law_pick) (defBody s__law_pick) (defScope s__law_pick) .none kV__law_pick dc__law_pick pm__law_pick an__law_pick cd__law_pick ct__law_pick), sl__law_pick⟩)
    (c__law_pick : PySem.W.codeIn K cd__law_pick "_law_pick" = true)
    (k__law_pick : PySem.W.keepIn K (.ref f__law_pick) = true)
    (a__law_days : PySem.W.nsIn K mainGlobals "_law_days" = some (some (.ref f__law_days)))
    (l__law_days : K.lookup f__law_days = some ⟨oc__law_days, od__law_days, .func (PySem.W.fnOf "_law_days" "_law_days" (defArgs s__law_days) (defBody s__law_days) (defScope s__law_days) .none kV__law_days dc__law_days pm__law_days an__law_days cd__law_days ct__law_days), sl__law_days⟩)
    (c__law_days : PySem.W.codeIn K cd__law_days "_law_days" = true)
    (k__law_days : PySem.W.keepIn K (.ref f__law_days) = true)
    (a__law_on : PySem.W.nsIn K mainGlobals "_law_on" = some (some (.ref f__law_on)))
    (l__law_on : K.lookup f__law_on = some ⟨oc__law_on, od__law_on, .func (PySem.W.fnOf "_law_on" "_law_on" (defArgs s__law_on) (defBody s__law_on) (defScope s__law_on) .none kV__law_on dc__law_on pm__law_on an__law_on cd__law_on ct__law_on), sl__law_on⟩)
    (c__law_on : PySem.W.codeIn K cd__law_on "_law_on" = true)
    (k__law_on : PySem.W.keepIn K (.ref f__law_on) = true)
    (a__law_early : PySem.W.nsIn K mainGlobals "_law_early" = some (some (.ref f__law_early)))
    (l__law_early : K.lookup f__law_early = some ⟨oc__law_early, od__law_early, .func (PySem.W.fnOf "_law_early" "_law_early" (defArgs s__law_early) (defBody s__law_early) (defScope s__law_early) .none kV__law_early dc__law_early pm__law_early an__law_early cd__law_early ct__law_early), sl__law_early⟩)
    (c__law_early : PySem.W.codeIn K cd__law_early "_law_early" = true)
    (k__law_early : PySem.W.keepIn K (.ref f__law_early) = true)
    (a__law_late : PySem.W.nsIn K mainGlobals "_law_late" = some (some (.ref f__law_late)))
    (l__law_late : K.lookup f__law_late = some ⟨oc__law_late, od__law_late, .func (PySem.W.fnOf "_law_late" "_law_late" (defArgs s__law_late) (defBody s__law_late) (defScope s__law_late) .none kV__law_late dc__law_late pm__law_late an__law_late cd__law_late ct__law_late), sl__law_late⟩)
    (c__law_late : PySem.W.codeIn K cd__law_late "_law_late" = true)
    (k__law_late : PySem.W.keepIn K (.ref f__law_late) = true)
    (a__law_is_kept : PySem.W.nsIn K mainGlobals "_law_is_kept" = some (some (.ref f__law_is_kept)))
    (l__law_is_kept : K.lookup f__law_is_kept = some ⟨oc__law_is_kept, od__law_is_kept, .func (PySem.W.fnOf "_law_is_kept" "_law_is_kept" (defArgs s__law_is_kept) (defBody s__law_is_kept) (defScope s__law_is_kept) .none kV__law_is_kept dc__law_is_kept pm__law_is_kept an__law_is_kept cd__law_is_kept ct__law_is_kept), sl__law_is_kept⟩)
    (c__law_is_kept : PySem.W.codeIn K cd__law_is_kept "_law_is_kept" = true)
    (k__law_is_kept : PySem.W.keepIn K (.ref f__law_is_kept) = true)
    (a__law_told : PySem.W.nsIn K mainGlobals "_law_told" = some (some (.ref f__law_told)))
    (l__law_told : K.lookup f__law_told = some ⟨oc__law_told, od__law_told, .func (PySem.W.fnOf "_law_told" "_law_told" (defArgs s__law_told) (defBody s__law_told) (defScope s__law_told) .none kV__law_told dc__law_told pm__law_told an__law_told cd__law_told ct__law_told), sl__law_told⟩)
    (c__law_told : PySem.W.codeIn K cd__law_told "_law_told" = true)
    (k__law_told : PySem.W.keepIn K (.ref f__law_told) = true)
    (a__law_due : PySem.W.nsIn K mainGlobals "_law_due" = some (some (.ref f__law_due)))
    (l__law_due : K.lookup f__law_due = some ⟨oc__law_due, od__law_due, .func (PySem.W.fnOf "_law_due" "_law_due" (defArgs s__law_due) (defBody s__law_due) (defScope s__law_due) .none kV__law_due dc__law_due pm__law_due an__law_due cd__law_due ct__law_due), sl__law_due⟩)
    (c__law_due : PySem.W.codeIn K cd__law_due "_law_due" = true)
    (k__law_due : PySem.W.keepIn K (.ref f__law_due) = true)
    (a__law_pair_right : PySem.W.nsIn K mainGlobals "_law_pair_right" = some (some (.ref f__law_pair_right)))
    (l__law_pair_right : K.lookup f__law_pair_right = some ⟨oc__law_pair_right, od__law_pair_right, .func (PySem.W.fnOf "_law_pair_right" "_law_pair_right" (defArgs s__law_pair_right) (defBody s__law_pair_right) (defScope s__law_pair_right) .none kV__law_pair_right dc__law_pair_right pm__law_pair_right an__law_pair_right cd__law_pair_right ct__law_pair_right), sl__law_pair_right⟩)
    (c__law_pair_right : PySem.W.codeIn K cd__law_pair_right "_law_pair_right" = true)
    (k__law_pair_right : PySem.W.keepIn K (.ref f__law_pair_right) = true)
    (a__law_read : PySem.W.nsIn K mainGlobals "_law_read" = some (some (.ref f__law_read)))
    (l__law_read : K.lookup f__law_read = some ⟨oc__law_read, od__law_read, .func (PySem.W.fnOf "_law_read" "_law_read" (defArgs s__law_read) (defBody s__law_read) (defScope s__law_read) .none kV__law_read dc__law_read pm__law_read an__law_read cd__law_read ct__law_read), sl__law_read⟩)
    (c__law_read : PySem.W.codeIn K cd__law_read "_law_read" = true)
    (k__law_read : PySem.W.keepIn K (.ref f__law_read) = true)
    (a__law_between : PySem.W.nsIn K mainGlobals "_law_between" = some (some (.ref f__law_between)))
    (l__law_between : K.lookup f__law_between = some ⟨oc__law_between, od__law_between, .func (PySem.W.fnOf "_law_between" "_law_between" (defArgs s__law_between) (defBody s__law_between) (defScope s__law_between) .none kV__law_between dc__law_between pm__law_between an__law_between cd__law_between ct__law_between), sl__law_between⟩)
    (c__law_between : PySem.W.codeIn K cd__law_between "_law_between" = true)
    (k__law_between : PySem.W.keepIn K (.ref f__law_between) = true)
    (a__law_hidden_right : PySem.W.nsIn K mainGlobals "_law_hidden_right" = some (some (.ref f__law_hidden_right)))
    (l__law_hidden_right : K.lookup f__law_hidden_right = some ⟨oc__law_hidden_right, od__law_hidden_right, .func (PySem.W.fnOf "_law_hidden_right" "_law_hidden_right" (defArgs s__law_hidden_right) (defBody s__law_hidden_right) (defScope s__law_hidden_right) .none kV__law_hidden_right dc__law_hidden_right pm__law_hidden_right an__law_hidden_right cd__law_hidden_right ct__law_hidden_right), sl__law_hidden_right⟩)
    (c__law_hidden_right : PySem.W.codeIn K cd__law_hidden_right "_law_hidden_right" = true)
    (k__law_hidden_right : PySem.W.keepIn K (.ref f__law_hidden_right) = true)
    (a__law_ends_right : PySem.W.nsIn K mainGlobals "_law_ends_right" = some (some (.ref f__law_ends_right)))
    (l__law_ends_right : K.lookup f__law_ends_right = some ⟨oc__law_ends_right, od__law_ends_right, .func (PySem.W.fnOf "_law_ends_right" "_law_ends_right" (defArgs s__law_ends_right) (defBody s__law_ends_right) (defScope s__law_ends_right) .none kV__law_ends_right dc__law_ends_right pm__law_ends_right an__law_ends_right cd__law_ends_right ct__law_ends_right), sl__law_ends_right⟩)
    (c__law_ends_right : PySem.W.codeIn K cd__law_ends_right "_law_ends_right" = true)
    (k__law_ends_right : PySem.W.keepIn K (.ref f__law_ends_right) = true)
    (a__law_right : PySem.W.nsIn K mainGlobals "_law_right" = some (some (.ref f__law_right)))
    (l__law_right : K.lookup f__law_right = some ⟨oc__law_right, od__law_right, .func (PySem.W.fnOf "_law_right" "_law_right" (defArgs s__law_right) (defBody s__law_right) (defScope s__law_right) .none kV__law_right dc__law_right pm__law_right an__law_right cd__law_right ct__law_right), sl__law_right⟩)
    (c__law_right : PySem.W.codeIn K cd__law_right "_law_right" = true)
    (k__law_right : PySem.W.keepIn K (.ref f__law_right) = true)
    (a_law : PySem.W.nsIn K mainGlobals "law" = some (some (.ref f_law)))
    (l_law : K.lookup f_law = some ⟨oc_law, od_law, .func (PySem.W.fnOf "law" "law" (defArgs s_law) (defBody s_law) (defScope s_law) .none kV_law dc_law pm_law an_law cd_law ct_law), sl_law⟩)
    (c_law : PySem.W.codeIn K cd_law "law" = true)
    (k_law : PySem.W.keepIn K (.ref f_law) = true)
    (b_isinstance : PySem.W.nsIn K mainGlobals "isinstance" = some none)
    (b_int : PySem.W.nsIn K mainGlobals "int" = some none)
    (b_bool : PySem.W.nsIn K mainGlobals "bool" = some none)
    (b_list : PySem.W.nsIn K mainGlobals "list" = some none)
    (b_tuple : PySem.W.nsIn K mainGlobals "tuple" = some none)
    (b_len : PySem.W.nsIn K mainGlobals "len" = some none)
    (b_range : PySem.W.nsIn K mainGlobals "range" = some none)
    (b_divmod : PySem.W.nsIn K mainGlobals "divmod" = some none)
    (b_min : PySem.W.nsIn K mainGlobals "min" = some none)
    (b_max : PySem.W.nsIn K mainGlobals "max" = some none)
    (b_all : PySem.W.nsIn K mainGlobals "all" = some none)
    (b_abs : PySem.W.nsIn K mainGlobals "abs" = some none)
    (b_repr : PySem.W.nsIn K mainGlobals "repr" = some none)
    (b_lcm : PySem.W.nsIn K mainGlobals "lcm" = some (some (.builtin "math.lcm")))
    : ∃ fd : FuncData, (∀ (s : Shared) (u : Value), BindsTo s fd ⟨[u], []⟩ [("_law_script", u)]) ∧ ∀ base : Heap, K.In base → base.Ns mainGlobals mg → FnG P w K mg base CX0 10 fa fd ["_law_script"] (sp_law K) := by
  obtain rfl : f_law = fa := by
    have z := PySem.W.mg_of X G a_law
    rw [hmg] at z
    cases z
    rfl
  have T : Txt K mg C := { cl := ⟨pg, hd, po, sa⟩, nD := n_days, kc := kc, mki := mk, mg_Table := PySem.W.mg_of X G aC, ne := ne, mo := mo, tyC := fun H a dx fs e => .ins e ⟨pg, hd, po, sa⟩ tc1 tc2 tc3 mo, cM := ⟨_, _, ⟨rd, ga⟩, ⟨xMOST_LENGTH, ⟨_, rfl⟩⟩⟩, b_isinstance := PySem.W.mg_none_of X G b_isinstance, b_int := PySem.W.mg_none_of X G b_int, b_bool := PySem.W.mg_none_of X G b_bool, b_list := PySem.W.mg_none_of X G b_list, b_tuple := PySem.W.mg_none_of X G b_tuple, b_len := PySem.W.mg_none_of X G b_len, b_range := PySem.W.mg_none_of X G b_range, b_divmod := PySem.W.mg_none_of X G b_divmod, b_min := PySem.W.mg_none_of X G b_min, b_max := PySem.W.mg_none_of X G b_max, b_all := PySem.W.mg_none_of X G b_all, b_abs := PySem.W.mg_none_of X G b_abs, b_repr := PySem.W.mg_none_of X G b_repr, b_lcm := PySem.W.mg_of X G b_lcm }
  have F_is_day := fun_mk (K := K) (st := s_is_day) l_is_day c_is_day k_is_day
  have bd_is_day : Binds K _ ["value"] [] := F_is_day.binds (fun _ _ _ _ _ _ us hl => match us, hl with | [_], _ => rfl)
  have F_is_count := fun_mk (K := K) (st := s_is_count) l_is_count c_is_count k_is_count
  have bd_is_count : Binds K _ ["value"] [] := F_is_count.binds (fun _ _ _ _ _ _ us hl => match us, hl with | [_], _ => rfl)
  have F_need_day := fun_mk (K := K) (st := s_need_day) l_need_day c_need_day k_need_day
  have bd_need_day : Binds K _ ["value"] [] := F_need_day.binds (fun _ _ _ _ _ _ us hl => match us, hl with | [_], _ => rfl)
  have F_need_length := fun_mk (K := K) (st := s_need_length) l_need_length c_need_length k_need_length
  have bd_need_length : Binds K _ ["value"] [] := F_need_length.binds (fun _ _ _ _ _ _ us hl => match us, hl with | [_], _ => rfl)
  have F_is_list := fun_mk (K := K) (st := s_is_list) l_is_list c_is_list k_is_list
  have bd_is_list : Binds K _ ["value"] [] := F_is_list.binds (fun _ _ _ _ _ _ us hl => match us, hl with | [_], _ => rfl)
  have F_is_row_of_days := fun_mk (K := K) (st := s_is_row_of_days) l_is_row_of_days c_is_row_of_days k_is_row_of_days
  have bd_is_row_of_days : Binds K _ ["value"] [] := F_is_row_of_days.binds (fun _ _ _ _ _ _ us hl => match us, hl with | [_], _ => rfl)
  have F_is_table := fun_mk (K := K) (st := s_is_table) l_is_table c_is_table k_is_table
  have bd_is_table : Binds K _ ["value"] [] := F_is_table.binds (fun _ _ _ _ _ _ us hl => match us, hl with | [_], _ => rfl)
  have F_Table___init__ := fun_mk (K := K) (st := s_Table___init__) l_Table___init__ c_Table___init__ k_Table___init__
  have bd_Table___init__ : Binds K _ ["self", "days"] [] := F_Table___init__.binds (fun _ _ _ _ _ _ us hl => match us, hl with | [_, _], _ => rfl)
  have F_Table_length := fun_mk (K := K) (st := s_Table_length) l_Table_length c_Table_length k_Table_length
  have bd_Table_length : Binds K _ ["self"] [] := F_Table_length.binds (fun _ _ _ _ _ _ us hl => match us, hl with | [_], _ => rfl)
  have F_Table_days := fun_mk (K := K) (st := s_Table_days) l_Table_days c_Table_days k_Table_days
  have bd_Table_days : Binds K _ ["self"] [] := F_Table_days.binds (fun _ _ _ _ _ _ us hl => match us, hl with | [_], _ => rfl)
  have F_Table_on := fun_mk (K := K) (st := s_Table_on) l_Table_on c_Table_on k_Table_on
  have bd_Table_on : Binds K _ ["self", "day"] [] := F_Table_on.binds (fun _ _ _ _ _ _ us hl => match us, hl with | [_, _], _ => rfl)
  have F_Table___eq__ := fun_mk (K := K) (st := s_Table___eq__) l_Table___eq__ c_Table___eq__ k_Table___eq__
  have bd_Table___eq__ : Binds K _ ["self", "other"] [] := F_Table___eq__.binds (fun _ _ _ _ _ _ us hl => match us, hl with | [_, _], _ => rfl)
  have F__common_length := fun_mk (K := K) (st := s__common_length) l__common_length c__common_length k__common_length
  have bd__common_length : Binds K _ ["table", "other_table"] [] := F__common_length.binds (fun _ _ _ _ _ _ us hl => match us, hl with | [_, _], _ => rfl)
  have F_first_above := fun_mk (K := K) (st := s_first_above) l_first_above c_first_above k_first_above
  have bd_first_above : Binds K _ ["table", "other_table"] [] := F_first_above.binds (fun _ _ _ _ _ _ us hl => match us, hl with | [_, _], _ => rfl)
  have F__need_rows := fun_mk (K := K) (st := s__need_rows) l__need_rows c__need_rows k__need_rows
  have bd__need_rows : Binds K _ ["count", "rows"] [] := F__need_rows.binds (fun _ _ _ _ _ _ us hl => match us, hl with | [_, _], _ => rfl)
  have F__row_ahead := fun_mk (K := K) (st := s__row_ahead) l__row_ahead c__row_ahead k__row_ahead
  have bd__row_ahead : Binds K _ ["row", "day", "length"] [] := F__row_ahead.binds (fun _ _ _ _ _ _ us hl => match us, hl with | [_, _, _], _ => rfl)
  have F__row_behind := fun_mk (K := K) (st := s__row_behind) l__row_behind c__row_behind k__row_behind
  have bd__row_behind : Binds K _ ["row", "day", "length"] [] := F__row_behind.binds (fun _ _ _ _ _ _ us hl => match us, hl with | [_, _, _], _ => rfl)
  have F__serving := fun_mk (K := K) (st := s__serving) l__serving c__serving k__serving
  have bd__serving : Binds K _ ["days", "rows"] [] := F__serving.binds (fun _ _ _ _ _ _ us hl => match us, hl with | [_, _], _ => rfl)
  have F_earliest_with := fun_mk (K := K) (st := s_earliest_with) l_earliest_with c_earliest_with k_earliest_with
  have bd_earliest_with : Binds K _ ["count", "rows"] [] := F_earliest_with.binds (fun _ _ _ _ _ _ us hl => match us, hl with | [_, _], _ => rfl)
  have F_latest_with := fun_mk (K := K) (st := s_latest_with) l_latest_with c_latest_with k_latest_with
  have bd_latest_with : Binds K _ ["count", "rows"] [] := F_latest_with.binds (fun _ _ _ _ _ _ us hl => match us, hl with | [_, _], _ => rfl)
  have F__law_pot := fun_mk (K := K) (st := s__law_pot) l__law_pot c__law_pot k__law_pot
  have bd__law_pot : Binds K _ ["_law_script", "_law_k"] [] := F__law_pot.binds (fun _ _ _ _ _ _ us hl => match us, hl with | [_, _], _ => rfl)
  have F__law_draw := fun_mk (K := K) (st := s__law_draw) l__law_draw c__law_draw k__law_draw
  have bd__law_draw : Binds K _ ["_law_pot_here", "_law_size"] [] := F__law_draw.binds (fun _ _ _ _ _ _ us hl => match us, hl with | [_, _], _ => rfl)
  have F__law_pick := fun_mk (K := K) (st := s__law_pick) l__law_pick c__law_pick k__law_pick
  have bd__law_pick : Binds K _ ["_law_pot_here", "_law_some"] [] := F__law_pick.binds (fun _ _ _ _ _ _ us hl => match us, hl with | [_, _], _ => rfl)
  have F__law_days := fun_mk (K := K) (st := s__law_days) l__law_days c__law_days k__law_days
  have bd__law_days : Binds K _ ["_law_pot_here", "_law_length", "_law_first"] [] := F__law_days.binds (fun _ _ _ _ _ _ us hl => match us, hl with | [_, _, _], _ => rfl)
  have F__law_on := fun_mk (K := K) (st := s__law_on) l__law_on c__law_on k__law_on
  have bd__law_on : Binds K _ ["_law_days_here", "_law_day"] [] := F__law_on.binds (fun _ _ _ _ _ _ us hl => match us, hl with | [_, _], _ => rfl)
  have F__law_early := fun_mk (K := K) (st := s__law_early) l__law_early c__law_early k__law_early
  have bd__law_early : Binds K _ ["_law_length", "_law_row", "_law_day"] [] := F__law_early.binds (fun _ _ _ _ _ _ us hl => match us, hl with | [_, _, _], _ => rfl)
  have F__law_late := fun_mk (K := K) (st := s__law_late) l__law_late c__law_late k__law_late
  have bd__law_late : Binds K _ ["_law_length", "_law_row", "_law_day"] [] := F__law_late.binds (fun _ _ _ _ _ _ us hl => match us, hl with | [_, _, _], _ => rfl)
  have F__law_is_kept := fun_mk (K := K) (st := s__law_is_kept) l__law_is_kept c__law_is_kept k__law_is_kept
  have bd__law_is_kept : Binds K _ ["_law_length", "_law_rows"] [] := F__law_is_kept.binds (fun _ _ _ _ _ _ us hl => match us, hl with | [_, _], _ => rfl)
  have F__law_told := fun_mk (K := K) (st := s__law_told) l__law_told c__law_told k__law_told
  have bd__law_told : Binds K _ ["_law_table"] [] := F__law_told.binds (fun _ _ _ _ _ _ us hl => match us, hl with | [_], _ => rfl)
  have F__law_due := fun_mk (K := K) (st := s__law_due) l__law_due c__law_due k__law_due
  have bd__law_due : Binds K _ ["_law_length", "_law_rows"] [] := F__law_due.binds (fun _ _ _ _ _ _ us hl => match us, hl with | [_, _], _ => rfl)
  have F__law_pair_right := fun_mk (K := K) (st := s__law_pair_right) l__law_pair_right c__law_pair_right k__law_pair_right
  have bd__law_pair_right : Binds K _ ["_law_length", "_law_rows"] [] := F__law_pair_right.binds (fun _ _ _ _ _ _ us hl => match us, hl with | [_, _], _ => rfl)
  have F__law_read := fun_mk (K := K) (st := s__law_read) l__law_read c__law_read k__law_read
  have bd__law_read : Binds K _ ["_law_pot_here", "_law_days_here", "_law_many"] [] := F__law_read.binds (fun _ _ _ _ _ _ us hl => match us, hl with | [_, _, _], _ => rfl)
  have F__law_between := fun_mk (K := K) (st := s__law_between) l__law_between c__law_between k__law_between
  have bd__law_between : Binds K _ ["_law_pot_here", "_law_early_here", "_law_late_here", "_law_length"] [] := F__law_between.binds (fun _ _ _ _ _ _ us hl => match us, hl with | [_, _, _, _], _ => rfl)
  have F__law_hidden_right := fun_mk (K := K) (st := s__law_hidden_right) l__law_hidden_right c__law_hidden_right k__law_hidden_right
  have bd__law_hidden_right : Binds K _ ["_law_pot_here", "_law_days_here", "_law_rows"] [] := F__law_hidden_right.binds (fun _ _ _ _ _ _ us hl => match us, hl with | [_, _, _], _ => rfl)
  have F__law_ends_right := fun_mk (K := K) (st := s__law_ends_right) l__law_ends_right c__law_ends_right k__law_ends_right
  have bd__law_ends_right : Binds K _ ["_law_pot_here", "_law_days_here"] [] := F__law_ends_right.binds (fun _ _ _ _ _ _ us hl => match us, hl with | [_, _], _ => rfl)
  have F__law_right := fun_mk (K := K) (st := s__law_right) l__law_right c__law_right k__law_right
  have bd__law_right : Binds K _ ["_law_pot_here"] [] := F__law_right.binds (fun _ _ _ _ _ _ us hl => match us, hl with | [_], _ => rfl)
  have F_law := fun_mk (K := K) (st := s_law) l_law c_law k_law
  have bd_law : Binds K _ ["_law_script"] [] := F_law.binds (fun _ _ _ _ _ _ us hl => match us, hl with | [_], _ => rfl)
  have kb_earliest_with_rows_count := kb_of (ps := ["count", "rows"]) (ks := ["rows", "count"]) (n := 0) (g := fun us ws => us ++ ws.reverse) (gV := fun vs zs => vs ++ zs.reverse) F_earliest_with (fun _ _ _ _ _ _ us ws h1 h2 => match us, ws, h1, h2 with | [], [_, _], _, _ => rfl) (fun a b => a.append (vals_rev b))
  have kb_latest_with_rows_count := kb_of (ps := ["count", "rows"]) (ks := ["rows", "count"]) (n := 0) (g := fun us ws => us ++ ws.reverse) (gV := fun vs zs => vs ++ zs.reverse) F_latest_with (fun _ _ _ _ _ _ us ws h1 h2 => match us, ws, h1, h2 with | [], [_, _], _, _ => rfl) (fun a b => a.append (vals_rev b))
  refine ⟨PySem.W.fnOf "law" "law" (defArgs s_law) (defBody s_law) (defScope s_law) .none kV_law dc_law pm_law an_law cd_law ct_law, ?bb, fun base kb nb => ?_⟩
  rotate_left
  have mkI : Mk K C f_Table___init__ := ⟨mk, a_Table___init__, i_Table___init__, kc⟩
  have c_is_day : Cal P w K mg base "is_day" f_is_day _ _ _ _ := ⟨ok_is_day (P := P) (w := w) (base := base) F_is_day T, PySem.W.mg_of X G a_is_day, k_is_day, bd_is_day⟩
  have c_is_count : Cal P w K mg base "is_count" f_is_count _ _ _ _ := ⟨ok_is_count (P := P) (w := w) (base := base) F_is_count T c_is_day, PySem.W.mg_of X G a_is_count, k_is_count, bd_is_count⟩
  have c_need_day : Cal P w K mg base "need_day" f_need_day _ _ _ _ := ⟨ok_need_day (P := P) (w := w) (base := base) F_need_day T c_is_day, PySem.W.mg_of X G a_need_day, k_need_day, bd_need_day⟩
  have c_is_list : Cal P w K mg base "is_list" f_is_list _ _ _ _ := ⟨ok_is_list (P := P) (w := w) (base := base) F_is_list T, PySem.W.mg_of X G a_is_list, k_is_list, bd_is_list⟩
  have c_is_table : Cal P w K mg base "is_table" f_is_table _ _ _ _ := ⟨ok_is_table (P := P) (w := w) (base := base) F_is_table T c_is_list c_is_day, PySem.W.mg_of X G a_is_table, k_is_table, bd_is_table⟩
  have m_init : Ini P w K mg base C f_Table___init__ _ := ⟨ok_init (P := P) (w := w) (base := base) F_Table___init__ T c_is_table, bd_Table___init__⟩
  have m_length : Prp P w K mg base C "length" p_Table_length f_Table_length _ _ _ _ := ⟨ok_length (P := P) (w := w) (base := base) F_Table_length T, ⟨a_Table_length, g_Table_length, t_Table_length, ⟨_, r_Table_length⟩⟩, bd_Table_length⟩
  have m_days : Met P w K mg base C "days" f_Table_days _ _ _ _ := ⟨ok_days (P := P) (w := w) (base := base) F_Table_days T, ⟨a_Table_days, i_Table_days, k_Table_days⟩, bd_Table_days⟩
  have m_on : Met P w K mg base C "on" f_Table_on _ _ _ _ := ⟨ok_on (P := P) (w := w) (base := base) F_Table_on T c_need_day m_length, ⟨a_Table_on, i_Table_on, k_Table_on⟩, bd_Table_on⟩
  have c__law_pot : Cal P w K mg base "_law_pot" f__law_pot _ _ _ _ := ⟨ok_pot (P := P) (w := w) (base := base) F__law_pot T, PySem.W.mg_of X G a__law_pot, k__law_pot, bd__law_pot⟩
  have c__law_draw : Cal P w K mg base "_law_draw" f__law_draw _ _ _ _ := ⟨ok_draw (P := P) (w := w) (base := base) F__law_draw T, PySem.W.mg_of X G a__law_draw, k__law_draw, bd__law_draw⟩
  have c__law_pick : Cal P w K mg base "_law_pick" f__law_pick _ _ _ _ := ⟨ok_pick (P := P) (w := w) (base := base) F__law_pick T c__law_draw, PySem.W.mg_of X G a__law_pick, k__law_pick, bd__law_pick⟩
  have c__law_days : Cal P w K mg base "_law_days" f__law_days _ _ _ _ := ⟨ok_ldays (P := P) (w := w) (base := base) F__law_days T c__law_pick, PySem.W.mg_of X G a__law_days, k__law_days, bd__law_days⟩
  have c__law_on : Cal P w K mg base "_law_on" f__law_on _ _ _ _ := ⟨ok_lon (P := P) (w := w) (base := base) F__law_on T, PySem.W.mg_of X G a__law_on, k__law_on, bd__law_on⟩
  have c_need_length : Cal P w K mg base "need_length" f_need_length _ _ _ _ := ⟨ok_need_length (P := P) (w := w) (base := base) F_need_length T c_is_count, PySem.W.mg_of X G a_need_length, k_need_length, bd_need_length⟩
  have c_is_row_of_days : Cal P w K mg base "is_row_of_days" f_is_row_of_days _ _ _ _ := ⟨ok_is_row (P := P) (w := w) (base := base) F_is_row_of_days T c_is_day, PySem.W.mg_of X G a_is_row_of_days, k_is_row_of_days, bd_is_row_of_days⟩
  have m_eq : Met P w K mg base C "__eq__" f_Table___eq__ _ _ _ _ := ⟨ok_eq (P := P) (w := w) (base := base) F_Table___eq__ T, ⟨a_Table___eq__, i_Table___eq__, k_Table___eq__⟩, bd_Table___eq__⟩
  have c__common_length : Cal P w K mg base "_common_length" f__common_length _ _ _ _ := ⟨ok_common (P := P) (w := w) (base := base) F__common_length T m_length, PySem.W.mg_of X G a__common_length, k__common_length, bd__common_length⟩
  have c_first_above : Cal P w K mg base "first_above" f_first_above _ _ _ _ := ⟨ok_above (P := P) (w := w) (base := base) F_first_above T c__common_length m_on, PySem.W.mg_of X G a_first_above, k_first_above, bd_first_above⟩
  have c__row_ahead : Cal P w K mg base "_row_ahead" f__row_ahead _ _ _ _ := ⟨ok_ahead (P := P) (w := w) (base := base) F__row_ahead T, PySem.W.mg_of X G a__row_ahead, k__row_ahead, bd__row_ahead⟩
  have c__row_behind : Cal P w K mg base "_row_behind" f__row_behind _ _ _ _ := ⟨ok_behind (P := P) (w := w) (base := base) F__row_behind T, PySem.W.mg_of X G a__row_behind, k__row_behind, bd__row_behind⟩
  have c__serving : Cal P w K mg base "_serving" f__serving _ _ _ _ := ⟨ok_serving (P := P) (w := w) (base := base) F__serving T mkI m_init m_on, PySem.W.mg_of X G a__serving, k__serving, bd__serving⟩
  have c__need_rows : Cal P w K mg base "_need_rows" f__need_rows _ _ _ _ := ⟨ok_need_rows (P := P) (w := w) (base := base) F__need_rows T c_need_length c_is_list c_is_row_of_days, PySem.W.mg_of X G a__need_rows, k__need_rows, bd__need_rows⟩
  have c_earliest_with : Cal P w K mg base "earliest_with" f_earliest_with _ _ _ _ := ⟨ok_earliest (P := P) (w := w) (base := base) F_earliest_with T c__need_rows c__serving c__row_ahead, PySem.W.mg_of X G a_earliest_with, k_earliest_with, bd_earliest_with⟩
  have c_latest_with : Cal P w K mg base "latest_with" f_latest_with _ _ _ _ := ⟨ok_latest (P := P) (w := w) (base := base) F_latest_with T c__need_rows c__serving c__row_behind, PySem.W.mg_of X G a_latest_with, k_latest_with, bd_latest_with⟩
  have c__law_early : Cal P w K mg base "_law_early" f__law_early _ _ _ _ := ⟨ok_learly (P := P) (w := w) (base := base) F__law_early T, PySem.W.mg_of X G a__law_early, k__law_early, bd__law_early⟩
  have c__law_late : Cal P w K mg base "_law_late" f__law_late _ _ _ _ := ⟨ok_llate (P := P) (w := w) (base := base) F__law_late T, PySem.W.mg_of X G a__law_late, k__law_late, bd__law_late⟩
  have c__law_is_kept : Cal P w K mg base "_law_is_kept" f__law_is_kept _ _ _ _ := ⟨ok_kept (P := P) (w := w) (base := base) F__law_is_kept T c__law_early, PySem.W.mg_of X G a__law_is_kept, k__law_is_kept, bd__law_is_kept⟩
  have c__law_told : Cal P w K mg base "_law_told" f__law_told _ _ _ _ := ⟨ok_told (P := P) (w := w) (base := base) F__law_told T m_days, PySem.W.mg_of X G a__law_told, k__law_told, bd__law_told⟩
  have c__law_due : Cal P w K mg base "_law_due" f__law_due _ _ _ _ := ⟨ok_due (P := P) (w := w) (base := base) F__law_due T c__law_is_kept c__law_early c__law_late, PySem.W.mg_of X G a__law_due, k__law_due, bd__law_due⟩
  have c__law_pair_right : CalG P w K mg base "_law_pair_right" f__law_pair_right _ _ _ _ := ⟨ok_pair (P := P) (w := w) (base := base) F__law_pair_right T c__law_due c__law_told c_earliest_with c_latest_with kb_earliest_with_rows_count kb_latest_with_rows_count, PySem.W.mg_of X G a__law_pair_right, k__law_pair_right, bd__law_pair_right⟩
  have c__law_read : Cal P w K mg base "_law_read" f__law_read _ _ _ _ := ⟨ok_read (P := P) (w := w) (base := base) F__law_read T c__law_pick c__law_draw c__law_on, PySem.W.mg_of X G a__law_read, k__law_read, bd__law_read⟩
  have c__law_between : Cal P w K mg base "_law_between" f__law_between _ _ _ _ := ⟨ok_between (P := P) (w := w) (base := base) F__law_between T c__law_draw, PySem.W.mg_of X G a__law_between, k__law_between, bd__law_between⟩
  have c__law_hidden_right : Cal P w K mg base "_law_hidden_right" f__law_hidden_right _ _ _ _ := ⟨ok_hidden (P := P) (w := w) (base := base) F__law_hidden_right T mkI c_earliest_with c_latest_with m_on c_first_above m_init m_days c__law_between c__law_on c__law_read, PySem.W.mg_of X G a__law_hidden_right, k__law_hidden_right, bd__law_hidden_right⟩
  have c__law_ends_right : CalG P w K mg base "_law_ends_right" f__law_ends_right _ _ _ _ := ⟨ok_ends (P := P) (w := w) (base := base) F__law_ends_right T mkI c__law_draw c__law_on c_earliest_with c_latest_with m_init m_eq c__law_pair_right c__law_read, PySem.W.mg_of X G a__law_ends_right, k__law_ends_right, bd__law_ends_right⟩
  have c__law_right : CalG P w K mg base "_law_right" f__law_right _ _ _ _ := ⟨ok_right (P := P) (w := w) (base := base) F__law_right T c__law_pick c__law_days c__law_draw c__law_read c__law_pair_right c__law_hidden_right c__law_ends_right, PySem.W.mg_of X G a__law_right, k__law_right, bd__law_right⟩
  exact ok_law (P := P) (w := w) (base := base) F_law T c__law_pot c__law_right
  exact fun s u => BindsTo.of_looks fun M => PySem.W.Looks.of_pure rfl
end
end K16
end
section
open PySem PySem.W PyProof.Rows L2
set_option maxHeartbeats 0 in
theorem PySem.Challenge.cw_leadrules_k16_whole_rules_through_rows_holds : PySem.Challenge.rw_leadrules_k16_whole_rules_through_rows.Holds := by
  w_on; o_law; k_head; (case hw => w_witness2)
  k_fill
  refine G.walkG (l := PySem.Challenge.rw_leadrules_k16_whole_rules_through_rows) (n := 63) (k := 10) (x := "_law_script") (CX := CX0) (sp := K16.sp_law) rfl (by decide) rfl ⟨rfl, by decide, by decide⟩ (fun w h Y => PySem.W.kIn_of Y) ?Fq ?Sq ?Nq
  case Sq => exact fun K H a ns hl hO hS => ⟨a, ns, rfl, hS, hl, fun H2 e => rfl⟩
  case Nq => exact fun H s e s' h => h
  case Fq =>
    intro w mg fa h KX G0 hmg
    refine' K16.all_mk KX G0 hmg ?aC ?pg ?hd ?po ?sa ?mk ?kc ?n_days ?rd ?ga ?xMOST_LENGTH ?ne ?mo ?tc1 ?tc2 ?tc3 ?a_is_day ?l_is_day ?c_is_day ?k_is_day ?a_is_count ?l_is_count ?c_is_count ?k_is_count ?a_need_day ?l_need_day ?c_need_day ?k_need_day ?a_need_length ?l_need_length ?c_need_length ?k_need_length ?a_is_list ?l_is_list ?c_is_list ?k_is_list ?a_is_row_of_days ?l_is_row_of_days ?c_is_row_of_days ?k_is_row_of_days ?a_is_table ?l_is_table ?c_is_table ?k_is_table ?a_Table___init__ ?i_Table___init__ ?l_Table___init__ ?c_Table___init__ ?k_Table___init__ ?a_Table_length ?g_Table_length ?t_Table_length ?r_Table_length ?l_Table_length ?c_Table_length ?k_Table_length ?a_Table_days ?i_Table_days ?l_Table_days ?c_Table_days ?k_Table_days ?a_Table_on ?i_Table_on ?l_Table_on ?c_Table_on ?k_Table_on ?a_Table___eq__ ?i_Table___eq__ ?l_Table___eq__ ?c_Table___eq__ ?k_Table___eq__ ?a__common_length ?l__common_length ?c__common_length ?k__common_length ?a_first_above ?l_first_above ?c_first_above ?k_first_above ?a__need_rows ?l__need_rows ?c__need_rows ?k__need_rows ?a__row_ahead ?l__row_ahead ?c__row_ahead ?k__row_ahead ?a__row_behind ?l__row_behind ?c__row_behind ?k__row_behind ?a__serving ?l__serving ?c__serving ?k__serving ?a_earliest_with ?l_earliest_with ?c_earliest_with ?k_earliest_with ?a_latest_with ?l_latest_with ?c_latest_with ?k_latest_with ?a__law_pot ?l__law_pot ?c__law_pot ?k__law_pot ?a__law_draw ?l__law_draw ?c__law_draw ?k__law_draw ?a__law_pick ?l__law_pick ?c__law_pick ?k__law_pick ?a__law_days ?l__law_days ?c__law_days ?k__law_days ?a__law_on ?l__law_on ?c__law_on ?k__law_on ?a__law_early ?l__law_early ?c__law_early ?k__law_early ?a__law_late ?l__law_late ?c__law_late ?k__law_late ?a__law_is_kept ?l__law_is_kept ?c__law_is_kept ?k__law_is_kept ?a__law_told ?l__law_told ?c__law_told ?k__law_told ?a__law_due ?l__law_due ?c__law_due ?k__law_due ?a__law_pair_right ?l__law_pair_right ?c__law_pair_right ?k__law_pair_right ?a__law_read ?l__law_read ?c__law_read ?k__law_read ?a__law_between ?l__law_between ?c__law_between ?k__law_between ?a__law_hidden_right ?l__law_hidden_right ?c__law_hidden_right ?k__law_hidden_right ?a__law_ends_right ?l__law_ends_right ?c__law_ends_right ?k__law_ends_right ?a__law_right ?l__law_right ?c__law_right ?k__law_right ?a_law ?l_law ?c_law ?k_law ?b_isinstance ?b_int ?b_bool ?b_list ?b_tuple ?b_len ?b_range ?b_divmod ?b_min ?b_max ?b_all ?b_abs ?b_repr ?b_lcm
    (case aC => k_is)
    (case pg => k_is)
    (case hd => k_is)
    (case po => k_is)
    (case sa => k_is)
    (case mk => k_is)
    (case kc => k_is)
    (case n_days => k_is)
    (case rd => k_is)
    (case ga => k_is)
    (case xMOST_LENGTH => k_is)
    (case ne => k_is)
    (case mo => k_is)
    (case tc1 => k_is)
    (case tc2 => k_is)
    (case tc3 => k_is)
    (case a_is_day => k_is)
    (case l_is_day => k_is)
    (case c_is_day => k_is)
    (case k_is_day => k_is)
    (case a_is_count => k_is)
    (case l_is_count => k_is)
    (case c_is_count => k_is)
    (case k_is_count => k_is)
    (case a_need_day => k_is)
    (case l_need_day => k_is)
    (case c_need_day => k_is)
    (case k_need_day => k_is)
    (case a_need_length => k_is)
    (case l_need_length => k_is)
    (case c_need_length => k_is)
    (case k_need_length => k_is)
    (case a_is_list => k_is)
    (case l_is_list => k_is)
    (case c_is_list => k_is)
    (case k_is_list => k_is)
    (case a_is_row_of_days => k_is)
    (case l_is_row_of_days => k_is)
    (case c_is_row_of_days => k_is)
    (case k_is_row_of_days => k_is)
    (case a_is_table => k_is)
    (case l_is_table => k_is)
    (case c_is_table => k_is)
    (case k_is_table => k_is)
    (case a_Table___init__ => k_is)
    (case i_Table___init__ => k_is)
    (case l_Table___init__ => k_is)
    (case c_Table___init__ => k_is)
    (case k_Table___init__ => k_is)
    (case a_Table_length => k_is)
    (case g_Table_length => k_is)
    (case t_Table_length => k_is)
    (case r_Table_length => k_is)
    (case l_Table_length => k_is)
    (case c_Table_length => k_is)
    (case k_Table_length => k_is)
    (case a_Table_days => k_is)
    (case i_Table_days => k_is)
    (case l_Table_days => k_is)
    (case c_Table_days => k_is)
    (case k_Table_days => k_is)
    (case a_Table_on => k_is)
    (case i_Table_on => k_is)
    (case l_Table_on => k_is)
    (case c_Table_on => k_is)
    (case k_Table_on => k_is)
    (case a_Table___eq__ => k_is)
    (case i_Table___eq__ => k_is)
    (case l_Table___eq__ => k_is)
    (case c_Table___eq__ => k_is)
    (case k_Table___eq__ => k_is)
    (case a__common_length => k_is)
    (case l__common_length => k_is)
    (case c__common_length => k_is)
    (case k__common_length => k_is)
    (case a_first_above => k_is)
    (case l_first_above => k_is)
    (case c_first_above => k_is)
    (case k_first_above => k_is)
    (case a__need_rows => k_is)
    (case l__need_rows => k_is)
    (case c__need_rows => k_is)
    (case k__need_rows => k_is)
    (case a__row_ahead => k_is)
    (case l__row_ahead => k_is)
    (case c__row_ahead => k_is)
    (case k__row_ahead => k_is)
    (case a__row_behind => k_is)
    (case l__row_behind => k_is)
    (case c__row_behind => k_is)
    (case k__row_behind => k_is)
    (case a__serving => k_is)
    (case l__serving => k_is)
    (case c__serving => k_is)
    (case k__serving => k_is)
    (case a_earliest_with => k_is)
    (case l_earliest_with => k_is)
    (case c_earliest_with => k_is)
    (case k_earliest_with => k_is)
    (case a_latest_with => k_is)
    (case l_latest_with => k_is)
    (case c_latest_with => k_is)
    (case k_latest_with => k_is)
    (case a__law_pot => k_is)
    (case l__law_pot => k_is)
    (case c__law_pot => k_is)
    (case k__law_pot => k_is)
    (case a__law_draw => k_is)
    (case l__law_draw => k_is)
    (case c__law_draw => k_is)
    (case k__law_draw => k_is)
    (case a__law_pick => k_is)
    (case l__law_pick => k_is)
    (case c__law_pick => k_is)
    (case k__law_pick => k_is)
    (case a__law_days => k_is)
    (case l__law_days => k_is)
    (case c__law_days => k_is)
    (case k__law_days => k_is)
    (case a__law_on => k_is)
    (case l__law_on => k_is)
    (case c__law_on => k_is)
    (case k__law_on => k_is)
    (case a__law_early => k_is)
    (case l__law_early => k_is)
    (case c__law_early => k_is)
    (case k__law_early => k_is)
    (case a__law_late => k_is)
    (case l__law_late => k_is)
    (case c__law_late => k_is)
    (case k__law_late => k_is)
    (case a__law_is_kept => k_is)
    (case l__law_is_kept => k_is)
    (case c__law_is_kept => k_is)
    (case k__law_is_kept => k_is)
    (case a__law_told => k_is)
    (case l__law_told => k_is)
    (case c__law_told => k_is)
    (case k__law_told => k_is)
    (case a__law_due => k_is)
    (case l__law_due => k_is)
    (case c__law_due => k_is)
    (case k__law_due => k_is)
    (case a__law_pair_right => k_is)
    (case l__law_pair_right => k_is)
    (case c__law_pair_right => k_is)
    (case k__law_pair_right => k_is)
    (case a__law_read => k_is)
    (case l__law_read => k_is)
    (case c__law_read => k_is)
    (case k__law_read => k_is)
    (case a__law_between => k_is)
    (case l__law_between => k_is)
    (case c__law_between => k_is)
    (case k__law_between => k_is)
    (case a__law_hidden_right => k_is)
    (case l__law_hidden_right => k_is)
    (case c__law_hidden_right => k_is)
    (case k__law_hidden_right => k_is)
    (case a__law_ends_right => k_is)
    (case l__law_ends_right => k_is)
    (case c__law_ends_right => k_is)
    (case k__law_ends_right => k_is)
    (case a__law_right => k_is)
    (case l__law_right => k_is)
    (case c__law_right => k_is)
    (case k__law_right => k_is)
    (case a_law => k_is)
    (case l_law => k_is)
    (case c_law => k_is)
    (case k_law => k_is)
    (case b_isinstance => k_is)
    (case b_int => k_is)
    (case b_bool => k_is)
    (case b_list => k_is)
    (case b_tuple => k_is)
    (case b_len => k_is)
    (case b_range => k_is)
    (case b_divmod => k_is)
    (case b_min => k_is)
    (case b_max => k_is)
    (case b_all => k_is)
    (case b_abs => k_is)
    (case b_repr => k_is)
    (case b_lcm => k_is)
end
