import PyProof.Rows.All
import Wide.All
import OpenK.AllK
import Wide.FinOn
import HandS.ForMost
import HandS.Evl
import HandS.Property
import HandS.Star
import HandS.ClsMeth
import HandS.Defaults
import HandS.MakeKwOnly
import HandS.FStr
import HandS.Conv
import HandS.Gcd
import HandS.IsInst
import HandS.Wide
import PyProof.ReprRoads
import PyProof.ListNew
import PyProof.ListRange
import HandS.Style
import HandS.OwnEq
import HandS.More
import KE.KMathGC
import HandS.Exc
import HandS.ExcInit
import HandS.ExcField
import HandS.Sort
import HandS.ExcOwn
import HandS.WordsExc
import HandS.TupAny
import HandS.Lambda
import KE.KRevSl
import HandS.TupSets
import HandS.SetTxt0
import KE.KDictCopyH
import KE.SortData
import HandS.Iter
import HandS.Walk
import PyProof.ListStr
import KE.KDictItemsList
import HandS.DictTup
import HandS.Ends
import HandS.Head0
import HandS.Head1
import HandS.Head2
import HandS.HeadHook1
import HandS.HeadHook2
import PySem.Challenge.RW_leadrules_k22_whole_days_of_formulas
set_option Elab.async false
set_option linter.all false
set_option maxRecDepth 100000
section
set_option maxHeartbeats 2000000
namespace G
open PySem PySem.Spec PyProof.Rows L2

/-! ### a def's promise where no repr is running around it -/
structure FnG (P : Program) (w : World) (K : PySem.W.Frag) (mg : Str → Option Value) (base : Heap) (CX : CXT) (k : Nat) (f : Addr) (fd : FuncData) (ps : List Str) (sp : Sp) : Prop where
  len : ∀ vs H Q E, sp vs H Q E → vs.length = ps.length
  run : ∀ (A : Around) (outer : List Env) (s : Shared) (H : Hp) (args : Args) (us : List Value) (vs : List V) (Q : VK) (E : XK), A.guards = some [] → Room k A → Env0 P w K mg base A outer s H → BindsTo s fd args (ps.zip us) → Vals vs us → sp vs H Q E →
    codeAny (model P w) A (.call (.ref f) args) (CR CX outer P w H s Q E) s
theorem FnG.of {P : Program} {w : World} {K : PySem.W.Frag} {mg : Str → Option Value} {base : Heap} {CX : CXT} {k : Nat} {f : Addr} {fd : FuncData} {ps : List Str} {sp : Sp} (F : FnOk P w K mg base CX k f fd ps sp) : FnG P w K mg base CX k f fd ps sp :=
  ⟨F.len, fun A outer s H args us vs Q E _ => F.run A outer s H args us vs Q E⟩

theorem fnG_of {CX : CXT} {P : Program} {w : World} {K : PySem.W.Frag} {mg : Str → Option Value} {base : Heap} {k : Nat} {f : Addr} {name qual : Str} {params : Arguments} {body : List Stmt} {scope : Scope} {dV kV doc pm cdv ct oc : Value} {an od : Option Addr}
    {osl : Array (Option Value)} {N ps : List Str} {sp : Sp} (lk : K.lookup f = some ⟨oc, od, .func (PySem.W.fnOf name qual params body scope dV kV doc pm an cdv ct), osl⟩) (hcd : PySem.W.codeIn K cdv qual = true) (S : FnScope N ps scope)
    (len : ∀ vs H Q E, sp vs H Q E → vs.length = ps.length)
    (hbody : ∀ (A : Around) (outer : List Env) (s : Shared) (H : Hp) (vs : List V) (Q : VK) (E : XK), A.guards = some [] → Room k (A.deeper (envOfC qual scope s.heap.objs.size f cdv)) → sp vs H Q E →
      ∃ t, PSs (cxOf CX P w K mg base N qual scope f cdv A outer s H E) body t ∧ t { nx := fun _ H' => Q .non H', rt := Q } (start N vs) H) :
    FnG P w K mg base CX (k + 1) f (PySem.W.fnOf name qual params body scope dV kV doc pm an cdv ct) ps sp := by
  refine ⟨len, fun A outer s H args us vs Q E hgd hr e0 hb r hsp => ?_⟩
  have hl := len _ _ _ _ hsp
  have KX : K.In s.heap := e0.mod.kin.keeps fun b o e => (e0.bs b o e).1
  have lim : s.heap.NoLimit := e0.mod.nolimit.keeps fun b o e => (e0.bs b o e).1
  have hkind : ∀ y ∈ ps.zip us, scope.names.lookup y.1 = some .local ∨ (scope.names.lookup y.1 = some .cell ∧ ((cellsFrom (s.heap.objs.size + 1) scope.names []).lookup y.1).isSome = true) := fun ⟨n, v⟩ hy => by
    rcases S.par n (List.of_mem_zip hy).1 with q | q
    · exact .inl q
    · exact .inr ⟨q, PySem.W.cellsFrom_some _ _ _ (.inl q)⟩
  refine codeAny_call_function hr.depth (KX _ _ lk) rfl S.co S.gen rfl (PySem.W.codeRec_of KX hcd) (hb _ _ _ _ ?_)
  refine wpAny_newFunctionEnv_cells S.kind hkind fun env he s1 x => ?_
  subst he
  refine ⟨lim.keeps x.toInCall.keep, codeAny_func ?_⟩
  obtain ⟨t, ht, hq⟩ := hbody A outer s H vs Q E hgd (hr.deeper _) hsp
  have I : Inv (cxOf CX P w K mg base N qual scope f cdv A outer s H E) [] (start N vs) H s1 := inv_start S hr.hd e0 hl r x
  refine wpAny_mono (ht.run [] s1 (start N vs) H _ I hq) (fun fl s' hs => ?_) fun e s' hs => hs
  have fin : ∀ {σ' : L2.St} {H' : Hp} {v : V} {u : Value}, Inv (cxOf CX P w K mg base N qual scope f cdv A outer s H E) [] σ' H' s' → RelV v u → Q v H' → CE outer P w H s Q u s' :=
    fun {σ' H' v u} J rv q => ⟨v, H', J.os, J.bare, J.base, J.hok, rv, q⟩
  cases fl with
  | ret u =>
    obtain ⟨v, σ', H', J, rv, q⟩ := hs
    exact fin J rv q
  | next =>
    obtain ⟨σ', H', J, q⟩ := hs
    exact fin (v := V.non) (u := Value.none) J rfl q
  | brk =>
    obtain ⟨_, _, _, q⟩ := hs
    exact False.elim q
  | cont =>
    obtain ⟨_, _, _, q⟩ := hs
    exact False.elim q

theorem okG {P : Program} {w : World} {K : PySem.W.Frag} {mg : Str → Option Value} {base : Heap} {x qual : Str} {st : Stmt} {f : Addr} {fd : FuncData} {N ps : List Str} {k : Nat} {sp : Sp} (F : Fun K x qual st f fd) (S : FnScope N ps (defScope st)) (len : ∀ vs H Q E, sp vs H Q E → vs.length = ps.length)
    (hbody : ∀ (cdv : Value) (A : Around) (outer : List Env) (s : Shared) (H : Hp) (vs : List V) (Q : VK) (E : XK), A.guards = some [] → Room k (A.deeper (envOfC qual (defScope st) s.heap.objs.size f cdv)) → sp vs H Q E →
      ∃ t, PSs (cxOf CX0 P w K mg base N qual (defScope st) f cdv A outer s H E).nox (defBody st) t ∧ t { nx := fun _ H' => Q .non H', rt := Q } (start N vs) H) : FnG P w K mg base CX0 (k + 1) f fd ps sp := by
  obtain ⟨oc, od, kV, doc, pm, an, cdv, ct, osl, rfl, lk, hcd⟩ := F.ex
  refine fnG_of lk hcd S len fun A outer s H vs Q E hg hr hsp => ?_
  obtain ⟨t, h, q⟩ := hbody cdv A outer s H vs Q E hg hr hsp
  exact ⟨t, h.nox, q⟩

section
variable {X : Cx} {CX : CXT} {k n : Nat} {f C : Addr} {fd : FuncData} {ps ks : List Str} {sp : Sp} {dvs : List V} {ds : List Value} {E : XK} {x m : Str} {p pos apos : Pos} {e o : Expr} {es : List Expr} {kws : List Keyword} {ta : TE} {t tk : TA} {g : List Value → List Value → List Value} {gV : List V → List V → List V}
theorem run_fnG {pins : List (Addr × Obj)} {σ : L2.St} {H : Hp} {s : Shared} {Q : VK} {us : List Value} {vs : List V} (F : FnG X.prog X.w X.K X.mg X.base CX k f fd ps sp) (hgd : X.A.guards = some []) (hr : Room k X.A) (hb : Binds X.K fd ps ds) (hd : Vals dvs ds) (hx : Passes CX X E)
    (I : Inv X pins σ H s) (r : Vals vs us) (h : sp (vs ++ dvs) H Q E) : wpAny (model X.prog X.w) X.A (call (.ref f) us) (EP X pins σ Q) X.xe s := by
  have r2 : Vals (vs ++ dvs) (us ++ ds) := r.append hd
  have hl : (us ++ ds).length = ps.length := by rw [← r2.length]; exact F.len _ _ _ _ h
  refine wpAny_call (codeAny_mono (F.run X.A X.stack s H ⟨us, []⟩ (us ++ ds) (vs ++ dvs) Q E hgd hr I.env0 (hb s us I.kIn hl) r2 h) fun r s' hq => ?_)
  cases r with
  | error e => exact hx pins σ H s e s' I hq
  | ok fl =>
    cases fl with
    | ret u => exact I.after hq
    | next => exact False.elim hq
    | brk => exact False.elim hq
    | cont => exact False.elim hq
/-- f(e, ..) -/
theorem pe_callG (F : FnG X.prog X.w X.K X.mg X.base CX k f fd ps sp) (hgd : X.A.guards = some []) (hr : Room k X.A) (hg : Gl X x) (hm : X.mg x = some (.ref f)) (hk : PySem.W.keepIn X.K (.ref f) = true) (hb : Binds X.K fd ps ds) (hd : Vals dvs ds) (hx : Passes CX X E)
    (ha : PA X (e :: es) t) (hdb : (x == ("__debug__" : Str)) = false := by decide) (he : starEach (e :: es) X.env = (false, eval e X.env) :: starEach es X.env := by rfl) (hpl : (backTo pos (starEach es X.env)).any (·.1) = false := by rfl) :
    PE X (.Call (.Name x p) (e :: es) [] pos) (tCall sp dvs E t) := by
  refine ⟨fun pins s σ H Q I h => ?_⟩
  refine wpAny_Call_Name_kw (ld_glob I hg hm ?_ hdb)
  refine PySem.W.callWith_K (h₀ := X.base) I.ok.mod.kin hk (thn (ha.run pos pins s σ H _ I h) fun us s1 ⟨vs, H1, I1, r, q⟩ => ⟨I1.kIn, ?_⟩) he hpl
  exact run_fnG F hgd hr hb hd hx I1 r q
/-- o.m(k = v, ..) -/
def tMethN (C : Addr) (m : Str) (n j : Nat) (sp : Sp) (gV : List V → List V → List V) (E : XK) (ta : TE) (t tk : TA) : TE := fun σ H Q => ta σ H fun x H1 => ∃ a dx fs, x = .ref a ∧ H1 a = some (.ins C dx fs) ∧ fs.lookup m = none ∧
  t σ H1 fun vs H2 => tk σ H2 fun zs H3 => vs.length = n ∧ zs.length = j ∧ sp (gV (x :: vs) zs) H3 Q E
theorem pe_methN0 {pl : Sem Bool} (he : PE X o ta) (c : Cls X.K C) (hm : Meth X.K C m f) (F : FnOk X.prog X.w X.K X.mg X.base CX k f fd ps sp) (hr : Room k X.A) (hb : KBn X.K fd ps 1 ks g gV) (hx : Passes CX X E) (hkw : PK X kws tk)
    (hall : (backToKw pos (keywordEach kws X.env)).all (·.1.isSome) = true := by rfl) (hks : (backToKw pos (keywordEach kws X.env)).filterMap (·.1) = ks := by rfl)
    (hpl : ((backTo pos (starEach [] X.env)).any (·.1) || (backToKw pos (keywordEach kws X.env)).any (·.1.isNone)) = false := by rfl)
    (ht : eval (.Call (.Attribute o m apos) [] kws pos) X.env = (do
      let ov ← eval o X.env
      standAt apos.atName
      let (f, first) ← holding [ov] (getMethod ov m pl)
      callWith pos f first (backTo pos (starEach [] X.env)) (backToKw pos (keywordEach kws X.env))) := by rfl) :
    PE X (.Call (.Attribute o m apos) [] kws pos) (tMethN C m 0 ks.length sp gV E ta tNil tk) := by
  refine ⟨fun pins s σ H Q I h => ?_⟩
  refine PySem.W.methodCall_KW (pl := pl) (thn (he.run pins s σ H _ I h) fun u s1 ⟨x, H1, I1, rx, a, dx, fs, ex, ea, l, q⟩ => ?_) ht
  subst ex
  obtain rfl : u = Value.ref a := rx
  refine getmeth_ok I1 ea c hm l ?_
  refine PySem.W.callWith_KW0 (first := [.ref a]) (h₀ := X.base) I.ok.mod.kin hm.kp hall ?_ hpl
  refine thn (hkw.run pos pins s1 σ H1 _ I1 q) fun ws s2 ⟨zs, H2, I2, rz, l1, l2, q2⟩ => ⟨I2.kIn, ?_⟩
  rw [hks]
  exact run_fnN (us := [.ref a]) (vs := [.ref a]) F hr hb hx I2 (.cons rfl .nil) rz rfl l2 q2
end

/-! ### repr of data; repr of an own instance; {x} of data -/
mutual
theorem dp_nodict {K : PySem.W.Frag} {H : Hp} : ∀ {d : PyData} {v : V}, Dp K H v d → d.hasDict = false
  | .none, _, _ => by simp [PyData.hasDict]
  | .bool _, _, _ => by simp [PyData.hasDict]
  | .int _, _, _ => by simp [PyData.hasDict]
  | .str _, _, _ => by simp [PyData.hasDict]
  | .list ds, _, h => by
    cases h with
    | lst _ ha => simpa [PyData.hasDict] using dp_nodictAll ha
  | .tuple ds, _, h => by
    cases h with
    | tup _ ha => simpa [PyData.hasDict] using dp_nodictAll ha
  | .dict _, _, h => by cases h
theorem dp_nodictAll {K : PySem.W.Frag} {H : Hp} : ∀ {ds : List PyData} {vs : List V}, DpAll K H vs ds → PyData.hasDictAll ds = false
  | [], _, _ => by simp [PyData.hasDictAll]
  | d :: ds, _, h => by
    cases h with
    | cons h1 h2 => simp [PyData.hasDictAll, dp_nodict h1, dp_nodictAll h2]
end
def rRepr (K : PySem.W.Frag) : List V → Hp → VK → Prop := fun xs H Q => ∃ (a : Addr) (d : PyData), xs = [.ref a] ∧ Dp K H (.ref a) d ∧ d.showable = true ∧ d.depth ≤ 60 ∧ d.shown.length ≤ sizeLine ∧ Q (.str d.shown) H
theorem call_reprD {X : Cx} (hgd : X.A.guards = some []) (hu : X.A.units + 64 < cLine) : CallR X (.builtin "repr") (rRepr X.K) := by
  intro pins s σ H xs us Q I r h
  obtain ⟨a, d, rfl, hd, hs, hdp, hz, q⟩ := h
  obtain ⟨u, rfl, ru⟩ := vals1 r
  obtain rfl : u = Value.ref a := ru
  obtain ⟨as, hr⟩ := Dp.reads I d _ _ hd rfl
  refine repr_of_reads' hr hs (PyData.noDict_hsm (dp_nodict hd)) hgd (by omega) (fun _ _ e => e) (fun h' u tk hk => ?_) hz
  exact ⟨.str d.shown, H, I.kept hk, ⟨_, rfl⟩, q⟩
end G
end
section
set_option maxHeartbeats 2000000
namespace G
open PySem PySem.Spec PyProof.Rows L2
section
variable {X : Cx} {CX : CXT} {k : Nat} {f C : Addr} {fd : FuncData} {ps : List Str} {sp : Sp} {E : XK}
def rReprO (C : Addr) (sp : Sp) (E : XK) : List V → Hp → VK → Prop := fun xs H Q => ∃ (a dx : Addr) (fs : List (Str × V)), xs = [.ref a] ∧ H a = some (.ins C dx fs) ∧ sp [.ref a] H (fun v H' => (∃ y, v = .str y) ∧ Q v H') E
theorem call_reprO (hs : PySem.W.findIn X.K (.ref C) "__repr__" = some (some (.ref f))) (hf : PySem.W.isFn X.K (.ref f) = true) (FF : FnG X.prog X.w X.K X.mg X.base CX k f fd ps sp) (hgd : X.A.guards = some []) (hr : Room (k + 1) X.A)
    (hb : Binds X.K fd ps []) (hx : Passes CX X E) : CallR X (.builtin "repr") (rReprO C sp E) := by
  intro pins s σ H xs us Q I r h
  obtain ⟨a, dx, fs, rfl, ea, hsp⟩ := h
  obtain ⟨u, rfl, ru⟩ := vals1 r
  obtain rfl : u = Value.ref a := ru
  obtain ⟨mA, O, _, _, _, _⟩ := ins_get I.hok ea
  obtain ⟨od, J, _⟩ := O.look
  refine Calls.call_function_entry F.kind_repr F.plain_repr F.entry_repr (F.args_repr1 _) ?_
  unfold Builtin.«repr»
  refine wpAny_bind (m := oneArg "repr" _) (wpAny_pure ?_)
  refine wpAny_bind (m := cRoomFor _ _) (wpAny_cRoomFor (by have := hr.units; show X.A.units + 1 < cLine; omega) ?_)
  refine wpAny_bind ?_
  unfold specialOf
  refine wpAny_bind (J.type.here ((PySem.W.looks_findIn I.kIn hs).here ?_))
  show wpAny _ _ (if (some (Value.ref f)).isNone = true then _ else _) _ _ _
  rw [if_neg (by simp)]
  have hl : ([Value.ref a] ++ []).length = ps.length := by
    rw [← FF.len _ _ _ _ hsp] <;> rfl
  refine wpAny_bind (m := callSpecialIfBound? (.ref a) (Str.ofString "__repr__") _) (PySem.W.ifBound_K I.kIn J hs hf ?_)
  refine wpAny_call (codeAny_mono (FF.run X.A.in1 X.stack s H ⟨[.ref a], []⟩ [.ref a] [.ref a] _ E hgd hr.in1 I.env0.in1 (hb _ [.ref a] I.kIn hl) (.cons rfl .nil) hsp) fun r s' hq => ?_)
  cases r with
  | error er => exact hx pins σ H s er s' I hq
  | ok fl =>
    cases fl with
    | ret u =>
      obtain ⟨v, H', I3, rv, ⟨y, ey⟩, q3⟩ := I.after hq
      subst ey
      obtain ⟨tk, rfl⟩ := rv
      show wpAny _ _ _ _ _ _
      refine wpAny_bind (wpAny_isInstance (typeIs_str _ _ _) isSubtype_str_str ?_)
      first
        | exact wpAny_pure ⟨_, rfl, ⟨.str y, H', I3, ⟨tk, rfl⟩, q3⟩⟩
        | (rw [if_pos rfl]; exact wpAny_pure ⟨_, rfl, ⟨.str y, H', I3, ⟨tk, rfl⟩, q3⟩⟩)
        | (simp only [if_true]; exact wpAny_pure ⟨_, rfl, ⟨.str y, H', I3, ⟨tk, rfl⟩, q3⟩⟩)
    | next => exact False.elim hq
    | brk => exact False.elim hq
    | cont => exact False.elim hq

/-- {x} of data, as a text -/
def tFmtD (K : PySem.W.Frag) (te : TE) : TE := fun σ H Q => te σ H fun x H1 => ∃ (a : Addr) (d : PyData), x = .ref a ∧ Dp K H1 (.ref a) d ∧ d.showable = true ∧ d.depth ≤ 60 ∧ d.shown.length ≤ sizeLine ∧ Q (.str d.shown) H1
theorem pe_fmtD {e : Expr} {te : TE} {pos : Pos} (hgd : X.A.guards = some []) (hu : X.A.units + 64 < cLine) (he : PE X e te) : PE X (.FormattedValue e (-1) none pos) (tFmtD X.K te) := by
  refine ⟨fun pins s σ H Q I h => ?_⟩
  refine wpAny_FormattedValue_plain (thn (he.run pins s σ H _ I h) fun v s1 hv => ?_)
  obtain ⟨x, H1, I1, r1, a, d, rfl, hd, hs, hdp, hz, q⟩ := hv
  obtain rfl : v = Value.ref a := r1
  obtain ⟨as, hr⟩ := Dp.reads I1 d _ _ hd rfl
  exact formatField_of_reads hr hs (PyData.noDict_hsm (dp_nodict hd)) hgd (by omega) (fun _ _ e => e) (fun h' u tk hk => ⟨.str d.shown, H1, I1.kept hk, ⟨_, rfl⟩, q⟩) hz
end
end G
end
section
set_option maxHeartbeats 2000000
namespace G
open PySem PySem.Spec PyProof.Rows L2

/-! ### list(enumerate(xs)) -/
def enObj (f0 f1 : Value) (it : Addr) (i : Int) (old : Value) : Obj := { cls := .type "enumerate", dict := none, data := .fields #[f0, f1, .ref it, rawInt i, .none, old], slots := #[] }
def IsEn (h : Heap) (e it : Addr) (i : Int) : Prop := ∃ f0 f1 old, h.get? e = some (enObj f0 f1 it i old) ∧ (f0 = .none ∨ ∃ a : Addr, f0 = rawInt a)
section
variable {prog : Program} {w : World} {A : Around} {E : Value → Shared → Prop} {s : Shared}
theorem wpAny_loadIfAlive {a : Addr} {Q : Option Obj → Shared → Prop} (h : Q (s.heap.get? a) s) : wpAny (model prog w) A (loadIfAlive a) Q E s := fun Γ p _ => by
  show Sem.wp _ Γ (.loadIfAlive a .pure) _ _ p s
  rw [Sem.wp_loadIfAlive]
  exact h

theorem en_handOut {e it T : Addr} {i : Int} {f0 f1 old x : Value} {Q : Unit → Shared → Prop} (he : s.heap.get? e = some (enObj f0 f1 it i old))
    (hQ : ∀ h', h'.get? e = some (enObj (rawInt T) (.bool false) it i old) → Heap.SameBut e s.heap h' → Q () { s with heap := h' }) :
    wpAny (model prog w) A (Builtin.SmallTypes.ownedTupleHandOut (.ref e) (.ref T)) Q E s := by
  unfold Builtin.SmallTypes.ownedTupleHandOut
  refine wpAny_bind (wpAny_setField_rec he (by simp [enObj]) fun h₆ he₆ hs₆ => ?_)
  refine wpAny_setField_rec he₆ (by simp [enObj]) fun h₇ he₇ hs₇ => ?_
  refine hQ h₇ ?_ ?_
  · simpa [enObj] using he₇
  · exact ⟨by rw [hs₇.1, hs₆.1], fun b hb => (hs₇.2 b hb).trans (hs₆.2 b hb)⟩

theorem en_next {e it l : Addr} {i : Nat} {items : Array Value} {x : Value} {Q : Value → Shared → Prop}
    (he : IsEn s.heap e it i) (hit : s.heap.IsListIter it l i) (hl : s.heap.IsList l items) (hx : items[i]? = some x) (hne : e ≠ it)
    (hQ : ∀ h', IsEn h' e it ((i : Int) + 1) → h'.IsListIter it l (i + 1) →
      h'.get? s.heap.objs.size = some { cls := .type "tuple", data := .seq #[.int i s.toks, x] } → 
      (∀ b o, b ≠ e → b ≠ it → s.heap.get? b = some o → h'.get? b = some o) → Q (.ref s.heap.objs.size) { s with heap := h', toks := s.toks + 1 }) :
    wpAny (model prog w) A (Builtin.«enumerate.__next__» ⟨[.ref e], []⟩) (fun fin s' => ∃ v, fin = .done (.ret v) ∧ Q v s') E s := by
  obtain ⟨f0, f1, old, he, hf0⟩ := he
  obtain ⟨hp, g, d, tk, os⟩ := s
  show wpAny _ _ (field (.ref e) 2 >>= _) _ _ _
  refine wpAny_bind (wpAny_field he rfl (x := .ref it) rfl ?_)
  refine wpAny_bind (wpAny_nextOf_list_item hit hl hx fun h₁ hit₁ hs₁ => ?_)
  replace hs₁ : Heap.SameBut it hp h₁ := hs₁
  have he₁ : h₁.get? e = some (enObj f0 f1 it i old) := (hs₁.2 e hne).trans he
  show wpAny _ _ (field (.ref e) 3 >>= _) _ _ ⟨h₁, g, d, tk, os⟩
  refine wpAny_bind (wpAny_field he₁ rfl (x := rawInt i) rfl ?_)
  show wpAny _ _ (field (.ref e) 4 >>= _) _ _ ⟨h₁, g, d, tk, os⟩
  refine wpAny_bind (wpAny_field he₁ rfl (x := .none) rfl ?_)
  show wpAny _ _ (mkInt i >>= _) _ _ ⟨h₁, g, d, tk, os⟩
  refine wpAny_bind (wpAny_mkInt ?_)
  show wpAny _ _ (setField (.ref e) 3 (rawInt ((i : Int) + 1)) >>= _) _ _ ⟨h₁, g, d, tk + 1, os⟩
  refine wpAny_bind (wpAny_setField_rec he₁ (by simp) fun h₂ he₂ hs₂ => ?_)
  replace hs₂ : Heap.SameBut e h₁ h₂ := hs₂
  replace he₂ : h₂.get? e = some (enObj f0 f1 it ((i : Int) + 1) old) := he₂
  show wpAny _ _ (setField (.ref e) 4 .none >>= _) _ _ ⟨h₂, g, d, tk + 1, os⟩
  refine wpAny_bind (wpAny_setField_rec he₂ (by simp) fun h₃ he₃ hs₃ => ?_)
  replace hs₃ : Heap.SameBut e h₂ h₃ := hs₃
  replace he₃ : h₃.get? e = some (enObj f0 f1 it ((i : Int) + 1) old) := he₃
  show wpAny _ _ (newTuple [.int i tk, x] >>= _) _ _ ⟨h₃, g, d, tk + 1, os⟩
  refine wpAny_bind (wpAny_newTuple ?_)
  have he₄ : (h₃.push { cls := .type "tuple", data := .seq #[.int i tk, x] }).get? e = some (enObj f0 f1 it ((i : Int) + 1) old) := Heap.get?_push_of_some _ he₃
  generalize hh₄ : h₃.push { cls := .type "tuple", data := .seq #[.int i tk, x] } = h₄ at he₄
  have hsz : h₃.objs.size = hp.objs.size := by rw [hs₃.1, hs₂.1, hs₁.1]
  have hel : e < hp.objs.size := Heap.lt_size he
  have ht₄ : h₄.get? hp.objs.size = some { cls := .type "tuple", data := .seq #[.int i tk, x] } := by rw [← hh₄, ← hsz]; exact Heap.get?_push_size _ rfl
  have hk₄ : ∀ b o, b ≠ e → b ≠ it → hp.get? b = some o → h₄.get? b = some o := fun b o hbe hbi hb => by
    rw [← hh₄]; exact Heap.get?_push_of_some _ (hs₃.extBut b o hbe (hs₂.extBut b o hbe (hs₁.extBut b o hbi hb)))
  have hit₄ : h₄.IsListIter it l (i + 1) := by
    rw [← hh₄]; obtain ⟨o, ho, r⟩ := (hit₁.extBut hs₂.extBut (Ne.symm hne)).extBut hs₃.extBut (Ne.symm hne); exact ⟨o, Heap.get?_push_of_some _ ho, r⟩
  show wpAny _ _ (Builtin.SmallTypes.ownedTupleIsFree (.ref e) >>= _) _ _ ⟨h₄, g, d, tk + 1, os⟩
  rw [hsz]
  clear hh₄ he₃ hs₃ he₂ hs₂ he₁ hs₁ hit₁ hsz h₃ h₂ h₁
  -- the tuple that is free is handed out, and the object is as before otherwise
  have free : wpAny (model prog w) A (do
      rule "enumerate.__next__.owned-tuple-again"
      let old ← field (.ref e) 5
      setField (.ref e) 5 x
      Builtin.SmallTypes.ownedTupleHandOut (.ref e) (.ref hp.objs.size)
      letGo [old] [.ref hp.objs.size]
      ret (.ref hp.objs.size)) (fun fin s' => ∃ v, fin = .done (.ret v) ∧ Q v s') E ⟨h₄, g, d, tk + 1, os⟩ := by
    refine wpAny_bind (wpAny_rule ?_)
    refine wpAny_bind (wpAny_field he₄ rfl (x := old) rfl ?_)
    refine wpAny_bind (wpAny_setField_rec he₄ (by simp [enObj]) fun h₅ he₅ hs₅ => ?_)
    replace hs₅ : Heap.SameBut e h₄ h₅ := hs₅
    replace he₅ : h₅.get? e = some (enObj f0 f1 it ((i : Int) + 1) x) := he₅
    refine wpAny_bind (en_handOut (x := x) he₅ fun h₇ he₇ hs₇ => ?_)
    replace hs₇ : Heap.SameBut e h₅ h₇ := hs₇
    refine wpAny_bind (wpAny_letGo (wpAny_pure ⟨_, rfl, hQ h₇ ⟨_, _, _, he₇, .inr ⟨_, rfl⟩⟩ ?_ ?_ ?_⟩))
    · exact (hit₄.extBut hs₅.extBut (Ne.symm hne)).extBut hs₇.extBut (Ne.symm hne)
    · exact hs₇.extBut _ _ (Nat.ne_of_gt hel) (hs₅.extBut _ _ (Nat.ne_of_gt hel) ht₄)
    · exact fun b o hbe hbi hb => hs₇.extBut b o hbe (hs₅.extBut b o hbe (hk₄ b o hbe hbi hb))
  refine wpAny_bind ?_
  unfold Builtin.SmallTypes.ownedTupleIsFree
  rcases hf0 with rfl | ⟨a, rfl⟩
  · refine wpAny_bind (wpAny_field he₄ rfl (x := .none) rfl (wpAny_pure ?_))
    simp only [if_true]
    exact free
  · refine wpAny_bind (wpAny_field he₄ rfl (x := rawInt a) rfl ?_)
    show wpAny _ _ (loadIfAlive (Int.toNat (a : Int)) >>= _) _ _ _
    refine wpAny_bind (wpAny_loadIfAlive ?_)
    cases hal : h₄.get? (Int.toNat (a : Int)) with
    | none =>
      simp only [Option.isNone_none, if_true]
      refine wpAny_pure ?_
      simp only [if_true]
      exact free
    | some oa =>
      simp only [Option.isNone_some, Bool.false_eq_true, if_false]
      refine wpAny_bind (wpAny_field he₄ rfl (x := f1) rfl ?_)
      have fin : ∀ h₅ : Heap, IsEn h₅ e it ((i : Int) + 1) → Heap.SameBut e h₄ h₅ → ∃ v, Fin.done (Flow.ret (.ref hp.objs.size)) = .done (.ret v) ∧ Q v ⟨h₅, g, d, tk + 1, os⟩ := fun h₅ he₅ hs₅ => by
        refine ⟨_, rfl, hQ h₅ he₅ ?_ ?_ ?_⟩
        · exact hit₄.extBut hs₅.extBut (Ne.symm hne)
        · exact hs₅.extBut _ _ (Nat.ne_of_gt hel) ht₄
        · exact fun b o hbe hbi hb => hs₅.extBut b o hbe (hk₄ b o hbe hbi hb)
      by_cases hb : (f1 != .bool true) = true
      · rw [if_pos hb]
        refine wpAny_bind (wpAny_setField_rec he₄ (by simp [enObj]) fun h₅ he₅ hs₅ => ?_)
        refine wpAny_pure ?_
        simp only [Bool.false_eq_true, if_false]
        exact wpAny_pure (fin h₅ ⟨_, _, _, (by simpa [enObj] using he₅), .inr ⟨_, rfl⟩⟩ hs₅)
      · rw [if_neg hb]
        refine wpAny_bind (wpAny_pure (wpAny_pure ?_))
        simp only [Bool.false_eq_true, if_false]
        exact wpAny_pure (fin h₄ ⟨_, _, _, he₄, .inr ⟨_, rfl⟩⟩ ⟨rfl, fun _ _ => rfl⟩)
end
end G
end
section
set_option maxHeartbeats 2000000
namespace G
open PySem PySem.Spec PyProof.Rows L2
namespace F
theorem enum_no_len : typeLookup (.type "enumerate") "__len__" = pure none := by rw [typeLookup_type, builtinLookup_eq_fast]; kernel_rfl
theorem enum_no_hint : typeLookup (.type "enumerate") "__length_hint__" = pure none := by rw [typeLookup_type, builtinLookup_eq_fast]; kernel_rfl
end F
section
variable {prog : Program} {w : World} {A : Around} {E : Value → Shared → Prop} {s : Shared} {R : Result → Shared → Prop}
theorem IsEn.typeIs {e it : Addr} {i : Int} (he : IsEn s.heap e it i) : s.TypeIs (.ref e) "enumerate" := by
  obtain ⟨f0, f1, old, he, _⟩ := he
  exact ⟨_, he, rfl⟩
theorem en_pyNext {e it l : Addr} {i : Nat} {items : Array Value} {x : Value} {Q : Option Value → Shared → Prop}
    (he : IsEn s.heap e it i) (hit : s.heap.IsListIter it l i) (hl : s.heap.IsList l items) (hx : items[i]? = some x) (hne : e ≠ it)
    (hQ : ∀ h', IsEn h' e it ((i : Int) + 1) → h'.IsListIter it l (i + 1) →
      h'.get? s.heap.objs.size = some { cls := .type "tuple", data := .seq #[.int i s.toks, x] } → 
      (∀ b o, b ≠ e → b ≠ it → s.heap.get? b = some o → h'.get? b = some o) → Q (some (.ref s.heap.objs.size)) { s with heap := h', toks := s.toks + 1 }) :
    wpAny (model prog w) A (pyNext (.ref e)) Q E s := by
  have hT := he.typeIs
  unfold pyNext
  exact wpAny_bind (wpAny_attempt (wpAny_callSpecial?_slot (name := Str.ofString "__next__") hT PySem.F.slot_enumerate_next
    (wpAny_call_entry PySem.F.slot_enumerate_next hT PySem.F.entry_enumerate_next
      (en_next he hit hl hx hne fun h' a b c k => wpAny_pure (hQ h' a b c k)) (PySem.F.args_enumerate_next_1 _))))
theorem en_pyEnd {e it l : Addr} {i : Nat} {items : Array Value} {Q : Option Value → Shared → Prop} (hh : A.handled = none)
    (he : IsEn s.heap e it i) (hit : s.heap.IsListIter it l i) (hl : s.heap.IsList l items) (hx : items[i]? = none)
    (hQ : ∀ h', Heap.ExtBut it s.heap h' → Q none { s with heap := h' }) : wpAny (model prog w) A (pyNext (.ref e)) Q E s := by
  have hT := he.typeIs
  obtain ⟨f0, f1, old, he, _⟩ := he
  unfold pyNext
  refine wpAny_bind (wpAny_attempt (wpAny_callSpecial?_slot (name := Str.ofString "__next__") hT PySem.F.slot_enumerate_next
    (wpAny_call_entry PySem.F.slot_enumerate_next hT PySem.F.entry_enumerate_next ?_ (PySem.F.args_enumerate_next_1 _))))
  show wpAny _ _ (field (.ref e) 2 >>= _) _ _ _
  refine wpAny_bind (wpAny_field he rfl (x := .ref it) rfl ?_)
  refine wpAny_bind (wpAny_nextOf_list_end hh hit hl hx fun h' x he' hx' => ?_)
  obtain ⟨o, ho, hc⟩ := hx'
  refine wpAny_bind (wpAny_isInstance (T := "StopIteration") (b := true) ⟨o, ho, hc⟩ isSubtype_stop ?_)
  exact wpAny_pure (hQ _ he')

theorem en_pyIter {e it : Addr} {i : Int} {Q : Value → Shared → Prop} (he : IsEn s.heap e it i) (h : Q (.ref e) s) : wpAny (model prog w) A (pyIter (.ref e)) Q E s := by
  have hT := he.typeIs
  refine wpAny_pyIter_slot hT PySem.F.slot_enumerate_iter (wpAny_call_entry PySem.F.slot_enumerate_iter hT PySem.F.entry_enumerate_iter ?_ (PySem.F.args_enumerate_iter_1 _))
  show wpAny _ _ (ret (.ref e)) _ _ s
  exact wpAny_pure ⟨_, rfl, "enumerate", _, hT, PySem.F.slot_enumerate_next.lookup, h⟩
/-- the tuples made so far -/
def Tups (h : Heap) (acc items : Array Value) (n B : Nat) : Prop := acc.size = n ∧ ∀ j, j < n → ∃ (T : Addr) (tk : Tok) (x : Value), acc[j]? = some (.ref T) ∧ items[j]? = some x ∧ B ≤ T ∧ h.get? T = some { cls := .type "tuple", data := .seq #[.int j tk, x] }

theorem en_loop {e it l S : Addr} {items : Array Value} {res : Value} (hh : A.handled = none) (hei : e ≠ it) (hle : l ≠ e) (hli : l ≠ it) (hSe : S ≠ e) (hSi : S ≠ it) (hSl : S ≠ l) (hn : items.size ≤ sizeLine) {B : Nat} (hBe : e < B) (hBi : it < B) (hBS : S < B) :
    ∀ (k i : Nat) (s : Shared) (acc : Array Value) (c : Nat), items.size - i = k → i ≤ items.size → B ≤ s.heap.objs.size → IsEn s.heap e it i → s.heap.IsListIter it l i → s.heap.IsList l items →
    s.heap.get? S = some { cls := .type "list", dict := none, data := .seq acc c, slots := #[] } → Tups s.heap acc items i B →
    (∀ h' tk acc' c', (∀ b o, b ≠ S → b ≠ e → b ≠ it → s.heap.get? b = some o → h'.get? b = some o) → h'.get? S = some { cls := .type "list", dict := none, data := .seq acc' c', slots := #[] } → Tups h' acc' items items.size B → R (.ok (.ret res)) { s with heap := h', toks := tk }) →
    codeAny (model prog w) A (.builtin "list.extend.loop" ⟨[.ref S, .ref e, res], []⟩) R s := by
  intro k
  induction k with
  | zero =>
    intro i s acc c hk hi hB he hit hl hS hT hR
    have hin : i = items.size := by omega
    subst hin
    refine codeAny_builtin PySem.F.entry_extend_loop ?_
    rw [Around.under_plainId PySem.F.plain_extend_loop _]
    show wpAny _ A.in1 (pyNext (.ref e) >>= _) _ _ s
    refine wpAny_bind (en_pyEnd (A := A.in1) hh he hit hl (Array.getElem?_eq_none (Nat.le_refl _)) fun h' hx => ?_)
    refine wpAny_pure (hR h' s.toks acc c (fun b o _ _ hb q => hx b o hb q) (hx S _ hSi hS) ⟨hT.1, fun j hj => ?_⟩)
    obtain ⟨T, tk, x, a1, a2, a3, a4⟩ := hT.2 j hj
    exact ⟨T, tk, x, a1, a2, a3, hx T _ (Nat.ne_of_gt (Nat.lt_of_lt_of_le hBi a3)) a4⟩
  | succ k ih =>
    intro i s acc c hk hi hB he hit hl hS hT hR
    have hlt : i < items.size := by omega
    refine codeAny_builtin PySem.F.entry_extend_loop ?_
    rw [Around.under_plainId PySem.F.plain_extend_loop _]
    show wpAny _ A.in1 (pyNext (.ref e) >>= _) _ _ s
    have hx : items[i]? = some items[i] := Array.getElem?_eq_getElem hlt
    refine wpAny_bind (en_pyNext (A := A.in1) he hit hl hx hei fun h' he' hit' hT' hk' => ?_)
    have hS' := hk' S _ hSe hSi hS
    show wpAny _ A.in1 (updateSeq S (·.push (.ref s.heap.objs.size)) >>= _) _ _ _
    refine wpAny_bind ?_
    have hSz : S ≠ s.heap.objs.size := Nat.ne_of_lt (Heap.lt_size hS)
    have oth : ∀ b o, b ≠ S → h'.get? b = some o → (h'.update S (Obj.mapSeq (·.push (Value.ref s.heap.objs.size)))).get? b = some o := fun b o hb q => (Heap.get?_update_other _ _ (Ne.symm hb)).trans q
    refine wpAny_updateSeq hS' rfl (wpAny_pure ⟨plainId_quiet PySem.F.plain_extend_loop _, ih (i + 1) _ (acc.push (.ref s.heap.objs.size)) _ (by omega) hlt ?hB ?he ?hit ?hl (Heap.get?_update_self _ hS' rfl) ?hT ?hR⟩) (by rw [hT.1]; exact Nat.le_trans hi hn) (by show (acc.push _).size ≤ sizeLine + 1; rw [Array.size_push, hT.1]; exact Nat.succ_le_succ (Nat.le_trans hi hn))
    case hB =>
      have q := Heap.lt_size (oth _ _ hSz.symm hT')
      exact Nat.le_trans hB (Nat.le_of_lt q)
    case he =>
      obtain ⟨f0, f1, old, q, r⟩ := he'
      exact ⟨f0, f1, old, by
        show (h'.update S _).get? e = _
        have e1 : (((i + 1 : Nat)) : Int) = (i : Int) + 1 := by omega
        rw [e1]
        exact oth e _ hSe.symm q, r⟩
    case hit => exact hit'.at fun o q => oth it o hSi.symm q
    case hl => exact hl.at fun o q => oth l o hSl.symm (hk' l o hle hli q)
    case hT =>
      refine ⟨by rw [Array.size_push, hT.1], fun j hj => ?_⟩
      by_cases hji : j < i
      · obtain ⟨T, tk, x, a1, a2, a3, a4⟩ := hT.2 j hji
        refine ⟨T, tk, x, ?_, a2, a3, oth T _ (Nat.ne_of_gt (Nat.lt_of_lt_of_le hBS a3)) (hk' T _ (Nat.ne_of_gt (Nat.lt_of_lt_of_le hBe a3)) (Nat.ne_of_gt (Nat.lt_of_lt_of_le hBi a3)) a4)⟩
        rw [Array.getElem?_push, if_neg (by rw [hT.1]; omega)]
        exact a1
      · have hje : j = i := by omega
        subst hje
        refine ⟨s.heap.objs.size, s.toks, _, ?_, hx, hB, oth _ _ hSz.symm hT'⟩
        rw [Array.getElem?_push, if_pos hT.1.symm]
    case hR =>
      intro h2 tk2 acc2 c2 hk2 hS2 hT2
      exact hR h2 tk2 acc2 c2 (fun b o b1 b2 b3 q => hk2 b o b1 b2 b3 (oth b o b1 (hk' b o b2 b3 q))) hS2 hT2

theorem en_init {e it l S : Addr} {items : Array Value} (hh : A.handled = none) (hei : e ≠ it) (hle : l ≠ e) (hli : l ≠ it) (hSe : S ≠ e) (hSi : S ≠ it) (hSl : S ≠ l) (hn : items.size ≤ sizeLine)
    (he : IsEn s.heap e it 0) (hit : s.heap.IsListIter it l 0) (hl : s.heap.IsList l items) (hS : s.heap.get? S = some { cls := .type "list", data := .seq #[] })
    (hR : ∀ h' tk acc' c', (∀ b o, b ≠ S → b ≠ e → b ≠ it → s.heap.get? b = some o → h'.get? b = some o) → h'.get? S = some { cls := .type "list", dict := none, data := .seq acc' c', slots := #[] } → Tups h' acc' items items.size s.heap.objs.size → R (.ok (.ret .none)) { s with heap := h', toks := tk }) :
    wpAny (model prog w) A.in1 (Builtin.«list.__init__» ⟨[.ref S, .ref e], []⟩)
      (fun fin s' => match fin with | .done f => R (.ok f) s' | .again c' => c'.quiet = true ∧ codeAny (model prog w) A c' R s') (fun e s' => R (.error e) s') s := by
  show wpAny _ A.in1 (do let old ← Builtin.List.listItems (.ref S); Builtin.List.listUpdate (.ref S) (fun _ => #[]); letGo old.toList.reverse; Builtin.List.listExtendWith (.ref S) (.ref e) .none) _ _ s
  refine wpAny_bind ?_
  unfold Builtin.List.listItems
  refine wpAny_bind (wpAny_seqItems hS rfl (wpAny_pure ?_))
  show wpAny _ A.in1 (updateSeq S (fun _ => #[]) >>= fun _ => letGo (#[] : Array Value).toList.reverse >>= fun _ => Builtin.List.listExtendWith (.ref S) (.ref e) .none) _ _ s
  refine wpAny_bind (wpAny_updateSeq hS rfl ?_)
  have hS₂ := Heap.get?_update_self (Obj.mapSeq (fun _ => (#[] : Array Value))) hS rfl
  have oth : ∀ b o, b ≠ S → s.heap.get? b = some o → (s.heap.update S (Obj.mapSeq (fun _ => (#[] : Array Value)))).get? b = some o :=
    fun b o hb e => (Heap.get?_update_other _ _ (Ne.symm hb)).trans e
  have en2 : ∀ {h h' : Heap}, (∀ o, h.get? e = some o → h'.get? e = some o) → IsEn h e it 0 → IsEn h' e it 0 := fun k ⟨f0, f1, old, q, r⟩ => ⟨f0, f1, old, k _ q, r⟩
  refine wpAny_bind (wpAny_letGo ?_)
  have he₂ := en2 (fun o q => oth e o hSe.symm q) he
  unfold Builtin.List.listExtendWith
  refine wpAny_bind (wpAny_typeOf (IsEn.typeIs (s := { s with heap := s.heap.update S (Obj.mapSeq (fun _ => (#[] : Array Value))) }) he₂) ?_)
  have h1 : Builtin.List.listSameRef (.ref S) (.ref e) = false := by simp [Builtin.List.listSameRef, hSe]
  have h2 : (Value.type "enumerate" == Value.type "list") = false := by decide
  have h3 : (Value.type "enumerate" == Value.type "tuple") = false := by decide
  simp only [h1, h2, h3, Bool.or_false, Bool.false_eq_true, if_false]
  have he3 := he₂
  obtain ⟨f0, f1, old, q0, r0⟩ := he3
  refine wpAny_bind (en_pyIter (s := { s with heap := s.heap.update S (Obj.mapSeq (fun _ => (#[] : Array Value))) }) he₂ ?_)
  refine wpAny_bind (wpAny_holding ?_)
  unfold Builtin.List.listLengthHint
  refine wpAny_bind (wpAny_specialOf (IsEn.typeIs (s := { s with heap := s.heap.update S (Obj.mapSeq (fun _ => (#[] : Array Value))) }) he₂) F.enum_no_len ?_)
  show wpAny _ A.in1 (specialOf (Value.ref e) (Str.ofString "__length_hint__") >>= _) _ _ _
  refine wpAny_bind (wpAny_specialOf (IsEn.typeIs (s := { s with heap := s.heap.update S (Obj.mapSeq (fun _ => (#[] : Array Value))) }) he₂) F.enum_no_hint ?_)
  refine wpAny_pure ?_
  show wpAny _ A.in1 (rule "list.extend.makes-room" >>= fun _ => Builtin.List.listTouch (.ref S) >>= fun _ =>
    again (.builtin "list.extend.loop" ⟨[.ref S, .ref e, .none], []⟩)) _ _ _
  refine wpAny_bind (wpAny_rule ?_)
  refine wpAny_bind ?_
  show wpAny _ A.in1 (updateSeq S (·.push .none) >>= fun _ => updateSeq S (·.pop)) _ _ _
  refine wpAny_bind (wpAny_updateSeq hS₂ rfl ?_)
  have hS₃ := Heap.get?_update_self (Obj.mapSeq (·.push Value.none)) hS₂ rfl
  refine wpAny_updateSeq (hz := by seq_fits) hS₃ rfl ?_
  have hS₄ := Heap.get?_update_self (Obj.mapSeq (·.pop)) hS₃ rfl
  have oth2 : ∀ b o, b ≠ S → s.heap.get? b = some o → (((s.heap.update S (Obj.mapSeq (fun _ => (#[] : Array Value)))).update S (Obj.mapSeq (·.push Value.none))).update S (Obj.mapSeq (·.pop))).get? b = some o :=
    fun b o hb q => (Heap.get?_update_other _ _ (Ne.symm hb)).trans ((Heap.get?_update_other _ _ (Ne.symm hb)).trans (oth b o hb q))
  have hlt : ∀ b o, s.heap.get? b = some o → b < s.heap.objs.size := fun b o q => Heap.lt_size q
  obtain ⟨_, _, _, qe, _⟩ := id he
  obtain ⟨oi, qi, _⟩ := id hit
  refine wpAny_pure ⟨plainId_quiet PySem.F.plain_extend_loop _, en_loop hh hei hle hli hSe hSi hSl hn (hlt _ _ qe) (hlt _ _ qi) (hlt _ _ hS) items.size 0 _ _ _ rfl (Nat.zero_le _) ?_
    (en2 (fun o q => oth2 e o hSe.symm q) he) (hit.at fun o q => oth2 it o hSi.symm q) (hl.at fun o q => oth2 l o hSl.symm q) hS₄ ⟨rfl, fun j hj => absurd hj (Nat.not_lt_zero _)⟩ fun h' tk acc' c' hk hS' hT => ?_⟩
  · show _ ≤ (((s.heap.update S _).update S _).update S _).objs.size
    simp
  · exact hR h' tk acc' c' (fun b o b1 b2 b3 q => hk b o b1 b2 b3 (oth2 b o b1 q)) hS' hT
end
end G
end
section
set_option maxHeartbeats 2000000
namespace G
open PySem PySem.Spec PyProof.Rows L2
section
variable {prog : Program} {w : World} {A : Around} {E : Value → Shared → Prop} {s : Shared}
theorem call_list_enum {e it l : Addr} {items : Array Value} {Q : Value → Shared → Prop} (hh : A.handled = none) (hei : e ≠ it) (hle : l ≠ e) (hli : l ≠ it) (hn : items.size ≤ sizeLine)
    (he : IsEn s.heap e it 0) (hit : s.heap.IsListIter it l 0) (hl : s.heap.IsList l items)
    (hQ : ∀ h' tk acc' c', (∀ b o, b ≠ e → b ≠ it → s.heap.get? b = some o → h'.get? b = some o) → h'.get? s.heap.objs.size = some { cls := .type "list", dict := none, data := .seq acc' c', slots := #[] } →
      Tups h' acc' items items.size (s.heap.objs.size + 1) → Q (.ref s.heap.objs.size) { s with heap := h', toks := tk }) :
    wpAny (model prog w) A (call (.type "list") [.ref e]) Q E s := by
  obtain ⟨_, _, _, qe, _⟩ := id he
  obtain ⟨oi, qi, _⟩ := id hit
  obtain ⟨ol, ql, _⟩ := id hl
  have lt : ∀ {b : Addr} {o : Obj}, s.heap.get? b = some o → s.heap.objs.size ≠ b := fun q => Nat.ne_of_gt (Heap.lt_size q)
  refine callType_codes (Q₁ := fun obj s₁ => obj = .ref s.heap.objs.size ∧ s₁ = { s with heap := s.heap.push { cls := .type "list", data := .seq #[] } }) PySem.F.called_list (PySem.F.typeCall_list_1 _) PySem.F.entry_list_init
    (code_list_new _ ⟨rfl, rfl⟩) fun obj s₁ h₁ => ?_
  obtain ⟨rfl, rfl⟩ := h₁
  have hS : (s.heap.push { cls := .type "list", data := .seq #[] }).get? s.heap.objs.size = some { cls := .type "list", data := .seq #[] } := Heap.get?_push_size _ rfl
  refine ⟨⟨_, hS, rfl⟩, PySem.F.args_list_init_2 _ _, en_init (s := { s with heap := s.heap.push { cls := .type "list", data := .seq #[] } }) (A := A.in1) hh hei hle hli (lt qe) (lt qi) (lt ql) hn ?_
    (hit.at fun o q => Heap.get?_push_of_some _ q) (hl.at fun o q => Heap.get?_push_of_some _ q) hS fun h' tk acc' c' hk hS' hT => ?_⟩
  · obtain ⟨f0, f1, old, q, r⟩ := he
    exact ⟨f0, f1, old, Heap.get?_push_of_some _ q, r⟩
  · refine ⟨rfl, hQ h' tk acc' c' (fun b o b1 b2 q => hk b o (lt q).symm b1 b2 (Heap.get?_push_of_some _ q)) hS' ?_⟩
    have e1 : (s.heap.push { cls := .type "list", data := .seq #[] }).objs.size = s.heap.objs.size + 1 := Heap.size_push ..
    rw [← e1]
    exact hT
end

open Classical in
/-- what is new: the list at S, a pair for each item -/
noncomputable def enH (H : Hp) (S : Addr) (acc : List Addr) (xs : List V) : Hp := fun b =>
  if b = S then some (.lst (acc.map V.ref)) else if h : ∃ (j : Nat) (x : V), acc[j]? = some b ∧ xs[j]? = some x then some (.tup [.int ((Classical.choose h : Nat) : Int), Classical.choose (Classical.choose_spec h)]) else H b

section
variable {X : Cx}
def tListEn (K : PySem.W.Frag) (te : TE) : TE := fun σ H Q => te σ H fun x H1 => ∃ (a : Addr) (xs : List V), x = .ref a ∧ SqL K H1 a xs ∧
  ∀ (l : Addr) (ts : List Addr) (H2 : Hp), H1 l = none → Evl.Ex H1 H2 → H2 l = some (.lst (ts.map V.ref)) → ts.length = xs.length → (∀ (j : Nat) (T : Addr) (x : V), ts[j]? = some T → xs[j]? = some x → H2 T = some (.tup [.int (j : Int), x])) → Q (.ref l) H2
theorem pe_listEn {e : Expr} {te : TE} {p pos p2 pos2 : Pos} (hc : X.calm = true) (hg : Gl X "list") (hm : X.mg "list" = none) (hg2 : Gl X "enumerate") (hm2 : X.mg "enumerate" = none) (ha : PE X e te)
    (na2 : starEach [e] X.env = (false, eval e X.env) :: starEach [] X.env := by rfl)
    (na : starEach [.Call (.Name "enumerate" p2) [e] [] pos2] X.env = (false, eval (.Call (.Name "enumerate" p2) [e] [] pos2) X.env) :: starEach [] X.env := by rfl) :
    PE X (.Call (.Name "list" p) [.Call (.Name "enumerate" p2) [e] [] pos2] [] pos) (tListEn X.K te) := by
  refine ⟨fun pins s σ H Q I h => ?_⟩
  refine Call_ (ld_blt I hg hm boot_list (PyProof.Rows.callWith_type1 (args_cons ?_ na) na))
  refine Call_ (ld_blt I hg2 hm2 boot_enumerate (PyProof.Rows.callWith_type1 (one_arg ha I h (fun v s1 x H1 I1 r q => ?_) na2) na2))
  obtain ⟨a, xs, rfl, hs, q⟩ := q
  obtain rfl : v = Value.ref a := r
  obtain ⟨its, rv, pl, hz⟩ := I1.list hs
  have lits : its.length = xs.length := rv.length.symm
  refine call_enumerate_list pl.isList fun h1 he hit hsz hk => args_nil ?_
  have hal : a < s1.heap.objs.size := by obtain ⟨o, q, _⟩ := pl.isList; exact Heap.lt_size q
  refine call_list_enum (s := { s1 with heap := h1 }) (A := X.A) (I1.ok.hd hc) (Nat.succ_ne_self _) (Nat.ne_of_lt (Nat.lt_succ_of_lt hal)) (Nat.ne_of_lt hal) (by rw [List.size_toArray, lits]; exact hz)
    ⟨_, _, _, he, .inl rfl⟩ hit (pl.isList.at fun o q => hk a o q) fun h' tk acc c' hk' hS' hT => ?_
  -- the addresses
  have hacc : ∀ j, j < acc.size → ∃ T : Addr, acc[j]? = some (.ref T) := fun j hj => by
    obtain ⟨T, _, _, e1, _⟩ := hT.2 j (by rw [← hT.1]; exact hj)
    exact ⟨T, e1⟩
  let adr : Value → Addr := fun v => match v with | .ref T => T | _ => 0
  let ts : List Addr := acc.toList.map adr
  have tsl : ts.length = xs.length := by
    show (acc.toList.map adr).length = _
    rw [List.length_map, Array.length_toList, hT.1, List.size_toArray, lits]
  have tsj : ∀ j (T : Addr), ts[j]? = some T → acc[j]? = some (.ref T) ∧ j < its.length := fun j T hj => by
    have hlt : j < ts.length := (List.getElem?_eq_some_iff.mp hj).1
    have hlt2 : j < acc.size := by rw [hT.1, List.size_toArray, lits, ← tsl]; exact hlt
    obtain ⟨T', e1⟩ := hacc j hlt2
    have e2 : ts[j]? = some T' := by
      show (acc.toList.map adr)[j]? = some T'
      rw [List.getElem?_map, Array.getElem?_toList, e1] <;> rfl
    rw [hj] at e2
    cases e2
    exact ⟨e1, by rw [lits, ← tsl]; exact hlt⟩
  -- what stands at each
  have tup : ∀ (j : Nat) (T : Addr) (x : V), ts[j]? = some T → xs[j]? = some x → ∃ (tk : Tok) (u : Value), RelV x u ∧ s1.heap.objs.size ≤ T ∧ T ≠ h1.objs.size ∧ h'.get? T = some { cls := .type "tuple", data := .seq #[.int (j : Int) tk, u] } := fun j T x hj hx => by
    obtain ⟨e1, hj2⟩ := tsj j T hj
    obtain ⟨T', tk, u, a1, a2, a3, a4⟩ := hT.2 j (by rw [List.size_toArray]; exact hj2)
    rw [e1] at a1
    cases a1
    obtain ⟨u', hu', ru⟩ := rv.get hx
    have e3 : its[j]? = some u := by simpa using a2
    rw [hu'] at e3
    have e4 := Option.some.inj e3
    subst e4
    have a3' : h1.objs.size + 1 ≤ T := a3
    refine ⟨tk, _, ru, Nat.le_trans (by rw [hsz]; exact Nat.le_add_right _ _) (Nat.le_of_succ_le a3'), Nat.ne_of_gt a3', a4⟩
  have ltS : s1.heap.objs.size ≤ h1.objs.size := by rw [hsz]; exact Nat.le_add_right _ _
  have kept : ∀ b o, s1.heap.get? b = some o → h'.get? b = some o := fun b o q => by
    have hb := Heap.lt_size q
    exact hk' b o (Nat.ne_of_lt (Nat.lt_succ_of_lt hb)) (Nat.ne_of_lt hb) (hk b o q)
  have low : ∀ b, b < s1.heap.objs.size → enH H1 h1.objs.size ts xs b = H1 b := fun b hb => by
    unfold enH
    rw [if_neg (Nat.ne_of_lt (Nat.lt_of_lt_of_le hb ltS)), dif_neg]
    rintro ⟨j, x, e1, e2⟩
    obtain ⟨_, _, _, e3, _⟩ := tup j b x e1 e2
    exact absurd hb (Nat.not_lt_of_le e3)
  have old : ∀ b o, H1 b = some o → enH H1 h1.objs.size ts xs b = some o := fun b o q => by rw [low b (I1.hok.lt q)]; exact q
  have atS : enH H1 h1.objs.size ts xs h1.objs.size = some (.lst (ts.map V.ref)) := by unfold enH; rw [if_pos rfl]
  have atT : ∀ (j : Nat) (T : Addr) (x : V), ts[j]? = some T → xs[j]? = some x → enH H1 h1.objs.size ts xs T = some (.tup [.int (j : Int), x]) := fun j T x hj hx => by
    obtain ⟨tk, u, ru, _, hne, e1⟩ := tup j T x hj hx
    have hex : ∃ (j : Nat) (x : V), ts[j]? = some T ∧ xs[j]? = some x := ⟨j, x, hj, hx⟩
    unfold enH
    rw [if_neg hne, dif_pos hex]
    have key : ∀ (j0 : Nat) (x0 : V), ts[j0]? = some T → xs[j0]? = some x0 → j0 = j ∧ x0 = x := fun j0 x0 q1 q2 => by
      obtain ⟨tk2, u2, ru2, _, _, e2⟩ := tup j0 T x0 q1 q2
      rw [e1] at e2
      have e3 : (Value.int (j : Int) tk) = Value.int (j0 : Int) tk2 := by
        have := Option.some.inj e2
        injection this with _ _ d _
        injection d with d1 _
        have := congrArg (fun a : Array Value => a[0]?) d1
        simpa using this
      injection e3 with e4 _
      have e5 : j0 = j := by omega
      subst e5
      rw [hx] at q2
      exact ⟨rfl, (Option.some.inj q2).symm⟩
    obtain ⟨k1, k2⟩ := key _ _ (Classical.choose_spec (Classical.choose_spec hex)).1 (Classical.choose_spec (Classical.choose_spec hex)).2
    have e7 : V.int ((Classical.choose hex : Nat) : Int) = V.int (j : Int) := by rw [k1]
    rw [e7, k2]
  have un : Un X.fs [] H1 (enH H1 h1.objs.size ts xs) s1.heap h' := by
    refine ⟨fun b o q _ _ _ => kept b o q, fun b o q _ _ _ => ⟨o.slots, kept b o q⟩, fun b o q n _ => by rw [low b (Heap.lt_size q)]; exact n, fun b o q _ => ⟨o, kept b o q⟩, fun b xs q => old b _ q, fun b o u q => old b _ q, fun b ps q => ⟨#[], by rw [old b _ q]; simp⟩⟩
  have hok : HOk X.prog X.w (enH H1 h1.objs.size ts xs) h' := fun b o q => by
    by_cases hb : b = h1.objs.size
    · subst hb
      rw [atS] at q
      cases q
      refine ⟨?_, acc.toList, c', ?_, ?_⟩
      · rw [List.length_map, tsl]; exact hz
      · have : ∀ (l : List Value), (∀ v ∈ l, ∃ T : Addr, v = .ref T) → Vals ((l.map adr).map V.ref) l := fun l => by
          induction l with
          | nil => exact fun _ => .nil
          | cons v l ih =>
            intro hv
            obtain ⟨T, rfl⟩ := hv v (List.mem_cons_self ..)
            exact .cons rfl (ih fun u hu => hv u (List.mem_cons_of_mem _ hu))
        refine this acc.toList fun v hv => ?_
        obtain ⟨j, hj⟩ := List.getElem?_of_mem hv
        have hj' : acc[j]? = some v := by rw [← hj, Array.getElem?_toList]
        have hlt : j < acc.size := by
          have := (List.getElem?_eq_some_iff.mp hj).1
          rwa [Array.length_toList] at this
        obtain ⟨T, e1⟩ := hacc j hlt
        rw [hj'] at e1
        exact ⟨T, Option.some.inj e1⟩
      · rw [Array.toArray_toList]; exact hS'
    · by_cases hex : ∃ (j : Nat) (x : V), ts[j]? = some b ∧ xs[j]? = some x
      · obtain ⟨j, x, e1, e2⟩ := hex
        rw [atT j b x e1 e2] at q
        cases q
        obtain ⟨tk, u, ru, _, _, e3⟩ := tup j b x e1 e2
        exact ⟨by show 2 ≤ sizeLine; decide, [.int j tk, u], .cons ⟨_, rfl⟩ (.cons ru .nil), ⟨_, e3, rfl, _, rfl⟩⟩
      · have e0 : enH H1 h1.objs.size ts xs b = H1 b := by unfold enH; rw [if_neg hb, dif_neg hex]
        rw [e0] at q
        exact (I1.hok b o q).stay (fun c v _ r => kept c v r) (fun c r => old c _ r) fun c ys r => old c _ r
  exact ⟨.ref h1.objs.size, _, I1.un (t' := tk) un hok, rfl, q h1.objs.size ts _ (I1.hok.fresh ltS) (fun b o q => old b o q) atS tsl atT⟩
end
end G
end
section
set_option maxHeartbeats 2000000
namespace G
open PySem L2 Evl

/-! ### data at any depth -/
mutual
theorem dp_mono {K : PySem.W.Frag} {H H' : Hp} (e : Ex H H') : ∀ {d : PyData} {v : V}, Dp K H v d → Dp K H' v d
  | .none, _, h => by cases h; exact .non
  | .bool _, _, h => by cases h; exact .bl _
  | .int _, _, h => by cases h; exact .int _
  | .str _, _, h => by cases h; exact .str _
  | .list ds, _, h => by
    cases h with
    | lst hs ha => exact .lst (ex_l e hs) (dp_monoAll e ha)
  | .tuple ds, _, h => by
    cases h with
    | tup hs ha => exact .tup (ex_t e hs) (dp_monoAll e ha)
  | .dict _, _, h => by cases h
theorem dp_monoAll {K : PySem.W.Frag} {H H' : Hp} (e : Ex H H') : ∀ {ds : List PyData} {vs : List V}, DpAll K H vs ds → DpAll K H' vs ds
  | [], _, h => by cases h; exact .nil
  | d :: ds, _, h => by
    cases h with
    | cons h1 h2 => exact .cons (dp_mono e h1) (dp_monoAll e h2)
end
def dInts (ns : List Int) : PyData := .list (ns.map PyData.int)
theorem dpAll_ints {K : PySem.W.Frag} {H : Hp} : ∀ (ns : List Int), DpAll K H (ns.map V.int) (ns.map PyData.int)
  | [] => .nil
  | n :: ns => .cons (.int n) (dpAll_ints ns)
theorem dp_ints {K : PySem.W.Frag} {H : Hp} {a : Addr} {ns : List Int} (h : SqL K H a (ns.map V.int)) : Dp K H (.ref a) (dInts ns) := .lst h (dpAll_ints ns)
theorem dp_get {K : PySem.W.Frag} {H : Hp} : ∀ {ds : List PyData} {vs : List V} {j : Nat} {d : PyData}, DpAll K H vs ds → ds[j]? = some d → ∃ v, vs[j]? = some v ∧ Dp K H v d
  | _, _, _, _, .nil, e => by simp at e
  | _, _, 0, _, .cons h _, e => by simp at e; subst e; exact ⟨_, rfl, h⟩
  | _, _, j + 1, _, .cons _ h, e => by
    obtain ⟨v, h1, h2⟩ := dp_get (j := j) h (by simpa using e)
    exact ⟨v, by simpa using h1, h2⟩
theorem dp_len {K : PySem.W.Frag} {H : Hp} : ∀ {ds : List PyData} {vs : List V}, DpAll K H vs ds → vs.length = ds.length
  | _, _, .nil => rfl
  | _, _, .cons _ h => by simp [dp_len h]

/-! ### what evaluates to data -/
variable {K : PySem.W.Frag} {σ : L2.St} {H H' : Hp} {ta tb te tx : TE} {tt : TT} {x y z v : V} {d : PyData} {ds : List PyData} {p C dx : Addr} {fs : List (Str × V)} {f m : Str} {sp : Sp} {dvs vs : List V} {E : XK} {tA tr tk : TA}
def EvD (K : PySem.W.Frag) (te : TE) (σ : L2.St) (H : Hp) (d : PyData) : Prop := ∀ H1, Ex H H1 → ∀ Q : VK, (∀ v H2, Ex H1 H2 → Dp K H2 v d → Q v H2) → te σ H1 Q
def EvAD (K : PySem.W.Frag) (ta : TA) (σ : L2.St) (H : Hp) (ds : List PyData) : Prop := ∀ H1, Ex H H1 → ∀ Q : List V → Hp → Prop, (∀ vs H2, Ex H1 H2 → DpAll K H2 vs ds → Q vs H2) → ta σ H1 Q
theorem EvD.mono (e : Ex H H') (h : EvD K te σ H d) : EvD K te σ H' d := fun H1 a Q q => h H1 (e.trans a) Q q
theorem EvL.mono (e : Ex H H') {xs : List V} (h : EvL te σ H xs) : EvL te σ H' xs := fun H1 a Q q => h H1 (e.trans a) Q q
theorem evd_v (h : Ev te σ H v) (hd : ∀ H1, Ex H H1 → Dp K H1 v d) : EvD K te σ H d := fun H1 e Q q => h H1 e Q fun H2 e2 => q v H2 e2 (hd H2 (e.trans e2))
theorem evd_int {i : Int} (h : Ev te σ H (.int i)) : EvD K te σ H (.int i) := evd_v h fun _ _ => .int i
theorem evd_bl {b : Bool} (h : Ev te σ H (.bl b)) : EvD K te σ H (.bool b) := evd_v h fun _ _ => .bl b
theorem evd_ref (h : Ev te σ H v) (hd : Dp K H v d) : EvD K te σ H d := evd_v h fun _ e => dp_mono e hd
theorem evd_l {xs : List V} (h : EvL te σ H xs) (hd : ∀ H1, Ex H H1 → DpAll K H1 xs ds) : EvD K te σ H (.list ds) := fun H1 e Q q => h H1 e Q fun p H2 _ e2 h2 => q _ H2 e2 (.lst (sq_of h2) (hd H2 (e.trans e2)))
theorem evd_ints {ns : List Int} (h : EvL te σ H (ns.map V.int)) : EvD K te σ H (dInts ns) := evd_l h fun _ _ => dpAll_ints ns
theorem evd_u {xs : List V} (h : EvU te σ H xs) (hd : ∀ H1, Ex H H1 → DpAll K H1 xs ds) : EvD K te σ H (.tuple ds) := fun H1 e Q q => h H1 e Q fun p H2 _ e2 h2 => q _ H2 e2 (.tup (st_of h2) (hd H2 (e.trans e2)))
theorem evad_nil : EvAD K tNil σ H [] := fun H1 _ _ q => q [] H1 (Ex.refl H1) .nil
theorem evad_cons (h : EvD K ta σ H d) (hr : EvAD K tr σ H ds) : EvAD K (tCons ta tr) σ H (d :: ds) := fun H1 e Q q =>
  h H1 e _ fun v H2 e2 hv => hr H2 (e.trans e2) _ fun vs H3 e3 hvs => q _ H3 (e2.trans e3) (.cons (dp_mono e3 hv) hvs)
theorem evd_lst (h : EvAD K tA σ H ds) (hl : ds.length ≤ 100000) : EvD K (tLst tA) σ H (.list ds) := fun H1 e Q q =>
  h H1 e _ fun vs H2 e2 hv => ⟨sz_of (by rw [dp_len hv]; exact hl), fun p hp => q _ _ (e2.trans (Ex.new hp)) (.lst (sq_of upd_same) (dp_monoAll (Ex.new hp) hv))⟩
theorem evd_tup (h : EvAD K tA σ H ds) (hl : ds.length ≤ 100000) : EvD K (tTup tA) σ H (.tuple ds) := fun H1 e Q q =>
  h H1 e _ fun vs H2 e2 hv => ⟨sz_of (by rw [dp_len hv]; exact hl), fun p hp => q _ _ (e2.trans (Ex.new hp)) (.tup (st_of upd_same) (dp_monoAll (Ex.new hp) hv))⟩
theorem evd_is {d' : PyData} (h : EvD K te σ H d) (e : d = d') : EvD K te σ H d' := e ▸ h
theorem dp_app {Hx : Hp} : ∀ {as bs : List V} {cs es : List PyData}, DpAll K Hx as cs → DpAll K Hx bs es → DpAll K Hx (as ++ bs) (cs ++ es)
  | _, _, _, _, .nil, h2 => h2
  | _, _, _, _, .cons q1 q2, h2 => .cons q1 (dp_app q2 h2)
theorem dp_repl {Hx : Hp} {as : List V} {cs : List PyData} (h : DpAll K Hx as cs) : ∀ k : Nat, DpAll K Hx (List.replicate k as).flatten (List.replicate k cs).flatten
  | 0 => .nil
  | k + 1 => by
    rw [List.replicate_succ, List.replicate_succ, List.flatten_cons, List.flatten_cons]
    exact dp_app h (dp_repl h k)
/-- xs * k of a new list of data -/
theorem evd_rep {k : Nat} (h : EvAD K tA σ H ds) (hl : ds.length ≤ 1000) (hk : k ≤ 10) (hb : Ev tb σ H (.int (k : Int))) : EvD K (tOp rRep (tLst tA) tb) σ H (.list ((List.replicate k ds).flatten)) := fun H1 e Q q => by
  refine h H1 e _ fun vs H2 e2 hv => ⟨sz_of (by rw [dp_len hv]; omega), fun p hp => ?_⟩
  refine hb _ (e.trans (e2.trans (Ex.new hp))) _ fun H3 e3 => ?_
  have hvl := dp_len hv
  have hm : vs.length * k ≤ 10000 := Nat.le_trans (Nat.mul_le_mul (by rw [hvl]; exact hl) hk) (by decide)
  refine ⟨p, (k : Int), vs, rfl, rfl, e3 p _ upd_same, by omega, by omega, by rw [Int.toNat_natCast]; exact sz_of (by omega), fun q' hq' => ?_⟩
  refine q _ _ (((e2.trans (Ex.new hp)).trans e3).trans (Ex.new hq')) (.lst (sq_of upd_same) ?_)
  rw [Int.toNat_natCast]
  exact dp_repl (dp_monoAll (((Ex.new hp).trans e3).trans (Ex.new hq')) hv) k

/-! ### fields, methods, properties -/
theorem ev_fld {tv : V} (h : Ev ta σ H (.ref p)) (ho : H p = some (.ins C dx fs)) (hc : Cls K C) (hn : NoAttr K C f) (hl : fs.lookup f = some tv) : Ev (tFld K ta f) σ H tv := fun H1 e Q q =>
  h H1 e _ fun H2 e2 => ⟨p, C, dx, fs, tv, rfl, (e.trans e2) p _ ho, hc, hn, hl, q H2 e2⟩
theorem ev_con {u : Value} (h : Ev ta σ H (.ref p)) (ho : H p = some (.ins C dx fs)) (hc : Cls K C) (hk : Con K C f v u) (hl : fs.lookup f = none) : Ev (tCon K ta f) σ H v := fun H1 e Q q =>
  h H1 e _ fun H2 e2 => ⟨p, C, dx, fs, v, u, rfl, (e.trans e2) p _ ho, hc, hk, hl, q H2 e2⟩
theorem ev_prop (h : Ev ta σ H (.ref p)) (ho : H p = some (.ins C dx fs)) (hs : SpV sp (.ref p :: dvs) H z) : Ev (tProp C sp dvs E ta) σ H z := fun H1 e Q q =>
  h H1 e _ fun H2 e2 => ⟨p, dx, fs, rfl, (e.trans e2) p _ ho, hs H2 (e.trans e2) Q (fun H3 e3 => q H3 (e2.trans e3)) E⟩
theorem ev_meth (h : Ev ta σ H (.ref p)) (ho : H p = some (.ins C dx fs)) (hl : fs.lookup m = none) (ha : EvA tA σ H vs) (hs : SpV sp (.ref p :: (vs ++ dvs)) H z) : Ev (tMeth C m sp dvs E ta tA) σ H z := fun H1 e Q q =>
  h H1 e _ fun H2 e2 => ⟨p, dx, fs, rfl, (e.trans e2) p _ ho, hl, ha H2 (e.trans e2) _ fun H3 e3 => hs H3 ((e.trans e2).trans e3) Q (fun H4 e4 => q H4 ((e2.trans e3).trans e4)) E⟩
theorem el_meth {xs : List V} (h : Ev ta σ H (.ref p)) (ho : H p = some (.ins C dx fs)) (hl : fs.lookup m = none) (ha : EvA tA σ H vs) (hs : SpL sp (.ref p :: (vs ++ dvs)) H xs) : EvL (tMeth C m sp dvs E ta tA) σ H xs := fun H1 e Q q =>
  h H1 e _ fun H2 e2 => ⟨p, dx, fs, rfl, (e.trans e2) p _ ho, hl, ha H2 (e.trans e2) _ fun H3 e3 => hs H3 ((e.trans e2).trans e3) Q (fun q' H4 n4 e4 h4 => q q' H4 (fresh_back (e2.trans e3) n4) ((e2.trans e3).trans e4) h4) E⟩
def SpD (K : PySem.W.Frag) (sp : Sp) (vs : List V) (H : Hp) (d : PyData) : Prop := ∀ H1, Ex H H1 → ∀ Q : VK, (∀ v H2, Ex H1 H2 → Dp K H2 v d → Q v H2) → ∀ E : XK, sp vs H1 Q E
theorem evd_meth (h : Ev ta σ H (.ref p)) (ho : H p = some (.ins C dx fs)) (hl : fs.lookup m = none) (ha : EvA tA σ H vs) (hs : SpD K sp (.ref p :: (vs ++ dvs)) H d) : EvD K (tMeth C m sp dvs E ta tA) σ H d := fun H1 e Q q =>
  h H1 e _ fun H2 e2 => ⟨p, dx, fs, rfl, (e.trans e2) p _ ho, hl, ha H2 (e.trans e2) _ fun H3 e3 => hs H3 ((e.trans e2).trans e3) Q (fun v H4 e4 h4 => q v H4 ((e2.trans e3).trans e4) h4) E⟩
theorem evd_call (ha : EvA tA σ H vs) (hs : SpD K sp (vs ++ dvs) H d) : EvD K (tCall sp dvs E tA) σ H d := fun H1 e Q q =>
  ha H1 e _ fun H2 e2 => hs H2 (e.trans e2) Q (fun v H3 e3 h3 => q v H3 (e2.trans e3) h3) E
theorem ev_methN {n j : Nat} {gV : List V → List V → List V} {zs : List V} (h : Ev ta σ H (.ref p)) (ho : H p = some (.ins C dx fs)) (hl : fs.lookup m = none) (ha : EvA tA σ H vs) (hk : EvA tk σ H zs) (h1 : vs.length = n) (h2 : zs.length = j)
    (hs : SpV sp (gV (.ref p :: vs) zs) H z) : Ev (tMethN C m n j sp gV E ta tA tk) σ H z := fun H1 e Q q =>
  h H1 e _ fun H2 e2 => ⟨p, dx, fs, rfl, (e.trans e2) p _ ho, hl, ha H2 (e.trans e2) _ fun H3 e3 => hk H3 ((e.trans e2).trans e3) _ fun H4 e4 => ⟨h1, h2, hs H4 (((e.trans e2).trans e3).trans e4) Q (fun H5 e5 => q H5 (((e2.trans e3).trans e4).trans e5)) E⟩⟩
theorem el_methN {n j : Nat} {gV : List V → List V → List V} {zs xs : List V} (h : Ev ta σ H (.ref p)) (ho : H p = some (.ins C dx fs)) (hl : fs.lookup m = none) (ha : EvA tA σ H vs) (hk : EvA tk σ H zs) (h1 : vs.length = n) (h2 : zs.length = j)
    (hs : SpL sp (gV (.ref p :: vs) zs) H xs) : EvL (tMethN C m n j sp gV E ta tA tk) σ H xs := fun H1 e Q q =>
  h H1 e _ fun H2 e2 => ⟨p, dx, fs, rfl, (e.trans e2) p _ ho, hl, ha H2 (e.trans e2) _ fun H3 e3 => hk H3 ((e.trans e2).trans e3) _ fun H4 e4 => ⟨h1, h2, hs H4 (((e.trans e2).trans e3).trans e4) Q (fun q' H5 n5 e5 h5 => q q' H5 (fresh_back ((e2.trans e3).trans e4) n5) (((e2.trans e3).trans e4).trans e5) h5) E⟩⟩
theorem evd_methL {xs : List V} {ds : List PyData} (h : EvL te σ H xs) (hd : ∀ H1, Ex H H1 → DpAll K H1 xs ds) : EvD K te σ H (.list ds) := evd_l h hd

/-- repr of data -/
theorem ev_repr {ds : List PyData} (h : EvD K ta σ H (.list ds)) (hs : PyData.showable (.list ds) = true) (hdp : PyData.depth (.list ds) ≤ 60) (hz : (PyData.shown (.list ds)).length ≤ sizeLine) : Ev (tCB (rRepr K) (tCons ta tNil)) σ H (.str (PyData.shown (.list ds))) := fun H1 e Q q =>
  h H1 e _ fun v H2 e2 hv => by
    cases hv with
    | lst h1 h2 => exact ⟨_, _, rfl, .lst h1 h2, hs, hdp, hz, q H2 e2⟩
variable {D : Ends} {tu tw tz : TS}
theorem s_asgD {i : Nat} (h : EvD K te σ H d) (k : ∀ v H1, Ex H H1 → Dp K H1 v d → D.nx (σ.set i (some v)) H1) : tAsg te (gName i) D σ H := h H (Ex.refl H) _ fun v H1 e hv => k v H1 e hv
theorem q_asgD {i : Nat} (h : EvD K te σ H d) (k : ∀ v H1, Ex H H1 → Dp K H1 v d → tz D (σ.set i (some v)) H1) : tSeq (tAsg te (gName i)) tz D σ H := s_asgD (D := { D with nx := tz D }) h k
theorem s_retD (h : EvD K te σ H d) (k : ∀ v H1, Ex H H1 → Dp K H1 v d → D.rt v H1) : tRet te D σ H := h H (Ex.refl H) _ k
end G
end
section
set_option maxHeartbeats 2000000
namespace G
open PySem L2 Evl
variable {K : PySem.W.Frag} {σ : L2.St} {H H' : Hp} {ta tb te tx : TE} {tt : TT} {x y z v : V} {p C dx : Addr} {tA tr tk : TA}

/-! ### calls of built-ins, by their answers -/
theorem rc_len {n : Nat} {ys : List V} (h : SqL K H p ys ∨ SqT K H p ys) (hn : ys.length = n) : RC (fun xs H Q => ∃ p ys, xs = [.ref p] ∧ (SqL K H p ys ∨ SqT K H p ys) ∧ Q (.int (ys.length : Int)) H) [.ref p] H (.int (n : Int)) := fun H1 e Q q =>
  ⟨p, ys, rfl, h.imp (ex_l e) (ex_t e), by rw [hn]; exact q H1 (Ex.refl _)⟩
theorem rc_abs {i : Int} : RC (fun xs H Q => ∃ i, xs = [.int i] ∧ Q (.int (if i < 0 then -i else i)) H) [.int i] H (.int (if i < 0 then -i else i)) := fun H1 e Q q => ⟨i, rfl, q H1 (Ex.refl _)⟩
theorem rc_max2 {i j : Int} : RC (fun xs H Q => ∃ i j, xs = [.int i, .int j] ∧ Q (.int (if j > i then j else i)) H) [.int i, .int j] H (.int (if j > i then j else i)) := fun H1 e Q q => ⟨i, j, rfl, q H1 (Ex.refl _)⟩
theorem rc_min2 {i j : Int} : RC (fun xs H Q => ∃ i j, xs = [.int i, .int j] ∧ Q (.int (if j < i then j else i)) H) [.int i, .int j] H (.int (if j < i then j else i)) := fun H1 e Q q => ⟨i, j, rfl, q H1 (Ex.refl _)⟩
theorem rc_int1 {i : Int} : RC (fun xs H Q => (∃ i, xs = [.int i] ∧ Q (.int i) H) ∨ ∃ k, xs = [.bl k] ∧ Q (.int (if k then 1 else 0)) H) [.int i] H (.int i) := fun H1 e Q q => .inl ⟨i, rfl, q H1 (Ex.refl _)⟩
theorem rc_sum {ns : List Int} (h : SqL K H p (ns.map V.int)) : RC (rSum K) [.ref p] H (.int ns.sum) := fun H1 e Q q => ⟨p, ns, rfl, ex_l e h, q H1 (Ex.refl _)⟩
theorem rc_all {bs : List Bool} (h : SqL K H p (bs.map V.bl)) : RC (rAll K) [.ref p] H (.bl (bs.all id)) := fun H1 e Q q => ⟨p, bs, rfl, ex_l e h, q H1 (Ex.refl _)⟩
theorem rc_max {ns : List Int} {m : Int} (h : SqL K H p (ns.map V.int)) (hm : m ∈ ns) (hle : ∀ y, y ∈ ns → y ≤ m) : RC (rMax K) [.ref p] H (.int m) := fun H1 e Q q =>
  ⟨p, ns, rfl, ex_l e h, List.length_pos_of_mem hm, fun k hk hkl => by
    have e1 : k = m := Int.le_antisymm (hle k hk) (hkl m hm)
    rw [e1]; exact q H1 (Ex.refl _)⟩
theorem rc_min {ns : List Int} {m : Int} (h : SqL K H p (ns.map V.int)) (hm : m ∈ ns) (hle : ∀ y, y ∈ ns → m ≤ y) : RC (rMin K) [.ref p] H (.int m) := fun H1 e Q q =>
  ⟨p, ns, rfl, ex_l e h, List.length_pos_of_mem hm, fun k hk hkl => by
    have e1 : k = m := Int.le_antisymm (hkl m hm) (hle k hk)
    rw [e1]; exact q H1 (Ex.refl _)⟩
theorem rc_gcd {a b : Int} : RC rGcd [.int a, .int b] H (.int ((Nat.gcd a.natAbs b.natAbs : Nat) : Int)) := fun H1 e Q q => ⟨a, b, rfl, q H1 (Ex.refl _)⟩
theorem rc_isi {c : V} {t u : Value} {b : Bool} (k : ClsV c u) (ty : ∀ H1, Ex H H1 → TyX K H1 x t) (hb : PySem.W.kitOne K t u = some b) : RC (rIsi K) [x, c] H (.bl b) := fun H1 e Q q => ⟨x, c, t, u, b, rfl, k, ty H1 e, hb, q H1 (Ex.refl _)⟩
theorem rc_list {xs : List V} (h : SqL K H p xs ∨ SqT K H p xs) : RCL (fun xs H Q => ∃ p ys, xs = [.ref p] ∧ (SqL K H p ys ∨ SqT K H p ys) ∧ ∀ l, H l = none → Q (.ref l) (upd H l (.lst ys))) [.ref p] H xs := fun H1 e Q q =>
  ⟨p, xs, rfl, h.imp (ex_l e) (ex_t e), fun l hl => q l _ hl (Ex.new hl) upd_same⟩
/-- a built-in asked of a list that is new -/
theorem ev_cbL {r : List V → Hp → VK → Prop} {xs : List V} (h : EvL ta σ H xs) (hr : ∀ p H1, Ex H H1 → H1 p = some (.lst xs) → RC r [.ref p] H1 z) : Ev (tCB r (tCons ta tNil)) σ H z := fun H1 e Q q =>
  h H1 e _ fun p H2 _ e2 h2 => hr p H2 (e.trans e2) h2 H2 (Ex.refl _) Q fun H3 e3 => q H3 (e2.trans e3)

theorem q_par {D : Ends} {tz : TS} {i j : Nat} {v w : V} (h : EvA tA σ H [v, w]) (k : ∀ H1, Ex H H1 → tz D ((σ.set i (some v)).set j (some w)) H1) : tSeq (tPar i j tA) tz D σ H := h H (Ex.refl H) _ fun H1 e => ⟨v, w, rfl, k H1 e⟩
theorem s_par {D : Ends} {i j : Nat} {v w : V} (h : EvA tA σ H [v, w]) (k : ∀ H1, Ex H H1 → D.nx ((σ.set i (some v)).set j (some w)) H1) : tPar i j tA D σ H := h H (Ex.refl H) _ fun H1 e => ⟨v, w, rfl, k H1 e⟩
theorem ev_allT {n : Nat} (h : EvL te σ H (given n (fun _ => true) (fun _ => V.bl true))) : Ev (tCB (rAll K) (tCons te tNil)) σ H (.bl true) := ev_cbL h fun p H1 e h1 => by
  have e1 : given n (fun _ => true) (fun _ => V.bl true) = (List.replicate n true).map V.bl := by
    unfold given
    rw [List.filter_eq_self.mpr (fun _ _ => rfl)]
    apply List.ext_getElem <;> simp
  have := rc_all (K := K) (H := H1) (p := p) (bs := List.replicate n true) (sq_of (by rw [← e1]; exact h1))
  have e2 : (List.replicate n true).all id = true := by simp
  rw [e2] at this
  exact this
theorem ev_chain {tc : TE} {r r' : R2} {w : V} (ha : Ev ta σ H x) (hb : Ev tb σ H y) (hr : RV r x y H (.bl true)) (hc : Ev tc σ H w) (hr' : RV r' y w H z) : Ev (tChain r r' ta tb tc) σ H z := fun H1 e Q q =>
  ha H1 e _ fun H2 e2 => hb H2 (e.trans e2) _ fun H3 e3 => hr H3 ((e.trans e2).trans e3) _ fun H4 e4 => ⟨true, rfl, by
    rw [if_pos rfl]
    exact hc H4 (((e.trans e2).trans e3).trans e4) _ fun H5 e5 => hr' H5 ((((e.trans e2).trans e3).trans e4).trans e5) Q fun H6 e6 => q H6 ((((e2.trans e3).trans e4).trans e5).trans e6)⟩
theorem el_lcT {a : Addr} {xs : List V} {tl : TE} {j : Nat} {vs : List Nat} (f : Nat → Bool) (v : Nat → V) (h : Ev tl σ H (.ref a)) (hx : SqT K H a xs) (hz : xs.length ≤ 40000) (hw : ∀ x, wipe ((wipe σ vs).set j (some x)) vs = wipe σ vs)
    (ht : ∀ (i : Nat) (x : V) H1, Ex H H1 → xs[i]? = some x → EvT tt ((wipe σ vs).set j (some x)) H1 (f i)) (he : ∀ (i : Nat) (x : V) H1, Ex H H1 → xs[i]? = some x → f i = true → Ev te ((wipe σ vs).set j (some x)) H1 (v i)) :
    EvL (tLc (iTup K tl) (gName j) tt te vs) σ H (given xs.length f v) := fun H0 e Q q => h H0 e _ fun H1 e1 => ⟨a, rfl, ⟨xs, ex_t (e.trans e1) hx⟩, fun Dl hD =>
  lc_tup (xs := xs) (Cw H1 f v Dl) ⟨hD, Ex.new hD, upd_same⟩ (fun i H' _ p => ex_t ((e.trans e1).trans p.2.1) hx) (fun i x H' hi p => ⟨hw x, cw_turn p (by have := (List.getElem?_eq_some_iff.mp hi).1; omega) (ht i x H1 (e.trans e1) hi) (fun hf => he i x H1 (e.trans e1) hi hf)⟩)
    (fun H' p => q Dl H' (fresh_back e1 p.1) (e1.trans p.2.1) p.2.2)⟩
theorem lc_yes : EvT tYes σ H true := fun H1 _ _ q => q H1 (Ex.refl _)
theorem rv_ixTn {xs : List V} {k : Int} (h : SqT K H p xs) (ha : atI xs k = some v) : RV (rIxT K) (.ref p) (.int k) H v := rv_ixT h ha
section
variable {X : Cx} {e : Expr} {f : Str} {pos : Pos}
theorem ixL (hK : X.K = K) : IxR X (rIxL K) := hK ▸ ix_list
theorem ixT (hK : X.K = K) : IxR X (rIxT K) := hK ▸ ix_tup
theorem lenS (hK : X.K = K) : CallR X (.builtin "len") (fun xs H Q => ∃ p ys, xs = [.ref p] ∧ (SqL K H p ys ∨ SqT K H p ys) ∧ Q (.int (ys.length : Int)) H) := hK ▸ call_len_seq
theorem pe_fldK (hK : X.K = K) (he : PE X e ta) (hb : attributeBase e f X.env (eval e X.env) = eval e X.env) : PE X (.Attribute e f pos) (tFld K ta f) := hK ▸ pe_fld he hb
theorem eqD (hK : X.K = K) (hu : X.A.units + 64 < cLine) : OpR X (compareOp .Eq) (rEqD K) := hK ▸ op_eqD hu
theorem neD (hK : X.K = K) (hu : X.A.units + 64 < cLine) : OpR X (compareOp .NotEq) (rNeD K) := hK ▸ op_neD hu
theorem maxL (hK : X.K = K) (hc : X.calm = true) : CallR X (.builtin "max") (rMax K) := hK ▸ cr_max hc
theorem minL (hK : X.K = K) (hc : X.calm = true) : CallR X (.builtin "min") (rMin K) := hK ▸ cr_min hc
theorem sumL (hK : X.K = K) (hc : X.calm = true) : CallR X (.builtin "sum") (rSum K) := hK ▸ cr_sum hc
theorem allL (hK : X.K = K) (hc : X.calm = true) : CallR X (.builtin "all") (rAll K) := hK ▸ cr_all hc
end
theorem eu_divmod {i j : Int} (ha : Ev ta σ H (.int i)) (hb : Ev tb σ H (.int j)) (h0 : 0 < j) (h1 : j < 1073741824) :
    EvU (tCB (fun xs H Q => ∃ i j, xs = [.int i, .int j] ∧ CDiv i j ∧ ∀ p, H p = none → Q (.ref p) (upd H p (.tup [.int (i / j), .int (i % j)]))) (tCons ta (tCons tb tNil))) σ H [.int (i / j), .int (i % j)] := fun H1 e Q q =>
  ha H1 e _ fun H2 e2 => hb H2 (e.trans e2) _ fun H3 e3 => ⟨i, j, rfl, ⟨h0, h1⟩, fun p hp => q p _ (fresh_back (e2.trans e3) hp) ((e2.trans e3).trans (Ex.new hp)) upd_same⟩
theorem q_asgT2 {D : Ends} {tz : TS} {i j : Nat} {v w : V} (h : EvU te σ H [v, w]) (k : ∀ H1, Ex H H1 → tz D ((σ.set i (some v)).set j (some w)) H1) : tSeq (tAsg te (gTup K 2 (gCons (gName i) (gCons (gName j) gNil)))) tz D σ H :=
  h H (Ex.refl H) _ fun u H1 _ e hu => ⟨u, [v, w], rfl, st_of hu, rfl, _, _, rfl, _, _, rfl, rfl, k H1 e⟩
theorem q_asgG {D : Ends} {tz : TS} {g : TG} {xs : List V} (h : EvU te σ H xs) (k : ∀ p H1, H p = none → Ex H H1 → H1 p = some (.tup xs) → g (.ref p) σ H1 fun σ' H' => tz D σ' H') : tSeq (tAsg te g) tz D σ H := h H (Ex.refl H) _ fun p H1 hp e h1 => k p H1 hp e h1
theorem rv_cat {i j : Str} (h : i.length + j.length ≤ sizeLine) : RV (fun x y H Q => ∃ i j, x = .str i ∧ y = .str j ∧ i.length + j.length ≤ sizeLine ∧ Q (.str (i ++ j)) H) (.str i) (.str j) H (.str (i ++ j)) := fun H1 _ Q q => ⟨i, j, rfl, rfl, h, q H1 (Ex.refl _)⟩
/-! ### comprehensions whose target is a pair -/
section
variable {D : Ends} {f : Nat → Bool} {g : Nat → V} {i j : Nat} {vs : List Nat}
/-- what evaluates to a new list of new pairs (number, item) -/
def EvR (te : TE) (σ : L2.St) (H : Hp) (xs : List V) : Prop := ∀ H1, Ex H H1 → ∀ Q : VK, (∀ (l : Addr) (ts : List Addr) (H2 : Hp), H1 l = none → Ex H1 H2 → H2 l = some (.lst (ts.map V.ref)) → ts.length = xs.length → (∀ (j : Nat) (T : Addr) (x : V), ts[j]? = some T → xs[j]? = some x → H2 T = some (.tup [.int (j : Int), x])) → Q (.ref l) H2) → te σ H1 Q
theorem evr_en {a : Addr} {xs : List V} (h : Ev ta σ H (.ref a)) (hs : SqL K H a xs) : EvR (tListEn K ta) σ H xs := fun H1 e Q q => h H1 e _ fun H2 e2 => ⟨a, xs, rfl, ex_l (e.trans e2) hs, fun l ts H3 hl e3 h3 hz ht => q l ts H3 (fresh_back e2 hl) (e2.trans e3) h3 hz ht⟩
def SpR (sp : Sp) (vs : List V) (H : Hp) (xs : List V) : Prop := ∀ H1, Ex H H1 → ∀ Q : VK, (∀ (l : Addr) (ts : List Addr) (H2 : Hp), H1 l = none → Ex H1 H2 → H2 l = some (.lst (ts.map V.ref)) → ts.length = xs.length → (∀ (j : Nat) (T : Addr) (x : V), ts[j]? = some T → xs[j]? = some x → H2 T = some (.tup [.int (j : Int), x])) → Q (.ref l) H2) → ∀ E : XK, sp vs H1 Q E
theorem evr_meth {m : Str} {sp : Sp} {dvs ws : List V} {E : XK} {fs : List (Str × V)} {xs : List V} (h : Ev ta σ H (.ref p)) (ho : H p = some (.ins C dx fs)) (hl : fs.lookup m = none) (ha : EvA tA σ H ws) (hs : SpR sp (.ref p :: (ws ++ dvs)) H xs) : EvR (tMeth C m sp dvs E ta tA) σ H xs := fun H1 e Q q =>
  h H1 e _ fun H2 e2 => ⟨p, dx, fs, rfl, (e.trans e2) p _ ho, hl, ha H2 (e.trans e2) _ fun H3 e3 => hs H3 ((e.trans e2).trans e3) Q (fun l ts H4 n4 e4 h4 hz ht => q l ts H4 (fresh_back (e2.trans e3) n4) ((e2.trans e3).trans e4) h4 hz ht) E⟩
theorem evd_r {ns : List Int} (h : EvR te σ H (ns.map V.int)) : EvD K te σ H (.list (ns.mapIdx fun j n => .tuple [.int (j : Int), .int n])) := fun H1 e Q q => h H1 e _ fun l ts H2 _ e2 h2 hz ht => by
  refine q _ H2 e2 (.lst (sq_of h2) ?_)
  have key : ∀ (k : Nat) (us : List Addr) (ms : List Int), us.length = ms.length → (∀ (j : Nat) (T : Addr) (n : Int), us[j]? = some T → ms[j]? = some n → H2 T = some (.tup [.int ((k + j : Nat) : Int), .int n])) →
      DpAll K H2 (us.map V.ref) (ms.mapIdx fun j n => .tuple [.int ((k + j : Nat) : Int), .int n]) := by
    intro k us
    induction us generalizing k with
    | nil =>
      intro ms hl _
      cases ms with
      | nil => exact .nil
      | cons m ms => simp at hl
    | cons u us ih =>
      intro ms hl hh
      cases ms with
      | nil => simp at hl
      | cons m ms =>
        rw [List.mapIdx_cons]
        refine .cons (.tup (st_of (hh 0 u m rfl rfl)) (.cons (.int _) (.cons (.int _) .nil))) ?_
        have := ih (k + 1) ms (by simpa using hl) (fun j T n q1 q2 => by
          have := hh (j + 1) T n (by simpa using q1) (by simpa using q2)
          have e1 : k + 1 + j = k + (j + 1) := by omega
          rw [e1]; exact this)
        have e2 : (fun (j : Nat) (n : Int) => PyData.tuple [.int ((k + 1 + j : Nat) : Int), .int n]) = (fun (j : Nat) (n : Int) => PyData.tuple [.int ((k + (j + 1) : Nat) : Int), .int n]) := by
          funext j n
          have e1 : k + 1 + j = k + (j + 1) := by omega
          rw [e1]
        rw [e2] at this
        exact this
  have := key 0 ts ns (by simpa using hz) (fun j T n q1 q2 => by
    have := ht j T (.int n) q1 (by simp [q2])
    rw [Nat.zero_add]; exact this)
  simpa using this
theorem cw_pair {a : Addr} {Dl : Addr} {n : Nat} {H1 Hc : Hp} {i0 : Nat} {k w : V} {σ2 : L2.St} (p : Cw H1 f g Dl i0 Hc) (hi : i0 < 50000) (ht : EvT tt σ2 H1 (f i0)) (he : f i0 = true → Ev te σ2 H1 (g i0)) :
    tt σ2 Hc fun b H3 => if b = true then te σ2 H3 fun y H4 => ∃ acc, H4 Dl = some (.lst acc) ∧ acc.length < sizeLine ∧ Cw H1 f g Dl (i0 + 1) (upd H4 Dl (.lst (acc ++ [y]))) else Cw H1 f g Dl (i0 + 1) H3 := cw_turn p hi ht he
/-- [e for a, b in rows if ..] -/
theorem el_lcR {tl : TE} {xs : List V} (f : Nat → Bool) (g : Nat → V) (h : EvR tl σ H xs) (hz : xs.length ≤ 40000) (hw : ∀ x y, wipe (((wipe σ vs).set i (some x)).set j (some y)) vs = wipe σ vs)
    (ht : ∀ (k : Nat) (x : V) H1, Ex H H1 → xs[k]? = some x → EvT tt (((wipe σ vs).set i (some (.int (k : Int)))).set j (some x)) H1 (f k))
    (he : ∀ (k : Nat) (x : V) H1, Ex H H1 → xs[k]? = some x → f k = true → Ev te (((wipe σ vs).set i (some (.int (k : Int)))).set j (some x)) H1 (g k)) :
    EvL (tLc (iList K tl) (gTup K 2 (gCons (gName i) (gCons (gName j) gNil))) tt te vs) σ H (given xs.length f g) := fun H0 e Q q => h H0 e _ fun a ts H1 ha e1 h1 hl htp => ⟨a, rfl, ⟨ts.map V.ref, sq_of h1⟩, fun Dl hD =>
  lc_list (xs := ts.map V.ref) (Cw H1 f g Dl) ⟨hD, Ex.new hD, upd_same⟩ (fun i0 H' _ p => sq_of (p.2.1 a _ h1)) (fun i0 x0 H' hi p => by
    have hlt : i0 < ts.length := by have := (List.getElem?_eq_some_iff.mp hi).1; simpa using this
    obtain ⟨T, hT⟩ : ∃ T, ts[i0]? = some T := ⟨ts[i0], List.getElem?_eq_getElem hlt⟩
    obtain ⟨w, hw'⟩ : ∃ w, xs[i0]? = some w := ⟨xs[i0]'(by omega), List.getElem?_eq_getElem (by omega)⟩
    have e0 : x0 = V.ref T := by rw [List.getElem?_map, hT] at hi; simpa using hi.symm
    subst e0
    refine ⟨T, [.int (i0 : Int), w], rfl, st_of (p.2.1 T _ (htp i0 T w hT hw')), rfl, _, _, rfl, _, _, rfl, rfl, ?_⟩
    exact ⟨hw _ _, cw_turn p (by omega) (ht i0 w H1 (e.trans e1) hw') (fun hf => he i0 w H1 (e.trans e1) hw' hf)⟩)
    (fun H' p => by
      have e9 : (ts.map V.ref).length = xs.length := by rw [List.length_map, hl]
      rw [e9] at p
      exact q Dl H' (fresh_back e1 p.1) (e1.trans p.2.1) p.2.2)⟩
/-- [e for k, x in enumerate(xs) if ..] -/
theorem el_lcE {a : Addr} {tl : TE} {xs : List V} (f : Nat → Bool) (g : Nat → V) (h : Ev tl σ H (.ref a)) (hs : SqL K H a xs) (hz : xs.length ≤ 40000) (hw : ∀ x y, wipe (((wipe σ vs).set i (some x)).set j (some y)) vs = wipe σ vs)
    (ht : ∀ (k : Nat) (x : V) H1, Ex H H1 → xs[k]? = some x → EvT tt (((wipe σ vs).set i (some (.int (k : Int)))).set j (some x)) H1 (f k))
    (he : ∀ (k : Nat) (x : V) H1, Ex H H1 → xs[k]? = some x → f k = true → Ev te (((wipe σ vs).set i (some (.int (k : Int)))).set j (some x)) H1 (g k)) :
    EvL (tLc (iEnum K (tCons tl tNil)) (gTup K 2 (gCons (gName i) (gCons (gName j) gNil))) tt te vs) σ H (given xs.length f g) := fun H0 e Q q => h H0 e _ fun H1 e1 => by
  have hs1 : SqL K H1 a xs := ex_l (e.trans e1) hs
  refine ⟨a, xs, rfl, hs1, fun Dl hD => ?_⟩
  refine ⟨fun i0 m H' => m = xs.length - i0 ∧ i0 ≤ xs.length ∧ Cw H1 f g Dl i0 H', ⟨xs.length, by simp, Nat.zero_le _, hD, Ex.new hD, upd_same⟩, ?_⟩
  rintro i0 m H' ⟨rfl, hi, pc⟩
  have hs2 : SqL K H' a xs := ex_l pc.2.1 hs1
  by_cases hlt : i0 < xs.length
  · refine .inr ⟨⟨xs, xs[i0], hs2, List.getElem?_eq_getElem hlt⟩, fun H'' => Cw H1 f g Dl (i0 + 1) H'', fun H'' p' => ⟨xs.length - (i0 + 1), by omega, rfl, hlt, p'⟩, fun x0 H'' y => ?_⟩
    obtain ⟨T, w, rfl, hT, rfl, hx⟩ := y
    have hw' := hx xs hs2
    refine ⟨T, [.int (i0 : Int), w], rfl, st_of upd_same, rfl, _, _, rfl, _, _, rfl, rfl, ?_⟩
    have pc2 : Cw H1 f g Dl i0 (upd H' T (.tup [.int (i0 : Int), w])) := ⟨pc.1, pc.2.1.trans (Ex.new hT), by rw [upd_ne (ne_of_none pc.2.2 hT)]; exact pc.2.2⟩
    exact ⟨hw _ _, cw_turn pc2 (by omega) (ht i0 w H1 (e.trans e1) hw') (fun hf => he i0 w H1 (e.trans e1) hw' hf)⟩
  · have e0 : i0 = xs.length := by omega
    subst e0
    exact .inl ⟨⟨xs, hs2, Nat.le_refl _⟩, q Dl H' (fresh_back e1 pc.1) (e1.trans pc.2.1) pc.2.2⟩
end
end G
end
section
set_option maxHeartbeats 2000000
namespace G
open PySem L2 Evl
/-! ### lists and tuples of pairs of numbers -/
abbrev Row := Int × Int
def rowV (r : Row) : List V := [.int r.1, .int r.2]
def RowsAt (H : Hp) (ts : List Addr) (rs : List Row) : Prop := ts.length = rs.length ∧ ∀ (j : Nat) (T : Addr) (r : Row), ts[j]? = some T → rs[j]? = some r → H T = some (.tup (rowV r))
def RowsL (H : Hp) (a : Addr) (rs : List Row) : Prop := ∃ ts : List Addr, H a = some (.lst (ts.map V.ref)) ∧ RowsAt H ts rs
def RowsU (H : Hp) (a : Addr) (rs : List Row) : Prop := ∃ ts : List Addr, H a = some (.tup (ts.map V.ref)) ∧ RowsAt H ts rs
variable {K : PySem.W.Frag} {σ : L2.St} {H H' : Hp} {ta tb te tl tx : TE} {tt : TT} {x y z v w : V} {p a q C dx : Addr} {tA tr tk : TA} {ts us : List Addr} {rs ss : List Row} {vs : List Nat} {i j : Nat} {Q : VK} {D : Ends} {tz : TS}
theorem RowsAt.mono (h : RowsAt H ts rs) (e : Ex H H') : RowsAt H' ts rs := ⟨h.1, fun j T r a b => e T _ (h.2 j T r a b)⟩
theorem RowsL.mono (h : RowsL H a rs) (e : Ex H H') : RowsL H' a rs := let ⟨ts, h1, h2⟩ := h; ⟨ts, e a _ h1, h2.mono e⟩
theorem RowsU.mono (h : RowsU H a rs) (e : Ex H H') : RowsU H' a rs := let ⟨ts, h1, h2⟩ := h; ⟨ts, e a _ h1, h2.mono e⟩
theorem RowsAt.nil : RowsAt H [] [] := ⟨rfl, fun j T r h => by simp at h⟩
theorem RowsAt.app (h : RowsAt H ts rs) (h2 : RowsAt H us ss) : RowsAt H (ts ++ us) (rs ++ ss) := by
  refine ⟨by rw [List.length_append, List.length_append, h.1, h2.1], fun j T r a b => ?_⟩
  by_cases hj : j < ts.length
  · rw [List.getElem?_append_left hj] at a
    rw [List.getElem?_append_left (by rw [← h.1]; exact hj)] at b
    exact h.2 j T r a b
  · rw [List.getElem?_append_right (by omega)] at a
    rw [List.getElem?_append_right (by rw [← h.1]; omega), ← h.1] at b
    exact h2.2 _ T r a b
theorem RowsAt.one {T : Addr} {r : Row} (h : H T = some (.tup (rowV r))) : RowsAt H [T] [r] := ⟨rfl, fun j U s a b => by
  cases j with
  | zero => simp at a b; subst a; subst b; exact h
  | succ j => simp at a⟩
theorem RowsAt.rev (h : RowsAt H ts rs) : RowsAt H ts.reverse rs.reverse := by
  refine ⟨by rw [List.length_reverse, List.length_reverse, h.1], fun j T r a b => ?_⟩
  have hj : j < ts.length := by have := (List.getElem?_eq_some_iff.mp a).1; simpa using this
  rw [List.getElem?_reverse hj] at a
  rw [List.getElem?_reverse (by rw [← h.1]; exact hj), ← h.1] at b
  exact h.2 _ T r a b
theorem RowsAt.rep {T : Addr} {r : Row} (n : Nat) (h : H T = some (.tup (rowV r))) : RowsAt H (List.replicate n T) (List.replicate n r) := ⟨by simp, fun j U s a b => by
  obtain ⟨_, rfl⟩ := List.mem_replicate.mp (List.mem_of_getElem? a)
  obtain ⟨_, rfl⟩ := List.mem_replicate.mp (List.mem_of_getElem? b)
  exact h⟩
theorem RowsAt.get (h : RowsAt H ts rs) {k : Nat} {y : V} (hy : (ts.map V.ref)[k]? = some y) : ∃ T r, y = .ref T ∧ rs[k]? = some r ∧ H T = some (.tup (rowV r)) := by
  rw [List.getElem?_map] at hy
  obtain ⟨T, hT, rfl⟩ := Option.map_eq_some_iff.mp hy
  have hk : k < rs.length := by rw [← h.1]; exact (List.getElem?_eq_some_iff.mp hT).1
  exact ⟨T, rs[k], rfl, List.getElem?_eq_getElem hk, h.2 k T _ hT (List.getElem?_eq_getElem hk)⟩
theorem RowsAt.at (h : RowsAt H ts rs) {k : Nat} {r : Row} (hr : rs[k]? = some r) : ∃ T, (ts.map V.ref)[k]? = some (.ref T) ∧ H T = some (.tup (rowV r)) := by
  have hk : k < ts.length := by rw [h.1]; exact (List.getElem?_eq_some_iff.mp hr).1
  exact ⟨ts[k], by rw [List.getElem?_map, List.getElem?_eq_getElem hk] <;> rfl, h.2 k _ r (List.getElem?_eq_getElem hk) hr⟩
theorem given_rows {f : Row → V} : given rs.length (fun _ => true) (fun k => f (rs.getD k (0, 0))) = rs.map f := by
  unfold given
  rw [List.filter_eq_self.mpr (fun _ _ => rfl)]
  apply List.ext_getElem
  · simp
  · intro k h1 h2
    have hk : k < rs.length := by simpa using h2
    simp [List.getD_eq_getElem?_getD, List.getElem?_eq_getElem hk]
theorem getD_row {k : Nat} {r : Row} (h : rs[k]? = some r) : rs.getD k (0, 0) = r := by rw [List.getD_eq_getElem?_getD, h] <;> rfl
/-- [e for row in rows] -/
theorem el_rowsL (f : Row → V) (h : Ev tl σ H (.ref a)) (hs : RowsL H a rs) (hz : rs.length ≤ 40000) (hw : ∀ x, wipe ((wipe σ vs).set j (some x)) vs = wipe σ vs)
    (he : ∀ (T : Addr) (r : Row) H1, Ex H H1 → r ∈ rs → H1 T = some (.tup (rowV r)) → Ev te ((wipe σ vs).set j (some (.ref T))) H1 (f r)) : EvL (tLc (iList K tl) (gName j) tYes te vs) σ H (rs.map f) := by
  obtain ⟨ts, h1, h2⟩ := hs
  have e0 : (ts.map V.ref).length = rs.length := by rw [List.length_map, h2.1]
  rw [← given_rows, ← e0]
  refine el_lcL (fun _ => true) (fun k => f (rs.getD k (0, 0))) h (sq_of h1) (by omega) hw (fun _ _ _ _ _ => lc_yes) (fun k y H1 e1 hk _ => ?_)
  obtain ⟨T, r, rfl, hr, hT⟩ := h2.get hk
  rw [getD_row hr]
  exact he T r H1 e1 (List.mem_of_getElem? hr) (e1 T _ hT)
theorem el_rowsU (f : Row → V) (h : Ev tl σ H (.ref a)) (hs : RowsU H a rs) (hz : rs.length ≤ 40000) (hw : ∀ x, wipe ((wipe σ vs).set j (some x)) vs = wipe σ vs)
    (he : ∀ (T : Addr) (r : Row) H1, Ex H H1 → r ∈ rs → H1 T = some (.tup (rowV r)) → Ev te ((wipe σ vs).set j (some (.ref T))) H1 (f r)) : EvL (tLc (iTup K tl) (gName j) tYes te vs) σ H (rs.map f) := by
  obtain ⟨ts, h1, h2⟩ := hs
  have e0 : (ts.map V.ref).length = rs.length := by rw [List.length_map, h2.1]
  rw [← given_rows, ← e0]
  refine el_lcT (fun _ => true) (fun k => f (rs.getD k (0, 0))) h (st_of h1) (by omega) hw (fun _ _ _ _ _ => lc_yes) (fun k y H1 e1 hk _ => ?_)
  obtain ⟨T, r, rfl, hr, hT⟩ := h2.get hk
  rw [getD_row hr]
  exact he T r H1 e1 (List.mem_of_getElem? hr) (e1 T _ hT)
/-- [e for a, b in rows] -/
theorem el_rows2L (f : Row → V) (h : Ev tl σ H (.ref a)) (hs : RowsL H a rs) (hz : rs.length ≤ 40000) (hw : ∀ x y, wipe (((wipe σ vs).set i (some x)).set j (some y)) vs = wipe σ vs)
    (he : ∀ (r : Row) H1, Ex H H1 → r ∈ rs → Ev te (((wipe σ vs).set i (some (.int r.1))).set j (some (.int r.2))) H1 (f r)) : EvL (tLc (iList K tl) (gTup K 2 (gCons (gName i) (gCons (gName j) gNil))) tYes te vs) σ H (rs.map f) := fun H0 e Q q => h H0 e _ fun H1 e1 => by
  obtain ⟨ts, h1, h2⟩ := hs
  have e0 : (ts.map V.ref).length = rs.length := by rw [List.length_map, h2.1]
  have hs1 := (e.trans e1) a _ h1
  have h21 := h2.mono (e.trans e1)
  refine ⟨a, rfl, ⟨_, sq_of hs1⟩, fun Dl hD => lc_list (xs := ts.map V.ref) (Cw H1 (fun _ => true) (fun k => f (rs.getD k (0, 0))) Dl) ⟨hD, Ex.new hD, upd_same⟩ (fun k H' _ p => sq_of (p.2.1 a _ hs1)) (fun k y H' hi p => ?_) (fun H' p => ?_)⟩
  · obtain ⟨T, r, rfl, hr, hT⟩ := h21.get hi
    have hk : k < rs.length := (List.getElem?_eq_some_iff.mp hr).1
    refine ⟨T, _, rfl, st_of (p.2.1 T _ hT), rfl, _, _, rfl, _, _, rfl, rfl, hw _ _, cw_turn p (by omega) lc_yes (fun _ => ?_)⟩
    rw [getD_row hr]
    exact he r H1 (e.trans e1) (List.mem_of_getElem? hr)
  · rw [e0] at p
    refine q Dl H' (fresh_back e1 p.1) (e1.trans p.2.1) ?_
    rw [p.2.2, given_rows]
theorem el_rows2U (f : Row → V) (h : Ev tl σ H (.ref a)) (hs : RowsU H a rs) (hz : rs.length ≤ 40000) (hw : ∀ x y, wipe (((wipe σ vs).set i (some x)).set j (some y)) vs = wipe σ vs)
    (he : ∀ (r : Row) H1, Ex H H1 → r ∈ rs → Ev te (((wipe σ vs).set i (some (.int r.1))).set j (some (.int r.2))) H1 (f r)) : EvL (tLc (iTup K tl) (gTup K 2 (gCons (gName i) (gCons (gName j) gNil))) tYes te vs) σ H (rs.map f) := fun H0 e Q q => h H0 e _ fun H1 e1 => by
  obtain ⟨ts, h1, h2⟩ := hs
  have e0 : (ts.map V.ref).length = rs.length := by rw [List.length_map, h2.1]
  have hs1 := (e.trans e1) a _ h1
  have h21 := h2.mono (e.trans e1)
  refine ⟨a, rfl, ⟨_, st_of hs1⟩, fun Dl hD => lc_tup (xs := ts.map V.ref) (Cw H1 (fun _ => true) (fun k => f (rs.getD k (0, 0))) Dl) ⟨hD, Ex.new hD, upd_same⟩ (fun k H' _ p => st_of (p.2.1 a _ hs1)) (fun k y H' hi p => ?_) (fun H' p => ?_)⟩
  · obtain ⟨T, r, rfl, hr, hT⟩ := h21.get hi
    have hk : k < rs.length := (List.getElem?_eq_some_iff.mp hr).1
    refine ⟨T, _, rfl, st_of (p.2.1 T _ hT), rfl, _, _, rfl, _, _, rfl, rfl, hw _ _, cw_turn p (by omega) lc_yes (fun _ => ?_)⟩
    rw [getD_row hr]
    exact he r H1 (e.trans e1) (List.mem_of_getElem? hr)
  · rw [e0] at p
    refine q Dl H' (fresh_back e1 p.1) (e1.trans p.2.1) ?_
    rw [p.2.2, given_rows]
/-- all(..) of such a list -/
theorem rc_allR {f : Row → Bool} (h : H p = some (.lst (rs.map fun r => V.bl (f r)))) : RC (rAll K) [.ref p] H (.bl (rs.all f)) := by
  have := rc_all (K := K) (H := H) (p := p) (bs := rs.map f) (sq_of (by rw [List.map_map]; exact h))
  have e2 : (rs.map f).all id = rs.all f := by rw [List.all_map]; rfl
  rw [e2] at this
  exact this

/-! ### what evaluates to a new list of pairs -/
def EvP (te : TE) (σ : L2.St) (H : Hp) (rs : List Row) : Prop := ∀ H1, Ex H H1 → ∀ Q : VK, (∀ p H2, H1 p = none → Ex H1 H2 → RowsL H2 p rs → Q (.ref p) H2) → te σ H1 Q
def SpP (sp : Sp) (vs : List V) (H : Hp) (rs : List Row) : Prop := ∀ H1, Ex H H1 → ∀ Q : VK, (∀ p H2, H1 p = none → Ex H1 H2 → RowsL H2 p rs → Q (.ref p) H2) → ∀ E : XK, sp vs H1 Q E
theorem q_asgP (h : EvP te σ H rs) (k : ∀ p H1, H p = none → Ex H H1 → RowsL H1 p rs → tz D (σ.set i (some (.ref p))) H1) : tSeq (tAsg te (gName i)) tz D σ H := h H (Ex.refl H) _ k
/-- a list whose elements are those of others -/
theorem evp_of {xs : List V} (h : EvL te σ H xs) (hx : ∀ H1, Ex H H1 → ∃ ts, xs = ts.map V.ref ∧ RowsAt H1 ts rs) : EvP te σ H rs := fun H1 e Q q => h H1 e Q fun p H2 hp e2 h2 => by
  obtain ⟨ts, rfl, hr⟩ := hx H2 (e.trans e2)
  exact q p H2 hp e2 ⟨ts, h2, hr⟩
/-- list(rows) -/
theorem evp_list (h : Ev ta σ H (.ref a)) (hs : RowsL H a rs) : EvP (tCB (fun xs H Q => ∃ p ys, xs = [.ref p] ∧ (SqL K H p ys ∨ SqT K H p ys) ∧ ∀ l, H l = none → Q (.ref l) (upd H l (.lst ys))) (tCons ta tNil)) σ H rs := by
  obtain ⟨ts, h1, h2⟩ := hs
  exact evp_of (el_cb (ea_cons h ea_nil) (rc_list (.inl (sq_of h1)))) fun H1 e => ⟨ts, rfl, h2.mono e⟩
/-- rows[::-1] -/
theorem evp_rev (h : Ev ta σ H (.ref a)) (hs : RowsL H a rs) : EvP (tRevL K ta) σ H rs.reverse := fun H1 e Q q => h H1 e _ fun H2 e2 => by
  obtain ⟨ts, h1, h2⟩ := hs
  refine ⟨a, _, rfl, sq_of ((e.trans e2) a _ h1), fun p hp => q p _ (fresh_back e2 hp) (e2.trans (Ex.new hp)) ⟨ts.reverse, by rw [upd_same, List.map_reverse], (h2.mono ((e.trans e2).trans (Ex.new hp))).rev⟩⟩
/-- rows + more -/
theorem evp_cat (ha : Ev ta σ H (.ref a)) (hb : Ev tb σ H (.ref q)) (hs : RowsL H a rs) (hr : RowsL H q ss) (hz : rs.length + ss.length ≤ 100000) : EvP (tOp rCat ta tb) σ H (rs ++ ss) := fun H1 e Q k => ha H1 e _ fun H2 e2 => hb H2 (e.trans e2) _ fun H3 e3 => by
  obtain ⟨ts, h1, h2⟩ := hs
  obtain ⟨us, g1, g2⟩ := hr
  have e03 := (e.trans e2).trans e3
  refine ⟨a, q, _, _, rfl, rfl, e03 a _ h1, e03 q _ g1, sz_of (by rw [List.length_map, List.length_map, h2.1, g2.1]; exact hz), fun p hp => k p _ (fresh_back (e2.trans e3) hp) ((e2.trans e3).trans (Ex.new hp)) ⟨ts ++ us, by rw [upd_same, List.map_append], ?_⟩⟩
  exact (h2.mono (e03.trans (Ex.new hp))).app (g2.mono (e03.trans (Ex.new hp)))
/-- [row] -/
theorem evp_one {r : Row} (h : Ev ta σ H (.ref q)) (hq : H q = some (.tup (rowV r))) : EvP (tLst (tCons ta tNil)) σ H [r] := evp_of (el_lst (ea_cons h ea_nil) (by show 1 ≤ 100000; decide)) fun H1 e => ⟨[q], rfl, .one (e q _ hq)⟩
theorem flat_rep {v : V} : ∀ n : Nat, (List.replicate n [v]).flatten = List.replicate n v
  | 0 => rfl
  | n + 1 => by rw [List.replicate_succ, List.replicate_succ, List.flatten_cons, List.singleton_append, flat_rep n]
/-- [row] * n -/
theorem evp_rep {r : Row} {n : Nat} (h : Ev ta σ H (.ref q)) (hq : H q = some (.tup (rowV r))) (hb : Ev tb σ H (.int (n : Int))) (hn : n ≤ 10000) : EvP (tOp rRep (tLst (tCons ta tNil)) tb) σ H (List.replicate n r) := fun H1 e Q k => by
  refine (el_lst (ea_cons h ea_nil) (by show 1 ≤ 100000; decide)) H1 e _ fun p H2 hp e2 h2 => ?_
  refine hb H2 (e.trans e2) _ fun H3 e3 => ?_
  refine ⟨p, (n : Int), [.ref q], rfl, rfl, e3 p _ h2, by omega, by omega, by rw [Int.toNat_natCast]; exact sz_of (by show 1 * n ≤ 100000; omega), fun u hu => ?_⟩
  refine k u _ (fresh_back (e2.trans e3) hu) ((e2.trans e3).trans (Ex.new hu)) ⟨List.replicate n q, ?_, .rep n (((e.trans e2).trans e3).trans (Ex.new hu) |> fun z => z q _ hq)⟩
  rw [upd_same, Int.toNat_natCast, List.map_replicate]
  rw [flat_rep]
/-- tuple(rows) -/
def EvPU (te : TE) (σ : L2.St) (H : Hp) (rs : List Row) : Prop := ∀ H1, Ex H H1 → ∀ Q : VK, (∀ p H2, H1 p = none → Ex H1 H2 → RowsU H2 p rs → Q (.ref p) H2) → te σ H1 Q
theorem evpu_tuple (h : Ev ta σ H (.ref a)) (hs : RowsL H a rs) : EvPU (tCB (fun xs H Q => ∃ p ys, xs = [.ref p] ∧ ((SqL K H p ys ∧ ∀ l, H l = none → Q (.ref l) (upd H l (.tup ys))) ∨ (SqT K H p ys ∧ Q (.ref p) H))) (tCons ta tNil)) σ H rs := fun H1 e Q q =>
  h H1 e _ fun H2 e2 => by
    obtain ⟨ts, h1, h2⟩ := hs
    exact ⟨a, _, rfl, .inl ⟨sq_of ((e.trans e2) a _ h1), fun l hl => q l _ (fresh_back e2 hl) (e2.trans (Ex.new hl)) ⟨ts, upd_same, h2.mono ((e.trans e2).trans (Ex.new hl))⟩⟩⟩
end G
end
section
set_option maxHeartbeats 2000000
namespace G
open PySem PySem.Spec PyProof.Rows L2 Evl
/-! ### == and != of two instances by the text's own == -/
section
variable {prog : Program} {w : World} {A : Around} {Er : Value → Shared → Prop} {s : Shared} {K : PySem.W.Frag} {x C f : Addr} {ox : Obj} {od : Option Obj} {b : Value}
theorem bound_ne {M : Model} {args : List Value} {Q : Option Value → Shared → Prop} (X : K.In s.heap) (I : PySem.W.InstAt s.heap x ox C od) (hs : PySem.W.findIn K (.ref C) "__ne__" = some (some (.builtin "object.__ne__")))
    (h : wpAny M A (call (.builtin "object.__ne__") (.ref x :: args)) (fun v => Q (some v)) Er s) : wpAny M A (callSpecialIfBound? (.ref x) "__ne__" args) Q Er s := by
  simp only [callSpecialIfBound?, bindSpecialIfBound?]
  refine wpAny_holding (wpAny_bind (wpAny_bind (wpAny_bind (I.type.here ((PySem.W.looks_findIn X hs).here ?_)))))
  refine wpAny_bind (wpAny_askSetting (wpAny_ite ?_))
  have fin : wpAny M A (call (.builtin "object.__ne__") ([.ref x] ++ args) >>= fun v => pure (some v)) Q Er s := wpAny_bind (wpAny_mono h (fun v s' q => wpAny_pure q) fun _ _ q => q)
  split
  · exact wpAny_bind (wpAny_of_eq (F.cmp_object.ne.bind _) (wpAny_pure (by exact fin)))
  · exact wpAny_tryCatch (wpAny_bind (wpAny_of_eq (F.cmp_object.ne.bind _) (wpAny_pure (by exact fin))))
theorem entry_ne {Q : Fin → Shared → Prop} (hu : A.units < cLine) (X : K.In s.heap) (I : PySem.W.InstAt s.heap x ox C od) (hs : PySem.W.findIn K (.ref C) "__eq__" = some (some (.ref f))) (hf : PySem.W.isFn K (.ref f) = true)
    (h : wpAny (model prog w) A (call (.ref f) [.ref x, b]) (fun v s' => ∃ c, v = .bool c ∧ Q (.done (.ret (.bool (!c)))) s') Er s) : wpAny (model prog w) A (Builtin.«object.__ne__» ⟨[.ref x, b], []⟩) Q Er s := by
  unfold Builtin.«object.__ne__»
  repeat (first
    | with_reducible refine wpAny_cRoomFor hu ?_
    | (refine wpAny_bind (m := callSpecialIfBound? (.ref x) (Str.ofString "__eq__") [b])
        (PySem.W.ifBound_K X I hs hf (wpAny_mono h (fun r s' hr => by
          obtain ⟨c, rfl, hq⟩ := hr
          repeat (first | exact hq | exact wpAny_pure hq | exact wpAny_truthy_bool hq | (refine wpAny_bind (m := truthy (.bool _)) (wpAny_truthy_bool ?_)) | wp_step)) fun _ _ e => e)))
    | wp_step)
theorem rich_ne {Q : Value → Shared → Prop} (hu : A.units + 1 < cLine) (X : K.In s.heap) (I : PySem.W.InstAt s.heap x ox C od) (hb : PySem.W.Looks (model prog w) s.heap (typeOf b) (.ref C))
    (hm : PySem.W.mroIn K C (.type "object") = some true) (hn : PySem.W.findIn K (.ref C) "__ne__" = some (some (.builtin "object.__ne__"))) (hs : PySem.W.findIn K (.ref C) "__eq__" = some (some (.ref f))) (hf : PySem.W.isFn K (.ref f) = true)
    (h : wpAny (model prog w) A.in1 (call (.ref f) [.ref x, b]) (fun v s' => ∃ c, v = .bool c ∧ Q (.bool (!c)) s') Er s) : wpAny (model prog w) A (richCompare .NotEq (.ref x) b) Q Er s := by
  have one : wpAny (model prog w) A (tryCompare (.ref x) "__ne__" b) (fun r s' => ∃ v, r = some v ∧ Q v s') Er s := by
    unfold tryCompare
    refine wpAny_bind (bound_ne X I hn (wpAny_call (codeAny_call_builtin F.cmp_object.ne.plain F.cmpEntry_ne (PySem.W.check_slot F.cmpKind_ne F.cmpSplit_ne (I.type.andThen (PySem.W.looks_mroIn X hm)) (F.cmpArgs_ne _ _)
      (entry_ne (A := A.in1) hu X I hs hf (wpAny_mono h (fun v s' hv => ?_) fun _ _ e => e))))))
    obtain ⟨c, rfl, hq⟩ := hv
    exact ⟨c, rfl, wpAny_pure ⟨_, rfl, hq⟩⟩
  unfold richCompare
  simp only [oneThing_ref, cmpInfo_NotEq]
  refine wpAny_holding (wpAny_bind (wpAny_cRoomFor (Nat.lt_of_succ_lt hu) ?_))
  refine wpAny_bind (I.type.here (wpAny_bind (hb.here ?_)))
  simp only [bne_self_eq_false, Bool.false_eq_true, if_false]
  refine wpAny_bind (wpAny_pure ?_)
  simp only [Bool.false_eq_true, if_false]
  refine wpAny_bind (wpAny_mono one (fun r s' z => ?_) fun _ _ e => e)
  obtain ⟨v, rfl, hq⟩ := z
  exact wpAny_pure hq
end
section
variable {X : Cx} {CX : CXT} {k : Nat} {f C : Addr} {fd : FuncData} {ps : List Str} {sp : Sp} {E : XK}
/-- x == y, x != y of two instances of the class at C, by its own == -/
def rEqO (C : Addr) (sp : Sp) (E : XK) : R2 := fun x y H Q => ∃ a b dx dy fs gs, x = .ref a ∧ y = .ref b ∧ H a = some (.ins C dx fs) ∧ H b = some (.ins C dy gs) ∧ sp [.ref a, .ref b] H (fun v H' => (∃ c, v = .bl c) ∧ Q v H') E
def rNeO (C : Addr) (sp : Sp) (E : XK) : R2 := fun x y H Q => ∃ a b dx dy fs gs, x = .ref a ∧ y = .ref b ∧ H a = some (.ins C dx fs) ∧ H b = some (.ins C dy gs) ∧ sp [.ref a, .ref b] H (fun v H' => ∃ c, v = .bl c ∧ Q (.bl (!c)) H') E
theorem call_eqO {A : Around} {pins : List (Addr × Obj)} {s : Shared} {σ : L2.St} {H : Hp} {a b : Addr} {Q : VK} (F : FnOk X.prog X.w X.K X.mg X.base CX k f fd ps sp) (hb : Binds X.K fd ps []) (hx : Passes CX X E) (hr : Room k A) (hfr : A.frames = X.A.frames) (I : Inv X pins σ H s)
    (h : sp [.ref a, .ref b] H Q E) : wpAny (model X.prog X.w) A (call (.ref f) [.ref a, .ref b]) (EP X pins σ Q) X.xe s := by
  have r2 : Vals [V.ref a, V.ref b] [Value.ref a, Value.ref b] := .cons rfl (.cons rfl .nil)
  have hl := F.len _ _ _ _ h
  have e0 : Env0 X.prog X.w X.K X.mg X.base A X.stack s H := { I.env0 with frames := hfr.trans I.env0.frames }
  refine wpAny_call (codeAny_mono (F.run A X.stack s H ⟨[.ref a, .ref b], []⟩ [.ref a, .ref b] [.ref a, .ref b] Q E hr e0 (by simpa using hb s [.ref a, .ref b] I.kIn (by simpa using hl)) r2 h) fun r s' hq => ?_)
  match r, hq with
  | .error e, hq => exact hx pins σ H s e s' I hq
  | .ok (.ret u), hq => exact I.after hq
  | .ok .next, hq => exact hq.elim
  | .ok .brk, hq => exact hq.elim
  | .ok .cont, hq => exact hq.elim
theorem op_eqO (F : FnOk X.prog X.w X.K X.mg X.base CX k f fd ps sp) (hs : PySem.W.findIn X.K (.ref C) "__eq__" = some (some (.ref f))) (hf : PySem.W.isFn X.K (.ref f) = true) (hb : Binds X.K fd ps []) (hx : Passes CX X E) (hr : Room k X.A) :
    OpR X (compareOp .Eq) (rEqO C sp E) := by
  intro pins s σ H x y u v Q I rx ry h
  obtain ⟨a, b, dx, dy, fs, gs, rfl, rfl, ha, hb', h⟩ := h
  cases rx
  cases ry
  obtain ⟨mA, J, _⟩ := ins_get I.hok ha
  obtain ⟨mB, J', _⟩ := ins_get I.hok hb'
  obtain ⟨od, J, _⟩ := J.look
  obtain ⟨od', J', _⟩ := J'.look
  obtain ⟨m, hF⟩ := I.fr
  refine PySem.W.cmp_ofEq (PySem.W.cmp_K (op := .Eq) (tb := .ref C) hr.units0 hF I.ok.mod.kin J J'.type (by simp [PySem.W.notFirst]) hs hf ?_)
  refine wpAny_mono (call_eqO F hb hx hr rfl I h) (fun w s' hq => ?_) fun _ _ q => q
  obtain ⟨z, H', I', rz, ⟨c, rfl⟩, q⟩ := hq
  cases rz
  exact ⟨.bl c, H', I', rfl, q⟩
theorem op_neO (F : FnOk X.prog X.w X.K X.mg X.base CX k f fd ps sp) (hm : PySem.W.mroIn X.K C (.type "object") = some true) (hn : PySem.W.findIn X.K (.ref C) "__ne__" = some (some (.builtin "object.__ne__"))) (hs : PySem.W.findIn X.K (.ref C) "__eq__" = some (some (.ref f)))
    (hf : PySem.W.isFn X.K (.ref f) = true) (hb : Binds X.K fd ps []) (hx : Passes CX X E) (hr : Room (k + 1) X.A) : OpR X (compareOp .NotEq) (rNeO C sp E) := by
  intro pins s σ H x y u v Q I rx ry h
  obtain ⟨a, b, dx, dy, fs, gs, rfl, rfl, ha, hb', h⟩ := h
  cases rx
  cases ry
  obtain ⟨mA, J, _⟩ := ins_get I.hok ha
  obtain ⟨mB, J', _⟩ := ins_get I.hok hb'
  obtain ⟨od, J, _⟩ := J.look
  obtain ⟨od', J', _⟩ := J'.look
  have hu := hr.units
  refine PySem.W.cmp_ofNotEq (rich_ne (by omega) I.kIn J J'.type hm hn hs hf ?_)
  refine wpAny_mono (call_eqO (A := X.A.in1) F hb hx hr.in1 rfl I h) (fun w s' hq => ?_) fun _ _ q => q
  obtain ⟨z, H', I', rz, c, rfl, q⟩ := hq
  cases rz
  exact ⟨c, rfl, .bl (!c), H', I', rfl, q⟩
end
end G
end
section
set_option maxHeartbeats 2000000
namespace G
open PySem PySem.Spec PyProof.Rows L2 Evl
section
variable {X : Cx} {CX : CXT} {k j : Nat} {f : Addr} {fd : FuncData} {ps ks : List Str} {sp : Sp} {E : XK} {x : Str} {p pos : Pos} {kws : List Keyword} {tk : TA} {g : List Value → List Value → List Value} {gV : List V → List V → List V}
/-- f(k = v, ..) -/
def tCallN0 (j : Nat) (sp : Sp) (gV : List V → List V → List V) (E : XK) (tk : TA) : TE := fun σ H Q => tk σ H fun zs H1 => zs.length = j ∧ sp (gV [] zs) H1 Q E
theorem pe_callN0 (F : FnOk X.prog X.w X.K X.mg X.base CX k f fd ps sp) (hr : Room k X.A) (hg : Gl X x) (hm : X.mg x = some (.ref f)) (hk : PySem.W.keepIn X.K (.ref f) = true) (hb : KBn X.K fd ps 0 ks g gV) (hx : Passes CX X E) (hkw : PK X kws tk)
    (hall : (backToKw pos (keywordEach kws X.env)).all (·.1.isSome) = true := by rfl) (hks : (backToKw pos (keywordEach kws X.env)).filterMap (·.1) = ks := by rfl) (hdb : (x == ("__debug__" : Str)) = false := by decide)
    (hpl : ((backTo pos (starEach [] X.env)).any (·.1) || (backToKw pos (keywordEach kws X.env)).any (·.1.isNone)) = false := by rfl) : PE X (.Call (.Name x p) [] kws pos) (tCallN0 ks.length sp gV E tk) := by
  refine ⟨fun pins s σ H Q I h => wpAny_Call_Name_kw (ld_glob I hg hm ?_ hdb)⟩
  refine PySem.W.callWith_KW0 (first := []) (h₀ := X.base) I.ok.mod.kin hk hall ?_ hpl
  refine thn (hkw.run pos pins s σ H _ I h) fun ws s1 ⟨zs, H1, I1, rz, l1, q1⟩ => ⟨I1.kIn, ?_⟩
  rw [hks]
  exact run_fnN (us := []) (vs := []) F hr hb hx I1 .nil rz rfl l1 q1
end
section
variable {X : Cx} {K : PySem.W.Frag} {tg e : Expr} {te : TE}
theorem piL (hK : X.K = K) (h : PE X e te) : PI X tg e (iList K te) := hK ▸ pi_list h
theorem piT (hK : X.K = K) (h : PE X e te) : PI X tg e (iTup K te) := hK ▸ pi_tup h
end
/-- lcm(a, b) -/
def rLcm : List V → Hp → VK → Prop := fun vs H Q => ∃ a b : Int, vs = [.int a, .int b] ∧ a.natAbs < 18446744073709551616 ∧ b.natAbs < 18446744073709551616 ∧ Q (.int ((Nat.lcm a.natAbs b.natAbs : Nat) : Int)) H
theorem cr_lcm {X : Cx} : CallR X (.builtin "math.lcm") rLcm := by
  intro pins s σ H vs us Q I r h
  obtain ⟨a, b, rfl, ha, hb, q⟩ := h
  obtain ⟨t, u, rfl⟩ := Vals.int2 r
  exact PySem.W.mc_lcm ha hb fun _ => ⟨.int _, H, I.tok _, ⟨_, rfl⟩, q⟩
variable {K : PySem.W.Frag} {σ : L2.St} {H H' : Hp} {ta tb te tl tx tc : TE} {tt : TT} {x y z v w : V} {p a q C dx : Addr} {tA tr tk : TA} {rs ss : List Row} {vs : List Nat} {i j : Nat} {Q : VK} {E : XK} {D : Ends} {tz : TS} {d : PyData} {ds : List PyData} {sp : Sp} {ws zs : List V} {gV : List V → List V → List V} {xs : List V}
theorem rc_lcm {a b : Int} (ha : a.natAbs < 18446744073709551616) (hb : b.natAbs < 18446744073709551616) : RC rLcm [.int a, .int b] H (.int ((Nat.lcm a.natAbs b.natAbs : Nat) : Int)) := fun H1 e Q q => ⟨a, b, rfl, ha, hb, q H1 (Ex.refl _)⟩
theorem ev_callN0 {n : Nat} (h : EvA tk σ H zs) (hn : zs.length = n) (hs : SpV sp (gV [] zs) H z) : Ev (tCallN0 n sp gV E tk) σ H z := fun H1 e Q q => h H1 e _ fun H2 e2 => ⟨hn, hs H2 (e.trans e2) Q (fun H3 e3 => q H3 (e2.trans e3)) E⟩
theorem rv_isN : RV (fun x y H Q => y = .non ∧ Q (.bl (decide (x = .non))) H) x .non H (.bl (decide (x = .non))) := fun H1 _ Q q => ⟨rfl, q H1 (Ex.refl _)⟩
theorem rv_notN : RV (fun x y H Q => y = .non ∧ Q (.bl (!decide (x = .non))) H) x .non H (.bl (!decide (x = .non))) := fun H1 _ Q q => ⟨rfl, q H1 (Ex.refl _)⟩
/-! ### a new instance, as a value -/
/-- what evaluates to an instance of the class at C of which M tells -/
def EvM (te : TE) (σ : L2.St) (H : Hp) (M : Hp → Addr → Prop) : Prop := ∀ H1, Ex H H1 → ∀ Q : VK, (∀ p H2, H1 p = none → Ex H1 H2 → M H2 p → Q (.ref p) H2) → te σ H1 Q
def SpM (sp : Sp) (vs : List V) (H : Hp) (M : Hp → Addr → Prop) : Prop := ∀ H1, Ex H H1 → ∀ Q : VK, (∀ p H2, H1 p = none → Ex H1 H2 → M H2 p → Q (.ref p) H2) → ∀ E : XK, sp vs H1 Q E
theorem q_asgM {M : Hp → Addr → Prop} (h : EvM te σ H M) (k : ∀ p H1, H p = none → Ex H H1 → M H1 p → tz D (σ.set i (some (.ref p))) H1) : tSeq (tAsg te (gName i)) tz D σ H := h H (Ex.refl H) _ k
theorem evm_call {dvs : List V} {M : Hp → Addr → Prop} (ha : EvA tA σ H ws) (hs : SpM sp (ws ++ dvs) H M) : EvM (tCall sp dvs E tA) σ H M := fun H1 e Q q =>
  ha H1 e _ fun H2 e2 => hs H2 (e.trans e2) Q (fun p H3 n3 e3 h3 => q p H3 (fresh_back e2 n3) (e2.trans e3) h3) E
theorem evm_callN0 {n : Nat} {M : Hp → Addr → Prop} (h : EvA tk σ H zs) (hn : zs.length = n) (hs : SpM sp (gV [] zs) H M) : EvM (tCallN0 n sp gV E tk) σ H M := fun H1 e Q q =>
  h H1 e _ fun H2 e2 => ⟨hn, hs H2 (e.trans e2) Q (fun p H3 n3 e3 h3 => q p H3 (fresh_back e2 n3) (e2.trans e3) h3) E⟩
/-! ### data, once more -/
theorem evd_callA {dvs : List V} (h : tA σ H fun ws H1 => Ex H H1 ∧ SpD K sp (ws ++ dvs) H1 d) (hm : ∀ {Q1 Q2 : List V → Hp → Prop}, (∀ x H1, Q1 x H1 → Q2 x H1) → tA σ H Q1 → tA σ H Q2) (k : ∀ v H2, Ex H H2 → Dp K H2 v d → Q v H2) : tCall sp dvs E tA σ H Q :=
  hm (fun ws H1 h => h.2 H1 (Ex.refl _) Q (fun v H2 e2 hv => k v H2 (h.1.trans e2) hv) E) h
def dRow (r : Row) : PyData := .tuple [.int r.1, .int r.2]
def dRows (rs : List Row) : PyData := .list (rs.map dRow)
theorem dp_rowsAt {ts : List Addr} (h : RowsAt H ts rs) : DpAll K H (ts.map V.ref) (rs.map dRow) := by
  obtain ⟨hl, ht⟩ := h
  induction ts generalizing rs with
  | nil =>
    cases rs with
    | nil => exact .nil
    | cons r rs => simp at hl
  | cons T ts ih =>
    cases rs with
    | nil => simp at hl
    | cons r rs =>
      exact .cons (.tup (st_of (ht 0 T r rfl rfl)) (.cons (.int _) (.cons (.int _) .nil))) (ih (by simpa using hl) fun j U s a b => ht (j + 1) U s (by simpa using a) (by simpa using b))
theorem dp_rowsL (h : RowsL H a rs) : Dp K H (.ref a) (dRows rs) := let ⟨ts, h1, h2⟩ := h; .lst (sq_of h1) (dp_rowsAt h2)
theorem dp_rowsU (h : RowsU H a rs) : Dp K H (.ref a) (.tuple (rs.map dRow)) := let ⟨ts, h1, h2⟩ := h; .tup (st_of h1) (dp_rowsAt h2)
theorem evd_eqD {d e : PyData} (ha : EvD K ta σ H d) (hb : EvD K tb σ H e) (h1 : SeqAt.shaped d = true) (h2 : SeqAt.shaped e = true) : Ev (tOp (rEqD K) ta tb) σ H (.bl (PyData.eqv d e)) := fun H1 e1 Q q =>
  ha H1 e1 _ fun v H2 e2 hv => hb H2 (e1.trans e2) _ fun u H3 e3 hu => ⟨_, _, dp_mono e3 hv, hu, h1, h2, q H3 (e2.trans e3)⟩
theorem evd_neD {d e : PyData} (ha : EvD K ta σ H d) (hb : EvD K tb σ H e) (h1 : SeqAt.shaped d = true) (h2 : SeqAt.shaped e = true) : Ev (tOp (rNeD K) ta tb) σ H (.bl (!PyData.eqv d e)) := fun H1 e1 Q q =>
  ha H1 e1 _ fun v H2 e2 hv => hb H2 (e1.trans e2) _ fun u H3 e3 hu => ⟨_, _, dp_mono e3 hv, hu, h1, h2, q H3 (e2.trans e3)⟩
end G
end
section
set_option maxHeartbeats 4000000
/-! own errors over any built-in one -/
namespace G
open PySem PySem.W PySem.Calls PyProof.Rows PySem.HandSPX PySem.OEX
section
open Builtin Builtin.ObjectAttr
structure Tail (tl : List Value) : Prop where
  pass : ∀ self, refuseLoop self "__setattr__" tl = pure ()
  ne : tl.isEmpty = false
  ob : tl.contains (.type "object") = true
theorem tail_arith : Tail [.type "ArithmeticError", .type "Exception", .type "BaseException", .type "object"] := ⟨fun self => by kernel_rfl, rfl, by decide +kernel⟩
theorem tail_lookup : Tail [.type "LookupError", .type "Exception", .type "BaseException", .type "object"] := ⟨fun self => by kernel_rfl, rfl, by decide +kernel⟩
theorem tail_value : Tail [.type "ValueError", .type "Exception", .type "BaseException", .type "object"] := ⟨fun self => by kernel_rfl, rfl, by decide +kernel⟩
def Over (tl bm : List Value) : Prop := ∃ cs : List Addr, bm = cs.map Value.ref ++ tl
theorem Over.cons {tl bm : List Value} (h : Over tl bm) (C : Addr) : Over tl (.ref C :: bm) := let ⟨cs, e⟩ := h; ⟨C :: cs, by rw [e]; rfl⟩
theorem Over.pass {tl bm : List Value} (T : Tail tl) (h : Over tl bm) (self : Value) : refuseLoop self "__setattr__" bm = pure () := by
  obtain ⟨cs, rfl⟩ := h
  induction cs with
  | nil => exact T.pass self
  | cons c cs ih => rw [List.map_cons, List.cons_append, refuseLoop_ref]; exact ih
theorem Over.has {tl bm : List Value} (h : Over tl bm) (X : String) : bm.contains (.type X) = tl.contains (.type X) := by
  obtain ⟨cs, rfl⟩ := h
  induction cs with
  | nil => rfl
  | cons c cs ih => rw [List.map_cons, List.cons_append, List.contains_cons, ih]; rfl
theorem Over.ne {tl bm : List Value} (T : Tail tl) (h : Over tl bm) : bm.isEmpty = false := by
  obtain ⟨cs, rfl⟩ := h
  cases cs with
  | nil => exact T.ne
  | cons c cs => rfl
variable {prog : Program} {w : World} {A : Around} {R : Result → Shared → Prop} {hp : Heap} {g : Array GenState} {d : Drawn} {t : Nat} {os : OsState} {K : Frag} {name : Str} {tk : Tok} {v : Value} {x C dx : Addr} {fv : Array Value} {cd : ClassData} {m0 : Str → Option Value} {nl : List Str} {tl : List Value} {od : Option Addr} {oo : Option Obj}
/-- what comes ahead of the store itself -/
theorem osa_way (T : Tail tl) (X : K.In hp) (I : InstAt hp x { cls := .ref C, dict := od, data := .fields fv } C oo) (hcd : clsIn K C = some cd) (hm : Over tl cd.mro) (ha : findIn K (.ref C) name = some none)
    (h : wpAny (model prog w) A.in1 (storeInOwnDict (.ref x) (.ref C) (.str name tk) name v false) (fun fin s' => match fin with
      | .done f => R (.ok f) s'
      | .again c' => c'.quiet = true ∧ codeAny (model prog w) A c' R s') (fun e s' => R (.error e) s') ⟨hp, g, d, t, os⟩) :
    codeAny (model prog w) A (.call (.builtin "object.__setattr__") ⟨[.ref x, .str name tk, v], []⟩) R ⟨hp, g, d, t, os⟩ := by
  have SF := F.store_object
  have hob : cd.mro.contains (.type "object") = true := (hm.has "object").trans T.ob
  have sub : Looks (model prog w) hp (isInstance (.ref x) (.type "object")) true := I.type.andThen (looks_mroIn X (by unfold mroIn; rw [hcd, Option.bind_some, if_neg (by rw [hm.ne T]; decide), hob]))
  refine codeAny_call_builtin SF.slot.plain SF.entry (@check_slot (model prog w) _ _ ⟨hp, g, d, t, os⟩ "object.__setattr__" "object" "__setattr__" (.ref x) [.str name tk, v] [] _ SF.kind SF.split sub (SF.args (.ref x) (.str name tk) v) ?_)
  have hmr : Looks (model prog w) hp (mroOf (.ref C)) cd.mro := (looks_clsIn X hcd).andThen .now
  rw [osa_eq, refuse_eq]
  refine wpAny_bind (wpAny_bind (I.type.at (wpAny_bind (hmr.at ?_))))
  rw [hm.pass T]
  exact wpAny_pure (wpAny_bind (I.type.at (wpAny_bind ((looks_findIn X ha).at (wpAny_bind ((Looks.now : Looks (model prog w) hp (storeTaker? none) none).at h))))))
/-- x.name = v, x an error of the class at C that has no dict as yet -/
theorem osa_first (T : Tail tl) (X : K.In hp) (hx : hp.get? x = some { cls := .ref C, data := .fields fv }) (hcd : clsIn K C = some cd) (hm : Over tl cd.mro) (hh : cd.hasDict = true) (ha : findIn K (.ref C) name = some none)
    (hq : ∀ h' tk' dx, (∀ b o, b ≠ x → hp.get? b = some o → h'.get? b = some o) → hp.objs.size ≤ dx → dx ≠ x → h'.get? x = some { cls := .ref C, dict := some dx, data := .fields fv } →
      h'.Ns1 dx (fun y => if y = name then some v else none) → R (.ok (.ret .none)) ⟨h', g, d, tk', os⟩) :
    codeAny (model prog w) A (.call (.builtin "object.__setattr__") ⟨[.ref x, .str name tk, v], []⟩) R ⟨hp, g, d, t, os⟩ := by
  refine osa_way (od := none) (oo := none) T X ⟨hx, rfl, rfl, trivial⟩ hcd hm ha ?_
  have hxs : x ≠ hp.objs.size := Nat.ne_of_lt (Heap.lt_size hx)
  have hcls := looks_clsIn (M := model prog w) X hcd
  obtain ⟨nm, bs, mro, ns, qn, hd, sn, sb, ab, col, del⟩ := cd
  dsimp only at hh
  subst hh
  unfold storeInOwnDict ownDictForStores
  repeat (first | with_reducible refine store_in_new ?_ ?_ | with_reducible refine wpAny_loadPart_at hx ?_ | with_reducible refine hcls.at ?_ | wp_step)
  · exact ⟨_, #[], _, (Heap.get?_update_ne _ _ _ _ hxs.symm).trans (Heap.get?_push_at rfl rfl), rfl, fun e he => absurd he (by simp), fun _ => rfl⟩
  · intro h' tk' hn' hs
    refine hq h' tk' hp.objs.size (fun b o hb ho => ?_) (Nat.le_refl _) hxs.symm ?_ hn'
    · exact (hs.2 b (Nat.ne_of_lt (Heap.lt_size ho))).trans ((Heap.get?_update_ne _ _ _ _ hb).trans (Heap.get?_push_of_some _ ho))
    · exact (hs.2 x hxs).trans (Heap.get?_update_self _ (Heap.get?_push_of_some _ hx) rfl)
/-- .. that has one -/
theorem osa_more (T : Tail tl) (X : K.In hp) (hx : hp.get? x = some { cls := .ref C, dict := some dx, data := .fields fv }) (hns : hp.Ns1 dx m0) (hw : Within m0 nl) (hz : nl.length ≤ 1000) (hcd : clsIn K C = some cd) (hm : Over tl cd.mro) (hh : cd.hasDict = true) (ha : findIn K (.ref C) name = some none)
    (hq : ∀ h' tk', (∀ b o, b ≠ dx → hp.get? b = some o → h'.get? b = some o) → h'.Ns1 dx (fun y => if y = name then some v else m0 y) → R (.ok (.ret .none)) ⟨h', g, d, tk', os⟩) :
    codeAny (model prog w) A (.call (.builtin "object.__setattr__") ⟨[.ref x, .str name tk, v], []⟩) R ⟨hp, g, d, t, os⟩ := by
  obtain ⟨oD, esD, epD, hoD, hdD, _⟩ := hns.count hw
  refine osa_way (od := some dx) (oo := some oD) T X ⟨hx, rfl, rfl, hoD⟩ hcd hm ha ?_
  have hcls := looks_clsIn (M := model prog w) X hcd
  obtain ⟨nm, bs, mro, ns, qn, hd, sn, sb, ab, col, del⟩ := cd
  dsimp only at hh
  subst hh
  unfold storeInOwnDict ownDictForStores
  repeat (first | with_reducible refine store_in_old hns hw hz ?_ | with_reducible refine wpAny_loadPart_at hx ?_ | with_reducible refine hcls.at ?_ | wp_step)
  intro h' tk' hn' hs
  exact hq h' tk' (fun b o hb ho => (hs.2 b hb).trans ho) hn'
end
end G
namespace G
open PySem PySem.Spec PyProof.Rows L2 Evl
/-- an own error's class, over the built-in error B -/
structure Own (K : PySem.W.Frag) (B newId initId : String) (tl : List Value) (C : Addr) : Prop where
  base : ExcBaseFacts B newId initId tl
  tail : Tail tl
  cls : ∃ nm q N bs bm sn sub ab col dd k0 k1 k2 k3 k5, K.lookup C = some (excClassObj nm q C N bs bm true sn sub ab col dd k0 k1 k2 k3 k5 newId) ∧ Over tl bm
  sa : PySem.W.findIn K (.ref C) "__setattr__" = some (some (.builtin "object.__setattr__"))
  exC : PySem.W.subIn K (.ref C) (.type "BaseException") = some true
  tyC : PySem.W.typeIn K (.ref C) = some (.type "type")
  kC : PySem.W.keepIn K (.ref C) = true
section
variable {X : Cx} {pins : List (Addr × Obj)} {σ : L2.St} {H : Hp} {s : Shared} {a C dx : Addr} {f : Str} {y : V} {u : Value} {fs : List (Str × V)} {Q : Unit → Shared → Prop} {Er : Value → Shared → Prop} {A : Around} {B newId initId : String} {tl : List Value}
theorem own_cls {K : PySem.W.Frag} (T : Own K B newId initId tl C) : ∃ cd, PySem.W.clsIn K C = some cd ∧ Over tl cd.mro ∧ cd.hasDict = true := by
  obtain ⟨nm, q, N, bs, bm, sn, sub, ab, col, dd, k0, k1, k2, k3, k5, hC, hbm⟩ := T.cls
  exact ⟨{ name := nm, bases := bs, mro := .ref C :: bm, ns := N, qualname := q, hasDict := true, slotNames := sn, subclasses := sub, abstract := ab, collection := col, hasDel := false }, by unfold PySem.W.clsIn; rw [hC] <;> rfl, hbm.cons C, rfl⟩
theorem own_first (T : Own X.K B newId initId tl C) (I : Inv X pins σ H s) (e : H a = some (exo a C none)) (hno : PySem.W.findIn X.K (.ref C) f = some none) (ry : RelV y u)
    (h : ∀ dx s', H dx = none → dx ≠ a → Inv X pins σ (upd (upd H dx (exd dx [(f, y)])) a (exo a C (some dx))) s' → Q () s') : wpAny (model X.prog X.w) A (setAttr (.ref a) f u) Q Er s := by
  obtain ⟨cd, hcl, hov, hhd⟩ := own_cls T
  obtain ⟨t1, ho⟩ := exo_at I.hok e
  obtain ⟨hp, g, d, t, os⟩ := s
  refine PySem.W.set_plain I.kIn (ox := { cls := .ref C, dict := none, data := .fields #[.ref t1, .none, .none, .none, .bool false, .none] }) (od := none) ⟨ho, rfl, rfl, trivial⟩ T.sa ?_
  refine osa_first T.tail I.kIn ho hcl hov hhd hno (fun h' tk' dx k dn dne hx hn => ?_)
  have hnd : H dx = none := I.hok.fresh dn
  have nd : ∀ {b : Addr} {o : Obj}, hp.get? b = some o → b ≠ dx := fun {b o} q => Nat.ne_of_lt (Nat.lt_of_lt_of_le (Heap.lt_size q) dn)
  have na : ∀ {b : Addr}, H b = none → b ≠ a := fun {b} n z => by rw [z, e] at n; cases n
  have U : Un X.fs [] H (upd (upd H dx (exd dx [(f, y)])) a (exo a C (some dx))) hp h' := {
    keep := fun b o q n _ _ => k b o (na n) q
    slot := fun b o q n _ _ => ⟨o.slots, k b o (na n) q⟩
    free := fun b o q n _ => by rw [upd_ne (na n), upd_ne (nd q)]; exact n
    there := fun b o q _ => by
      by_cases hb : b = a
      · exact ⟨_, by rw [hb]; exact hx⟩
      · exact ⟨o, k b o hb q⟩
    tups := fun b xs q => by rw [upd_ne (at_ne e q exo_tup), upd_ne (ne_of_none q hnd)]; exact q
    frzs := fun b o v q => by rw [upd_ne (at_ne e q exo_frz), upd_ne (ne_of_none q hnd)]; exact q
    tbls := fun b ps q => ⟨#[], by rw [upd_ne (at_ne e q exo_tbl), upd_ne (ne_of_none q hnd), q]; simp⟩ }
  refine h dx _ hnd dne (I.un (t' := tk') U fun b o q => ?_)
  by_cases hb : b = a
  · subst hb
    rw [upd_same] at q
    cases q
    exact exo_ok hx
  · rw [upd_ne hb] at q
    by_cases hd : b = dx
    · subst hd
      rw [upd_same] at q
      cases q
      exact exd_ok hn (relO_put (fs := []) ry fun g => True.intro)
    · rw [upd_ne hd] at q
      exact (I.hok b o q).stay (fun c v hc z => k c v (by
          rcases hc with hc | hc
          · rw [hc]; exact hb
          · exact at_ne e hc exo_own) z)
        (fun c hc => by rw [upd_ne (at_ne e hc exo_own), upd_ne (ne_of_none hc hnd)]; exact hc) (fun c xs hc => by rw [upd_ne (at_ne e hc exo_tup), upd_ne (ne_of_none hc hnd)]; exact hc)
theorem own_more (T : Own X.K B newId initId tl C) (I : Inv X pins σ H s) (e : H a = some (exo a C (some dx))) (ed : H dx = some (exd dx fs)) (hl : fs.length ≤ 900) (hno : PySem.W.findIn X.K (.ref C) f = some none) (ry : RelV y u)
    (h : ∀ s', Inv X pins σ (upd H dx (exd dx ((f, y) :: fs))) s' → Q () s') : wpAny (model X.prog X.w) A (setAttr (.ref a) f u) Q Er s := by
  obtain ⟨cd, hcl, hov, hhd⟩ := own_cls T
  obtain ⟨t1, ho⟩ := exo_at I.hok e
  obtain ⟨mA, hns, rel⟩ := exd_at I.hok ed
  have hw := within_of rel
  obtain ⟨hp, g, d, t, os⟩ := s
  obtain ⟨oD, _, _, hoD, _, _⟩ := hns.count hw
  refine PySem.W.set_plain I.kIn (ox := { cls := .ref C, dict := some dx, data := .fields #[.ref t1, .none, .none, .none, .bool false, .none] }) (od := some oD) ⟨ho, rfl, rfl, hoD⟩ T.sa ?_
  refine osa_more T.tail I.kIn ho hns hw (by rw [List.length_map]; omega) hcl hov hhd hno (fun h' tk' k hn => ?_)
  have hd : ∃ o, h'.get? dx = some o := by obtain ⟨o, _, _, e', _⟩ := hn; exact ⟨o, e'⟩
  exact h _ (I.write (t' := tk') (x := dx) (e := dx) (o := exd dx ((f, y) :: fs)) (by rw [ed]; exact True.intro) (.inl rfl) k hd (exd_ok hn (relO_put ry rel)))
end
/-- self.f = e in an own error's __init__ -/
def tOwn (K : PySem.W.Frag) (f : Str) (to te : TE) : TS := fun D σ H => te σ H fun y H1 => to σ H1 fun x H2 => ∃ (a C : Addr) (B newId initId : String) (tl : List Value), x = .ref a ∧ Own K B newId initId tl C ∧ PySem.W.findIn K (.ref C) f = some none ∧
  ((H2 a = some (exo a C none) ∧ ∀ dx, H2 dx = none → dx ≠ a → D.nx σ (upd (upd H2 dx (exd dx [(f, y)])) a (exo a C (some dx)))) ∨
    ∃ (dx : Addr) (fs : List (Str × V)), H2 a = some (exo a C (some dx)) ∧ H2 dx = some (exd dx fs) ∧ fs.length ≤ 900 ∧ D.nx σ (upd H2 dx (exd dx ((f, y) :: fs))))
section
variable {X : Cx} {o e : Expr} {es : List Expr} {to te : TE} {ta : TA} {f : Str} {p p' pos : Pos} {B newId initId : String} {tl : List Value}
theorem ps_own (ho : PE X o to) (he : PE X e te) (hs : swapsWith e (some (.Attribute o f p')) pos.line X.env = pure false := by rfl) : PS X (.Assign [.Attribute o f p'] e pos) (tOwn X.K f to te) := by
  refine ⟨fun pins s σ H D I h => ?_⟩
  refine plainObj_wpAny_Assign_Attribute (thn (he.run pins s σ H _ I h) fun v s1 ⟨y, H1, I1, r1, q1⟩ => thn (ho.run pins s1 σ H1 _ I1 q1) fun u s2 ⟨x, H2, I2, r2, a, C, B, newId, initId, tl, ex, T, hno, q⟩ => ?_) hs
  subst ex
  obtain rfl : u = Value.ref a := r2
  rcases q with ⟨ea, q⟩ | ⟨dx, fs, ea, ed, hl, q⟩
  · exact own_first T I2 ea hno r1 fun dx s' n ne J => ⟨σ, _, J, q dx n ne⟩
  · exact own_more T I2 ea ed hl hno r1 fun s' J => ⟨σ, _, J, q⟩
/-- C(e, ..), C an own error's class, its own __init__ keeping sp -/
theorem pmk_own2 {CX : CXT} {x : Str} {C fI : Addr} {k : Nat} {fd : FuncData} {ps : List Str} {sp : Sp} {ds : List Value} {dvs : List V} (T : Own X.K B newId initId tl C) (iC : PySem.W.findIn X.K (.ref C) "__init__" = some (some (.ref fI))) (tI : PySem.W.typeIn X.K (.ref fI) = some (.type "function"))
    (F1 : FnOk X.prog X.w X.K X.mg X.base CX k fI fd ps sp) (hr : Room (k + 1) X.A) (hb : Binds X.K fd ps ds) (hd : Vals dvs ds) (hx : Passes CX X (fun _ _ _ => False)) (hg : Gl X x) (hm : X.mg x = some (.ref C)) (ha : PA X (e :: es) ta)
    (hdb : (x == ("__debug__" : Str)) = false := by decide) (he : starEach (e :: es) X.env = (false, eval e X.env) :: starEach es X.env := by rfl) (hpl : (backTo pos (starEach es X.env)).any (·.1) = false := by rfl) :
    PMk X (.Call (.Name x p) (e :: es) [] pos) (tMkO C sp dvs ta) := by
  intro pins s σ H Q I h
  obtain ⟨nm, q, N, bs, bm, sn, sub, ab, col, dd, k0, k1, k2, k3, k5, hC, hbm⟩ := T.cls
  refine wpAny_Call_Name_kw (ld_glob I hg hm ?_ hdb)
  refine PySem.W.callWith_K (h₀ := X.base) I.ok.mod.kin T.kC (thn (ha.run pos pins s σ H _ I h) fun us s1 ⟨vs, H1, I1, r1, hz, q1⟩ => ⟨I1.kIn, ?_⟩) he hpl
  show wpAny _ _ (call (.ref C) us) _ _ _
  obtain ⟨hp, g, dr, tk, os⟩ := s1
  have hsz : hp.objs.size ≤ hp.objs.size + 1 := Nat.le_succ _
  have hq := q1 (hp.objs.size + 1) (I1.hok.fresh hsz)
  have kk : ∀ b o, hp.get? b = some o → ((hp.push (PySem.W.kdv_tup us)).push (PySem.HandSPX.excO C hp.objs.size)).get? b = some o := fun b o e => Heap.get?_push_of_some _ (Heap.get?_push_of_some _ e)
  have hget : ((hp.push (PySem.W.kdv_tup us)).push (PySem.HandSPX.excO C hp.objs.size)).get? (hp.objs.size + 1) = some (PySem.HandSPX.excO C hp.objs.size) := by heap_get
  have I2 := I1.laid (t' := tk) (a := hp.objs.size + 1) (o := exo (hp.objs.size + 1) C none) (h' := (hp.push (PySem.W.kdv_tup us)).push (PySem.HandSPX.excO C hp.objs.size)) kk hsz (exo_ok hget)
  have r2 : Vals (V.ref (hp.objs.size + 1) :: (vs ++ dvs)) (Value.ref (hp.objs.size + 1) :: (us ++ ds)) := .cons rfl (r1.append hd)
  have hl : (Value.ref (hp.objs.size + 1) :: us ++ ds).length = ps.length := by
    have e := r2.length
    rw [F1.len _ _ _ _ hq] at e
    exact e.symm
  have hus : us.length ≤ sizeLine := by rw [← Paired.length r1, sizeLine_eq]; omega
  refine wpAny_call (PySem.HandSPX.call_own T.base (fun Y => hbm.has Y) (I1.kIn _ _ hC) (PySem.W.looks_findIn I1.kIn iC) (fun self => PySem.W.bind_fn I1.kIn self tI) hus
    (codeAny_mono (F1.run _ X.stack _ _ ⟨Value.ref (hp.objs.size + 1) :: us, []⟩ (Value.ref (hp.objs.size + 1) :: (us ++ ds)) _ _ (fun _ _ _ => False) (hr.make C us []) (I2.env0.make C us []) (hb _ (Value.ref (hp.objs.size + 1) :: us) I2.kIn hl) r2 hq) fun r s' hq' => ?_))
  match r, hq' with
  | .error er, hq' => exact hx pins σ _ _ er s' I2 hq'
  | .ok .next, hq' => exact hq'.elim
  | .ok .brk, hq' => exact hq'.elim
  | .ok .cont, hq' => exact hq'.elim
  | .ok (.ret u), hq' =>
    obtain ⟨v, H2, os2, bare2, un2, hok2, rv, ev, d, fs, ea, ed, hd1, q2⟩ := hq'
    subst ev
    obtain ⟨h2, g2, d2, t2, os'⟩ := s'
    exact ⟨rv, mk_end (raises_own T.exC T.tyC) I1 hsz kk un2 hok2 os2 bare2 ea ed hd1 q2⟩
end
end G
end
section
set_option maxHeartbeats 2000000
namespace G
open PySem PySem.Spec PyProof.Rows L2 Evl
/-! ### ranges that have a name -/
theorem cr_range1 {X : Cx} : CallR X (.type "range") (fun vs H Q => ∃ j, vs = [V.int j] ∧ ∀ p, H p = none → Q (.ref p) (upd H p (.rng 0 j))) := by
  intro pins s σ H vs us Q I r h
  obtain ⟨j, rfl, q⟩ := h
  obtain ⟨u, rfl, ru⟩ := vals1 r
  obtain ⟨t, rfl⟩ := ru
  refine call_range_1 ⟨.ref s.heap.objs.size, upd H s.heap.objs.size (.rng 0 j), I.laid (t' := s.toks + 1 + 1) (fun b o e => Heap.get?_push_of_some _ e) (Nat.le_refl _) ?_, rfl, q _ (I.hok.fresh (Nat.le_refl _))⟩
  exact ⟨_, t, _, Heap.get?_push_size _ rfl⟩
def iRgV (te : TE) : TI := fun σ H R => te σ H fun x H1 => ∃ (p : Addr) (j : Int), x = .ref p ∧ H1 p = some (.rng 0 j) ∧ -(2 ^ 62) ≤ j ∧ j < 2 ^ 62 ∧ R (Itr 0 j.toNat) H1
theorem pi_rgV {X : Cx} {tg e : Expr} {te : TE} (he : PE X e te) : PI X tg e (iRgV te) := by
  refine ⟨fun pins s σ H R I h => thn (he.run pins s σ H _ I h) fun v s1 ⟨x, H1, I1, r1, p, j, ex, ea, h1, h2, q⟩ => ?_⟩
  subst ex
  obtain rfl : v = Value.ref p := r1
  obtain ⟨t, u, w, ho⟩ := I1.hok p _ ea
  have I2 : Inv X pins σ H1 s1 := I1
  refine wpAny_pyIter_range (a := 0) (b := j) (c := 1) (t := t) (u := u) (v := w) ho (small_one (by omega) (by omega) h1 h2) ?_
  refine ⟨s1.heap.objs.size, [s1.heap.objs.size], _, _, H1, rfl, I1.kept (t' := s1.toks) fun b o e => Heap.get?_push_of_some _ e, turn_range _ 0 j.toNat, ?_, fun b hb => ?_, q⟩
  · have e1 : (0 : Int) + ((0 : Nat) : Int) * 1 = 0 := by simp
    have e2 : (((j).toNat : Nat) : Int) - ((0 : Nat) : Int) = Builtin.Range.rangeSize 0 j 1 := by rw [rangeSize_one]; split <;> omega
    show IsRangeIter _ _ ((0 : Int) + ((0 : Nat) : Int) * 1) (((j.toNat : Nat) : Int) - ((0 : Nat) : Int)) 1
    rw [e1, e2]
    exact Heap.get?_push_size _ rfl
  · have e : b = s1.heap.objs.size := by simpa using hb
    subst e
    exact I1.fpOk (Nat.le_refl _) (I1.hok.fresh (Nat.le_refl _))
variable {K : PySem.W.Frag} {σ : L2.St} {H : Hp} {tl te ta : TE} {p : Addr} {n : Nat} {j i : Nat} {vs : List Nat} {D : Ends} {tz : TS} {tA : TA} {z0 : Int}
theorem el_lcRV (v : Nat → V) (h : Ev tl σ H (.ref p)) (hp : H p = some (.rng 0 (n : Int))) (hn : n ≤ 40000) (hw : ∀ x, wipe ((wipe σ vs).set j (some x)) vs = wipe σ vs) (he : ∀ (i : Nat) H1, Ex H H1 → i < n → Ev te ((wipe σ vs).set j (some (.int (i : Int)))) H1 (v i)) :
    EvL (tLc (iRgV tl) (gName j) tYes te vs) σ H ((List.range n).map v) := fun H0 e Q q => h H0 e _ fun H1 e1 => ⟨p, (n : Int), rfl, (e.trans e1) p _ hp, by omega, by omega, fun Dl hD => by
  have eq : (List.range n).map v = given n (fun _ => true) v := by unfold given; rw [List.filter_eq_self.mpr (fun _ _ => rfl)]
  rw [Int.toNat_natCast]
  refine lc_range (lo := 0) (n := n) (Cw H1 (fun _ => true) v Dl) ⟨hD, Ex.new hD, upd_same⟩ (fun i H' hi p => by
    have e0 : (0 : Int) + (i : Int) = (i : Int) := Int.zero_add _
    show wipe ((wipe σ vs).set j (some (.int ((0 : Int) + (i : Int))))) vs = wipe σ vs ∧ tYes ((wipe σ vs).set j (some (.int ((0 : Int) + (i : Int))))) H' fun b H3 => if b = true then te ((wipe σ vs).set j (some (.int ((0 : Int) + (i : Int))))) H3 fun y H4 => _ else _
    rw [e0]
    exact ⟨hw _, cw_turn p (by omega) lc_yes (fun _ => he i H1 (e.trans e1) (by omega))⟩) (fun H' p => q Dl H' (fresh_back e1 p.1) (e1.trans p.2.1) (by rw [eq]; exact p.2.2))⟩
/-- x = range(e) -/
theorem q_rng (ha : EvA tA σ H [.int z0]) (k : ∀ p H1, H p = none → Ex H H1 → H1 p = some (.rng 0 z0) → tz D (σ.set i (some (.ref p))) H1) : tSeq (tAsg (tCB (fun vs H Q => ∃ j, vs = [V.int j] ∧ ∀ p, H p = none → Q (.ref p) (upd H p (.rng 0 j))) tA) (gName i)) tz D σ H :=
  ha H (Ex.refl H) _ fun H1 e1 => ⟨z0, rfl, fun p hp => k p _ (fresh_back e1 hp) (e1.trans (Ex.new hp)) upd_same⟩
/-! ### calls of a def that a name holds -/
section
variable {X : Cx} {CX : CXT} {k : Nat} {sp : Sp} {E : L2.St → XK} {pos : Pos} {fe e : Expr} {es : List Expr} {tf : TE} {t : TA}
def tCallV (S : Addr → Prop) (sp : Sp) (E : L2.St → XK) (tf : TE) (t : TA) : TE := fun σ H Q => tf σ H fun x H1 => ∃ f, x = .ref f ∧ S f ∧ t σ H1 fun vs H2 => sp vs H2 Q (E σ)
theorem pe_callV {S : Addr → Prop} (F : ∀ f, S f → ∃ fd ps, FnOk X.prog X.w X.K X.mg X.base CX k f fd ps sp ∧ Binds X.K fd ps [] ∧ PySem.W.keepIn X.K (.ref f) = true) (hf : PE X fe tf) (hr : Room k X.A) (hx : ∀ σ, PassesAt CX X σ (E σ)) (ha : PA X (e :: es) t)
    (ht : eval (.Call fe (e :: es) [] pos) X.env = (do callWith pos (← eval fe X.env) [] (backTo pos (starEach (e :: es) X.env)) (backToKw pos (keywordEach [] X.env))) := by rfl)
    (he : starEach (e :: es) X.env = (false, eval e X.env) :: starEach es X.env := by rfl) (hpl : (backTo pos (starEach es X.env)).any (·.1) = false := by rfl) : PE X (.Call fe (e :: es) [] pos) (tCallV S sp E tf t) := by
  refine ⟨fun pins s σ H Q I h => Call_ (thn (hf.run pins s σ H _ I h) fun u s1 ⟨y, H1, I1, ry, f, ey, hS, q⟩ => ?_) ht⟩
  subst ey
  obtain rfl : u = Value.ref f := ry
  obtain ⟨fd, ps, G, hb, hk⟩ := F f hS
  refine PySem.W.callWith_K (h₀ := X.base) I1.ok.mod.kin hk (thn (ha.run pos pins s1 σ H1 _ I1 q) fun us s2 ⟨vs, H2, I2, r, q2⟩ => ⟨I2.kIn, ?_⟩) he hpl
  exact run_fnS G hr hb (hx σ) I2 r q2
end
theorem FnOk.imp {P : Program} {w : World} {K : PySem.W.Frag} {mg : Str → Option Value} {base : Heap} {CX : CXT} {k : Nat} {f : Addr} {fd : FuncData} {ps : List Str} {sp sp' : Sp} (F : FnOk P w K mg base CX k f fd ps sp) (h : ∀ vs H Q E, sp' vs H Q E → sp vs H Q E) : FnOk P w K mg base CX k f fd ps sp' :=
  ⟨fun vs H Q E q => F.len vs H Q E (h vs H Q E q), fun A outer s H args us vs Q E hr e0 hb r q => F.run A outer s H args us vs Q E hr e0 hb r (h vs H Q E q)⟩
/-- an error is named by its own class -/
theorem exm_at {K : PySem.W.Frag} {S : Addr} (b : PySem.W.subIn K (.ref S) (.type "BaseException") = some true) (c : PySem.W.isClsIn K S = true) (t : PySem.W.typeIn K (.ref S) = some (.type "type")) (s : PySem.W.subIn K (.ref S) (.ref S) = some true) : PySem.W.exmOne K (.ref S) (.ref S) = some true := by
  have c' : (PySem.W.clsIn K S).isSome = true := c
  unfold PySem.W.exmOne PySem.W.kitCls
  simp [b, c', t, s]
theorem passF {X : Cx} {E₁ : XK} (tk : Takes X (fun cls d _ H => E₁ cls d H)) : Passes (L2.CX X.prog X.w) X E₁ := fun pins σ H s e s' I c => tk e s' (XE.of_call I (fun _ _ _ h => h) c)
end G
end
section
set_option maxHeartbeats 2000000
namespace G
open PySem L2 Evl
/-! ### data that stand apart from what else changes: B the heap whose data may be shared, H1 the heap ahead -/
def Sep (B H1 H2 : Hp) : Hp := fun b => if H1 b = none ∨ (B b).isSome = true then H2 b else none
section
variable {B B' H H' H1 H2 H3 : Hp} {b : Addr} {o : HO}
theorem sep_in (h : H2 b = some o) (hb : H1 b = none ∨ (B b).isSome = true) : Sep B H1 H2 b = some o := by unfold Sep; rw [if_pos hb]; exact h
theorem sep_out (h : Sep B H1 H2 b = some o) : (H1 b = none ∨ (B b).isSome = true) ∧ H2 b = some o := by
  unfold Sep at h
  split at h
  · rename_i q; exact ⟨q, h⟩
  · cases h
theorem sep_ex : Ex (Sep B H1 H2) H2 := fun b o h => (sep_out h).2
theorem sep_base (e : Ex B H2) : Ex B (Sep B H1 H2) := fun b o h => sep_in (e b o h) (.inr (by rw [h]; rfl))
theorem sep_next (e : Ex H2 H3) : Ex (Sep B H1 H2) (Sep B H1 H3) := fun b o h => let ⟨h1, h2⟩ := sep_out h; sep_in (e b o h2) h1
theorem sep_prev (e : Ex H1 H2) : Ex (Sep B H2 H3) (Sep B H1 H3) := fun b o h => let ⟨h1, h2⟩ := sep_out h; sep_in h2 (h1.imp (fresh_back e) id)
theorem some_ex (e : Ex B B') (h : (B b).isSome = true) : (B' b).isSome = true := by
  obtain ⟨o, ho⟩ := Option.isSome_iff_exists.mp h
  rw [e b o ho] <;> rfl
theorem sep_wide (e : Ex B B') : Ex (Sep B H1 H2) (Sep B' H1 H2) := fun b o h => let ⟨h1, h2⟩ := sep_out h; sep_in h2 (h1.imp id (some_ex e))
theorem sep_sep (e : Ex H1 H2) : Ex (Sep (Sep B H1 H2) H2 H3) (Sep B H1 H3) := fun b o h => by
  obtain ⟨h1, h2⟩ := sep_out h
  refine sep_in h2 ?_
  rcases h1 with h1 | h1
  · exact .inl (fresh_back e h1)
  · obtain ⟨o', ho⟩ := Option.isSome_iff_exists.mp h1
    exact (sep_out ho).1
/-- nothing is shared of what is neither in B nor new -/
theorem sep_off {q : Addr} (h1 : H1 q ≠ none) (h2 : B q = none) : Sep B H1 H2 q = none := by
  unfold Sep
  rw [if_neg]
  rintro (z | z)
  · exact h1 z
  · rw [h2] at z; cases z
theorem sep_upd {q : Addr} {o : HO} (h1 : H1 q ≠ none) (h2 : B q = none) : Ex (Sep B H1 H2) (Sep B H1 (upd H2 q o)) := fun b u h => by
  obtain ⟨a1, a2⟩ := sep_out h
  have hb : b ≠ q := fun z => by subst z; rw [sep_off h1 h2] at h; cases h
  exact sep_in (by rw [upd_ne hb]; exact a2) a1
end
variable {K : PySem.W.Frag} {σ : L2.St} {B H H' : Hp} {ta tb te tx tl : TE} {tt : TT} {x y z v : V} {d d' : PyData} {ds es : List PyData} {p C dx a : Addr} {fs : List (Str × V)} {f m : Str} {sp : Sp} {dvs vs xs : List V} {E : XK} {tA tr tk : TA} {js : List Nat} {j i : Nat} {D : Ends} {tz : TS}
/-- what evaluates to data, B the heap whose data may be shared (a part of H) -/
def EvN (K : PySem.W.Frag) (B : Hp) (te : TE) (σ : L2.St) (H : Hp) (d : PyData) : Prop := ∀ H1, Ex H H1 → ∀ Q : VK, (∀ v H2, Ex H1 H2 → Dp K (Sep B H1 H2) v d → Q v H2) → te σ H1 Q
def EvAN (K : PySem.W.Frag) (B : Hp) (ta : TA) (σ : L2.St) (H : Hp) (ds : List PyData) : Prop := ∀ H1, Ex H H1 → ∀ Q : List V → Hp → Prop, (∀ vs H2, Ex H1 H2 → DpAll K (Sep B H1 H2) vs ds → Q vs H2) → ta σ H1 Q
/-- the promise's end: data -/
def RetN (K : PySem.W.Frag) (B : Hp) (d : PyData) (H : Hp) (Q : VK) : Prop := ∀ v H2, Ex H H2 → Dp K (Sep B H H2) v d → Q v H2
def SpN (K : PySem.W.Frag) (B : Hp) (sp : Sp) (vs : List V) (H : Hp) (d : PyData) : Prop := ∀ H1, Ex H H1 → ∀ Q : VK, RetN K B d H1 Q → ∀ E : XK, sp vs H1 Q E
theorem EvN.mono (e : Ex H H') (h : EvN K B te σ H d) : EvN K B te σ H' d := fun H1 a Q q => h H1 (e.trans a) Q q
theorem EvAN.mono (e : Ex H H') (h : EvAN K B tA σ H ds) : EvAN K B tA σ H' ds := fun H1 a Q q => h H1 (e.trans a) Q q
theorem EvN.wide {B' : Hp} (e : Ex B B') (h : EvN K B te σ H d) : EvN K B' te σ H d := fun H1 a Q q => h H1 a Q fun v H2 e2 hv => q v H2 e2 (dp_mono (sep_wide e) hv)
theorem EvN.evd (h : EvN K B te σ H d) : EvD K te σ H d := fun H1 e Q q => h H1 e Q fun v H2 e2 hv => q v H2 e2 (dp_mono sep_ex hv)
theorem evn_is (h : EvN K B te σ H d) (e : d = d') : EvN K B te σ H d' := e ▸ h
theorem evn_v (h : Ev te σ H v) (hd : ∀ H1, Dp K H1 v d) : EvN K B te σ H d := fun H1 e Q q => h H1 e Q fun H2 e2 => q v H2 e2 (hd _)
theorem evn_int {i : Int} (h : Ev te σ H (.int i)) : EvN K B te σ H (.int i) := evn_v h fun _ => .int i
theorem evn_bl {b : Bool} (h : Ev te σ H (.bl b)) : EvN K B te σ H (.bool b) := evn_v h fun _ => .bl b
theorem evn_str {w : Str} (h : Ev te σ H (.str w)) : EvN K B te σ H (.str w) := evn_v h fun _ => .str w
theorem evn_non (h : Ev te σ H .non) : EvN K B te σ H .none := evn_v h fun _ => .non
theorem evn_ref (hb : Ex B H) (h : Ev te σ H v) (hd : Dp K B v d) : EvN K B te σ H d := fun H1 e Q q => h H1 e Q fun H2 e2 => q v H2 e2 (dp_mono (sep_base (hb.trans (e.trans e2))) hd)
/-- a new list of what is data in B -/
theorem evn_l (hb : Ex B H) (h : EvL te σ H xs) (hd : DpAll K B xs ds) : EvN K B te σ H (.list ds) := fun H1 e Q q => h H1 e Q fun p H2 hp e2 h2 => q _ H2 e2 (.lst (sq_of (sep_in h2 (.inl hp))) (dp_monoAll (sep_base (hb.trans (e.trans e2))) hd))
theorem dpAll_intsB {ns : List Int} {H1 : Hp} : DpAll K H1 (ns.map V.int) (ns.map PyData.int) := dpAll_ints ns
theorem evn_ints {ns : List Int} (h : EvL te σ H (ns.map V.int)) : EvN K B te σ H (dInts ns) := fun H1 e Q q => h H1 e Q fun p H2 hp e2 h2 => q _ H2 e2 (.lst (sq_of (sep_in h2 (.inl hp))) (dpAll_ints ns))
theorem evn_u (hb : Ex B H) (h : EvU te σ H xs) (hd : DpAll K B xs ds) : EvN K B te σ H (.tuple ds) := fun H1 e Q q => h H1 e Q fun p H2 hp e2 h2 => q _ H2 e2 (.tup (st_of (sep_in h2 (.inl hp))) (dp_monoAll (sep_base (hb.trans (e.trans e2))) hd))
theorem evan_nil : EvAN K B tNil σ H [] := fun H1 _ _ q => q [] H1 (Ex.refl H1) .nil
theorem evan_cons (h : EvN K B ta σ H d) (hr : EvAN K B tr σ H ds) : EvAN K B (tCons ta tr) σ H (d :: ds) := fun H1 e Q q =>
  h H1 e _ fun v H2 e2 hv => hr H2 (e.trans e2) _ fun vs H3 e3 hvs => q _ H3 (e2.trans e3) (.cons (dp_mono (sep_next e3) hv) (dp_monoAll (sep_prev e2) hvs))
theorem evn_lst (h : EvAN K B tA σ H ds) (hl : ds.length ≤ 100000) : EvN K B (tLst tA) σ H (.list ds) := fun H1 e Q q =>
  h H1 e _ fun vs H2 e2 hv => ⟨sz_of (by rw [dp_len hv]; exact hl), fun p hp => q _ _ (e2.trans (Ex.new hp)) (.lst (sq_of (sep_in upd_same (.inl (fresh_back e2 hp)))) (dp_monoAll (sep_next (Ex.new hp)) hv))⟩
theorem evn_tup (h : EvAN K B tA σ H ds) (hl : ds.length ≤ 100000) : EvN K B (tTup tA) σ H (.tuple ds) := fun H1 e Q q =>
  h H1 e _ fun vs H2 e2 hv => ⟨sz_of (by rw [dp_len hv]; exact hl), fun p hp => q _ _ (e2.trans (Ex.new hp)) (.tup (st_of (sep_in upd_same (.inl (fresh_back e2 hp)))) (dp_monoAll (sep_next (Ex.new hp)) hv))⟩
theorem evn_if {b : Bool} (h : EvT tt σ H b) (h1 : b = true → EvN K B ta σ H d) (h2 : b = false → EvN K B tb σ H d) : EvN K B (tIf tt ta tb) σ H d := fun H1 e Q q => h H1 e _ fun H2 e2 => by
  cases b with
  | true => rw [if_pos rfl]; exact h1 rfl H2 (e.trans e2) Q fun v H3 e3 hv => q v H3 (e2.trans e3) (dp_mono (sep_prev e2) hv)
  | false => rw [if_neg (by decide)]; exact h2 rfl H2 (e.trans e2) Q fun v H3 e3 hv => q v H3 (e2.trans e3) (dp_mono (sep_prev e2) hv)
/-- a def whose promise gives data -/
theorem evn_call (ha : EvA tA σ H vs) (hs : SpN K B sp (vs ++ dvs) H d) : EvN K B (tCall sp dvs E tA) σ H d := fun H1 e Q q =>
  ha H1 e _ fun H2 e2 => hs H2 (e.trans e2) Q (fun v H3 e3 h3 => q v H3 (e2.trans e3) (dp_mono (sep_prev e2) h3)) E
theorem evn_meth (h : Ev ta σ H (.ref p)) (ho : H p = some (.ins C dx fs)) (hl : fs.lookup m = none) (ha : EvA tA σ H vs) (hs : SpN K B sp (.ref p :: (vs ++ dvs)) H d) : EvN K B (tMeth C m sp dvs E ta tA) σ H d := fun H1 e Q q =>
  h H1 e _ fun H2 e2 => ⟨p, dx, fs, rfl, (e.trans e2) p _ ho, hl, ha H2 (e.trans e2) _ fun H3 e3 => hs H3 ((e.trans e2).trans e3) Q (fun v H4 e4 h4 => q v H4 ((e2.trans e3).trans e4) (dp_mono (sep_prev (e2.trans e3)) h4)) E⟩
/-- a def that is given data: its promise holds for whatever heap the data stand in -/
def SpF (K : PySem.W.Frag) (sp : Sp) (ds : List PyData) (d : PyData) : Prop := ∀ (B H : Hp) (vs : List V), Ex B H → DpAll K B vs ds → ∀ Q : VK, RetN K B d H Q → ∀ E : XK, sp vs H Q E
theorem evn_callF (hb : Ex B H) (ha : EvAN K B tA σ H ds) (hs : SpF K sp ds d) : EvN K B (tCall sp [] E tA) σ H d := fun H1 e Q q =>
  ha H1 e _ fun vs H2 e2 hv => hs (Sep B H1 H2) H2 (vs ++ []) sep_ex (by rw [List.append_nil]; exact hv) Q (fun v H3 e3 h3 => q v H3 (e2.trans e3) (dp_mono (sep_sep e2) h3)) E
/-- [e for x in a list], e data -/
theorem evn_lcL (hb : Ex B H) (h : Ev tl σ H (.ref a)) (hx : SqL K H a xs) (hz : xs.length ≤ 40000) (hw : ∀ x, wipe ((wipe σ js).set j (some x)) js = wipe σ js) (hl : ds.length = xs.length)
    (he : ∀ (i : Nat) (x : V) (d : PyData), xs[i]? = some x → ds[i]? = some d → EvN K B te ((wipe σ js).set j (some x)) H d) : EvN K B (tLc (iList K tl) (gName j) tYes te js) σ H (.list ds) := fun H1 e Q q => h H1 e _ fun H2 e2 => ⟨a, rfl, ⟨xs, ex_l (e.trans e2) hx⟩, fun Dl hD => by
  have hB : B Dl = none := fresh_back (hb.trans (e.trans e2)) hD
  have h1D : H1 Dl = none := fresh_back e2 hD
  refine lc_list (xs := xs) (fun i H' => ∃ ys, Ex H2 H' ∧ H' Dl = some (.lst ys) ∧ DpAll K (Sep B H1 (del H' Dl)) ys (ds.take i)) ⟨[], Ex.new hD, upd_same, by rw [List.take_zero]; exact .nil⟩ (fun i H' _ p => ?_) (fun i x H' hi p => ?_) (fun H' p => ?_)
  · obtain ⟨ys, e3, _, _⟩ := p
    exact ex_l ((e.trans e2).trans e3) hx
  · obtain ⟨ys, e3, hy, hd⟩ := p
    have hlt : i < xs.length := (List.getElem?_eq_some_iff.mp hi).1
    obtain ⟨d0, hd0⟩ : ∃ d0, ds[i]? = some d0 := ⟨ds[i], List.getElem?_eq_getElem (by omega)⟩
    refine ⟨hw x, ?_⟩
    unfold tYes
    refine iteT ?_
    refine he i x d0 hi hd0 H' ((e.trans e2).trans e3) _ fun v H3 e4 hv => ⟨ys, e4 Dl _ hy, ?_, ys ++ [v], Ex.mut (e3.trans e4) hD, upd_same, ?_⟩
    · have := dp_len hd
      rw [this, List.length_take]
      exact sz_lt (by omega)
    · have hn : H' Dl ≠ none := by rw [hy]; exact fun z => by cases z
      have f1 : Ex (Sep B H' H3) (Sep B H1 (del (upd H3 Dl (.lst (ys ++ [v]))) Dl)) := fun b o hbo => by
        obtain ⟨q1, q2⟩ := sep_out hbo
        have hbD : b ≠ Dl := fun z => by subst z; rw [sep_off hn hB] at hbo; cases hbo
        exact sep_in (by rw [del_ne hbD, upd_ne hbD]; exact q2) (q1.imp (fresh_back (e2.trans e3)) id)
      have f2 : Ex (Sep B H1 (del H' Dl)) (Sep B H1 (del (upd H3 Dl (.lst (ys ++ [v]))) Dl)) := fun b o hbo => by
        obtain ⟨q1, q2⟩ := sep_out hbo
        have hbD : b ≠ Dl := fun z => by subst z; rw [del_same] at q2; cases q2
        rw [del_ne hbD] at q2
        exact sep_in (by rw [del_ne hbD, upd_ne hbD]; exact e4 b o q2) q1
      have et : ds.take (i + 1) = ds.take i ++ [d0] := by rw [List.take_add_one, hd0] <;> rfl
      rw [et]
      exact dp_app (dp_monoAll f2 hd) (.cons (dp_mono f1 hv) .nil)
  · obtain ⟨ys, e3, hy, hd⟩ := p
    rw [← hl, List.take_length] at hd
    have f3 : Ex (Sep B H1 (del H' Dl)) (Sep B H1 H') := fun b o hbo => by
      obtain ⟨q1, q2⟩ := sep_out hbo
      have hbD : b ≠ Dl := fun z => by subst z; rw [del_same] at q2; cases q2
      rw [del_ne hbD] at q2
      exact sep_in q2 q1
    exact q _ H' (e2.trans e3) (.lst (sq_of (sep_in hy (.inl h1D))) (dp_monoAll f3 hd))⟩
/-- the statements -/
theorem q_asgN (h : EvN K B te σ H d) (k : ∀ v H1, Ex H H1 → Dp K (Sep B H H1) v d → tz D (σ.set i (some v)) H1) : tSeq (tAsg te (gName i)) tz D σ H := h H (Ex.refl H) _ k
theorem s_retN (h : EvN K B te σ H d) (k : ∀ v H1, Ex H H1 → Dp K (Sep B H H1) v d → D.rt v H1) : tRet te D σ H := h H (Ex.refl H) _ k
end G
end
section
set_option maxHeartbeats 2000000
/-! xs.extend(a tuple), t[::-1] of a tuple -/
namespace SX
open PySem PySem.Spec PyProof.Rows L2
open MeetsSeq MeetsSeq2 MeetsSeq3 SeqRoads2
/-- xs.extend(t): the object of the tuple may be any -/
theorem extend_tup {l b : Addr} {xs ys : Array Value} {n m : Nat} {o : Obj} (hc : o.cls = .type "tuple") (hd : o.data = .seq ys m) (z1 : xs.size ≤ sizeLine) (z2 : xs.size + ys.size ≤ sizeLine) :
    Meets (Builtin.«list.extend» ⟨[.ref l, .ref b], []⟩) (fun _ R s => s.heap.get? l = some (seqObj "list" xs n) ∧ s.heap.get? b = some o ∧ R (.ok (.ret .none)) { s with heap := s.heap.update l (Obj.mapSeq (· ++ ys)) }) :=
  .of_wp fun P w A R s ⟨el, eb, q⟩ => by
    show wpAny (model P w) A.in1 ((pure (Value.ref l, Value.ref b) : Sem (Value × Value)) >>= fun p => Builtin.List.listExtendWith p.1 p.2 .none) _ _ s
    refine wpAny_bind (wpAny_pure ?_)
    dsimp only
    unfold Builtin.List.listExtendWith Builtin.List.listItems
    refine wpAny_bind (wpAny_typeOf ⟨o, eb, hc⟩ ?_)
    rw [if_pos (by simp)]
    refine wpAny_bind (wpAny_bind (wpAny_seqItems eb hd (wpAny_pure (wpAny_bind (wpAny_bind (wpAny_seqItems el rfl (wpAny_pure ?_)))))))
    dsimp only
    rw [if_neg (by rw [notLongL z2, Bool.and_false]; exact Bool.false_ne_true)]
    exact wpAny_bind (wpAny_updateSeq el rfl (wpAny_pure ⟨_, rfl, q⟩) z1 (by rw [Array.size_append]; omega))
def rExtT (K : PySem.W.Frag) : V → List V → Hp → VK → Prop := fun x vs H Q => ∃ l b xs zs, x = .ref l ∧ vs = [.ref b] ∧ H l = some (.lst xs) ∧ SqT K H b zs ∧ xs.length + zs.length ≤ sizeLine ∧ Q .non (upd H l (.lst (xs ++ zs)))
theorem mt_extT {X : Cx} {K : PySem.W.Frag} (hK : X.K = K) : MtR X "list.extend" (rExtT K) := by
  rintro pins s σ H _ _ v us Q I rx rv ⟨l, b, xs, zs, rfl, rfl, hH, hB, hz, q⟩
  subst hK
  cases rx
  obtain ⟨_, rfl, ru⟩ := rv.one
  cases ru
  obtain ⟨z1, own, n, ro, _, el⟩ := I.lstM hH
  obtain ⟨its, rt, ⟨o, eb, hc, m, hd⟩, _⟩ := I.tuple hB
  have n1 := ro.length
  have n2 := rt.length
  refine call_meets PySem.F.slot_list_extend ⟨_, el, rfl⟩ PySem.F.entry_list_extend (PySem.F.args_list_extend_2 _ _) (extend_tup (xs := own.toArray) (n := n) hc hd (by rw [List.size_toArray]; omega) (by simp only [List.size_toArray]; omega)) ⟨el, eb, ?_⟩
  exact ⟨.non, _, I.lset (its' := own ++ its) hH el (by simp) (ro.append rt) (by rw [List.length_append]; omega), rfl, q⟩
/-! ### t[::-1] -/
theorem back_places (n : Nat) : Builtin.Slice.slicePlaces ((n : Int) - 1) (-1) (-1) = n := by
  unfold Builtin.Slice.slicePlaces
  simp only [show ¬ (0 : Int) < -1 by decide, if_false]
  rcases n with _ | n
  · decide
  · simp only [Int.neg_neg, Int.ediv_one]
    split <;> omega
theorem back_pick (xs : Array Value) : ((List.range xs.size).filterMap fun (k : Nat) => xs[((xs.size : Int) - 1 + (k : Int) * (-1)).toNat]?).toArray = xs.toList.reverse.toArray := by
  have e : ((List.range xs.size).map fun k => xs.size - 1 - k).filterMap (xs[·]?) = xs.toList.reverse := by
    rw [PySem.W.krv_range, List.filterMap_reverse, PySem.W.krv_all]
  rw [← e, List.filterMap_map]
  congr 2
  funext k
  rw [show ((xs.size : Int) - 1 + (k : Int) * (-1)).toNat = xs.size - 1 - k by omega] <;> rfl
section
variable {P : Program} {w : World} {A : Around} {E : Value → Shared → Prop} {s : Shared}
theorem back_applied {sl : Addr} {n : Nat} {tk : Tok} (hs : s.heap.IsSliceOf sl .none .none (.int (-1) tk)) :
    wpAny (model P w) A (Builtin.Slice.sliceApplied (.ref sl) (pure (n : Int))) (fun r s' => r = ((n : Int) - 1, -1, n) ∧ s' = s) E s := by
  obtain ⟨o, ho, _, hd⟩ := hs
  have e : Builtin.Slice.sliceAdjust none none (-1) (n : Int) = ((n : Int) - 1, -1) := rfl
  unfold Builtin.Slice.sliceApplied Builtin.Slice.sliceFields
  refine wpAny_bind (wpAny_bind (wpAny_field ho hd rfl (wpAny_bind (wpAny_field ho hd rfl (wpAny_bind (wpAny_field ho hd rfl (wpAny_pure ?_)))))))
  dsimp only
  refine wpAny_bind (slicePart_int (wpAny_bind (slicePart_none (wpAny_bind (slicePart_none (wpAny_bind (wpAny_pure ?_)))))))
  exact wpAny_pure ⟨by
    simp only [Option.getD_some, e, back_places], rfl⟩
theorem getItem_back {t sl : Addr} {xs : Array Value} {tk : Tok} {Q : Value → Shared → Prop} (ht : IsTup s.heap t xs) (hs : s.heap.IsSliceOf sl .none .none (.int (-1) tk)) (hz : xs.size ≤ sizeLine)
    (q : Q (.ref s.heap.objs.size) { s with heap := s.heap.push { cls := .type "tuple", data := .seq xs.toList.reverse.toArray } }) : wpAny (model P w) A (getItem (.ref t) (.ref sl)) Q E s := by
  have isS : s.TypeIs (.ref sl) "slice" := let ⟨o, ho, hc, _⟩ := hs; ⟨o, ho, hc⟩
  have fits : sizeOk (.seq xs.toList.reverse.toArray) := by
    show xs.toList.reverse.toArray.size ≤ sizeLine
    simpa using hz
  have go : ∀ (A : Around) E, wpAny (model P w) A (Builtin.«tuple.__getitem__» ⟨[.ref t, .ref sl], []⟩) (fun fin s' => fin = .done (.ret (.ref s.heap.objs.size)) ∧ s' = { s with heap := s.heap.push { cls := .type "tuple", data := .seq xs.toList.reverse.toArray } }) E s := fun A E => by
    refine wpAny_bind (m := Builtin.Tuple.tupleItemsOf (.ref t)) (tupleItemsOf_ ht (wpAny_bind (wpAny_typeOf isS ?_)))
    rw [if_pos (by decide)]
    refine wpAny_bind (wpAny_mono (back_applied hs) ?_ fun _ _ x => x)
    rintro _ _ ⟨rfl, rfl⟩
    dsimp only
    rw [if_neg (by simp), back_pick]
    exact wpAny_bind (m := Builtin.Tuple.tupleExact _) (wpAny_newObj_type (wpAny_pure ⟨rfl, rfl⟩) fits)
  unfold getItem
  refine wpAny_holding (wpAny_bind (wpAny_sequenceKey ht.typeIs (by decide) (wpAny_bind ?_)))
  refine wpAny_callSpecial?_slot (name := Str.ofString "__getitem__") ht.typeIs slot_tuple_getitem (wpAny_call_entry slot_tuple_getitem ht.typeIs entry_tuple_getitem (wpAny_mono (go _ _) ?_ fun _ _ x => x) (args_tuple_getitem _ _))
  rintro _ _ ⟨rfl, rfl⟩
  exact ⟨_, rfl, wpAny_pure q⟩
end
def tRevT (K : PySem.W.Frag) (te : TE) : TE := fun σ H Q => te σ H fun x H1 => ∃ a xs, x = .ref a ∧ SqT K H1 a xs ∧ ∀ p, H1 p = none → Q (.ref p) (upd H1 p (.tup xs.reverse))
theorem pe_revT {X : Cx} {K : PySem.W.Frag} (hK : X.K = K) {e : Expr} {te : TE} {k : Nat} {p1 p2 p3 pos : Pos} (he : PE X e te) : PE X (.Subscript e (.Slice none none (some (.UnaryOp .USub (.Constant (.int 1) k p1) p2)) p3) pos) (tRevT K te) := by
  subst hK
  have last : PO X (some (.UnaryOp .USub (.Constant (.int 1) k p1) p2)) (tPart (tUn (rU fun i => .int (-i)) (tC (.int 1)))) := po_some (pe_un un_neg pe_int)
  refine ⟨fun pins s σ H Q I h => Subscript_ (thn (he.run pins s σ H _ I h) ?_)⟩
  rintro _ s1 ⟨_, H1, I1, rt, a, xs, rfl, hx, q⟩
  cases rt
  refine wpAny_Slice (thn (po_none.run pins s1 σ H1 (fun o H2 => o = none ∧ H2 = H1) I1 ⟨rfl, rfl⟩) ?_)
  rintro vl s2 ⟨_, _, I2, pl, rfl, rfl⟩
  refine thn (po_none.run pins s2 σ _ (fun o H3 => o = none ∧ H3 = _) I2 ⟨rfl, rfl⟩) ?_
  rintro vu s3 ⟨_, _, I3, pu, rfl, rfl⟩
  refine thn (last.run pins s3 σ _ (fun o H4 => o = some (-1) ∧ H4 = _) I3 ⟨1, rfl, -1, rfl, rfl, rfl⟩) ?_
  rintro vs s4 ⟨_, _, I4, ps, rfl, rfl⟩
  cases pl
  cases pu
  obtain ⟨tk, rfl⟩ : ∃ tk, vs = Value.int (-1) tk := by cases ps; exact ⟨_, rfl⟩
  have grow : ∀ b o, s4.heap.get? b = some o → (s4.heap.push { cls := .type "slice", data := .fields #[.none, .none, .int (-1) tk] }).get? b = some o := fun b o => Heap.get?_push_of_some _
  have I5 := I4.kept (t' := s4.toks) grow
  obtain ⟨its, r, ht, hz⟩ := I5.tuple hx
  have len := r.length
  refine tail_any (ops := [.ref a, .ref s4.heap.objs.size]) ht.typeIs slot_tuple_getitem.lookup (getItem_back ht (Heap.IsSliceOf.new _ .none .none (.int (-1) tk)) (by rw [List.size_toArray]; omega) ?_) (by with_unfolding_all rfl)
  exact ⟨.ref _, _, I5.laid (t' := s4.toks) (o := .tup xs.reverse) (fun b o => Heap.get?_push_of_some _) (Nat.le_refl _) ⟨by rw [List.length_reverse]; exact hz, _, r.reverse, IsTup.new _ _⟩, rfl, q _ (I5.hok.fresh (Nat.le_refl _))⟩
end SX
end
section
set_option maxHeartbeats 2000000
/-! set(xs), whatever stands in xs: a list or a tuple is walked, and each item added -/
namespace ZS
open PySem PySem.Spec PyProof.Rows L2
open PySem.Froz (sObj)
section
variable {P : Program} {w : World} {A : Around} {E : Value → Shared → Prop} {s : Shared}
/-- nothing but the set at S and the count of tokens has changed, and J is true behind it -/
def Only (S : Addr) (J : Heap → Prop) (s s' : Shared) : Prop := ∃ h' tk, s' = { s with heap := h', toks := tk } ∧ Heap.SameBut S s.heap h' ∧ J h'
theorem fill {I S : Addr} {fp wr : List Addr} {n : Nat} {Pv : Nat → Value → Prop} {St : Nat → Heap → Prop} {J : Nat → Heap → Prop}
    (W : Walks P w A.in1 I fp wr n Pv St) (hS : S ∉ fp) (keep : ∀ i h h', J i h → (∀ b o, b ∉ wr → h.get? b = some o → h'.get? b = some o) → J i h')
    (add : ∀ i v (s : Shared) (E : Value → Shared → Prop), i < n → Pv i v → J i s.heap → wpAny (model P w) A.in1 (setAdd S v) (fun _ => Only S (J (i + 1)) s) E s) :
    ∀ (m i : Nat) (s : Shared), i + m = n → St i s.heap → J i s.heap → codeAny (model P w) A (.builtin "set.update.loop" ⟨[.ref S, .ref I], []⟩)
      (fun r s' => r = .ok (.ret .none) ∧ ∃ h' tk, s' = { s with heap := h', toks := tk } ∧ J n h' ∧ ∀ b o, b ≠ S → b ∉ wr → s.heap.get? b = some o → h'.get? b = some o) s
  | 0, i, s, e, st, j => by
    obtain rfl : i = n := e
    refine codeAny_builtin F.entry_set_update_loop (Around.under_plainId F.plain_set_update_loop _ ▸ ?_)
    exact wpAny_bind (m := pyNext (.ref I)) (W.done s _ _ st fun h' tk k => wpAny_pure ⟨rfl, h', tk, rfl, keep _ _ _ j k, fun b o _ => k b o⟩)
  | m + 1, i, s, e, st, j => by
    refine codeAny_builtin F.entry_set_update_loop (Around.under_plainId F.plain_set_update_loop _ ▸ ?_)
    refine wpAny_bind (m := pyNext (.ref I)) (W.item i s _ _ (by omega) st fun v h1 t1 pv st1 k => ?_)
    refine wpAny_bind (m := holding [v] (setAdd S v)) (wpAny_holding (wpAny_mono (add i v _ _ (by omega) pv (keep _ _ _ j k)) ?_ fun _ _ x => x))
    rintro _ _ ⟨h2, t2, rfl, sb, j2⟩
    refine wpAny_pure ⟨plainId_quiet F.plain_set_update_loop _, codeAny_mono (fill W hS keep add m (i + 1) _ (by omega) (W.frame _ _ _ st1 fun b hb o q => (sb.2 b fun z => hS (z ▸ hb)).trans q) j2) ?_⟩
    rintro _ _ ⟨rfl, h3, t3, rfl, j3, k3⟩
    exact ⟨rfl, h3, t3, rfl, j3, fun b o hb hw q => k3 b o hb hw ((sb.2 b hb).trans (k b o hw q))⟩
/-- a set that was just made -/
abbrev bare (w : World) : Obj := sObj "set" (#[], 0, .fresh 0 0 (!w.params.followText "set-order"))
theorem call_of {l : Addr} {T : String} {Q : Value → Shared → Prop} (hT : s.TypeIs (.ref l) T) (f1 : isSubtype (.type T) (.type "set") = pure false) (f2 : isSubtype (.type T) (.type "frozenset") = pure false)
    (f3 : (Value.type T == Value.type "dict") = false)
    (go : ∀ E', wpAny (model P w) A.in1.in1 (pyIter (.ref l)) (fun it s2 => codeAny (model P w) A.in1.in1 (.builtin "set.update.loop" ⟨[.ref s.heap.objs.size, it], []⟩) (fun r s3 => r = .ok (.ret .none) ∧ Q (.ref s.heap.objs.size) s3) s2) E' { s with heap := s.heap.push (bare w) }) :
    wpAny (model P w) A (call (.type "set") [.ref l]) Q E s := by
  have ft := PySem.F.called_set
  have made := ft.made
  have sub := ft.sub
  have no := ft.notType
  have can := ft.canCreate
  have one := PySem.F.typeCall_set_1 (.ref l)
  obtain ⟨_, _, mro⟩ := ft.mro
  refine wpAny_call (codeAny_of_tree (wpAny_pure ⟨Code.quiet_builtin _ (by decide +kernel), codeAny_builtin PySem.F.entry_type_call (Around.under_plain (weight_type_call_type "set" [.ref l] []) rfl ▸ ?_)⟩))
  repeat (any_goals (first | assumption | wp_step))
  refine codeAny_mono (R := wants (fun v t => v = .ref s.heap.objs.size ∧ t = { s with heap := s.heap.push (bare w) }) E) (code_set_led1 _ ⟨rfl, rfl⟩) ?_
  rintro (e | _ | v | _ | _) s1 h1 <;> try exact h1
  obtain ⟨rfl, rfl⟩ := h1
  have there : (s.heap.push (bare w)).get? s.heap.objs.size = some (bare w) := Heap.get?_push_size _ rfl
  have isS : Shared.TypeIs { s with heap := s.heap.push (bare w) } (.ref s.heap.objs.size) "set" := ⟨_, there, rfl⟩
  have look := ft.init.lookup
  have bnd := ft.init.bind (.ref s.heap.objs.size)
  repeat (any_goals (first | assumption | wp_step))
  refine codeAny_mono (R := wants (fun v s3 => v = .none ∧ Q (.ref s.heap.objs.size) s3) E) (codeAny_call_builtin ft.init.plain PySem.F.entry_set_init (check_set_init_1 isS ?_)) ?_
  · obtain ⟨o, ho, hc⟩ := hT
    have hT1 : Shared.TypeIs { s with heap := s.heap.push (bare w) } (.ref l) T := ⟨o, Heap.get?_push_of_some _ ho, hc⟩
    unfold Builtin.«set.__init__» noKeywords Builtin.Frozenset.updateFrom
    generalize hg : pyIter = G at go ⊢
    wp_walk
    refine wpAny_mono (go _) (fun it s2 h2 => wpAny_bind (wpAny_runValue (codeAny_mono h2 ?_))) fun _ _ x => x
    rintro _ s3 ⟨rfl, q⟩
    exact wpAny_pure (wpAny_pure ⟨rfl, q⟩)
  · rintro (e | _ | v | _ | _) s3 h3 <;> try exact h3
    obtain ⟨rfl, q⟩ := h3
    repeat (any_goals (first | assumption | wp_step))
theorem apart {l S : Nat} (h : l < S) : S ∉ [S + 1, l] ∧ l ≠ S + 1 ∧ l ∉ [S + 1] := by
  refine ⟨fun z => ?_, by omega, fun z => ?_⟩
  · rcases List.mem_cons.mp z with z | z
    · omega
    · have := List.mem_singleton.mp z
      omega
  · have := List.mem_singleton.mp z
    omega
/-- set(xs), xs a list or a tuple: what stays true as the items are added one by one -/
theorem call_set {l : Addr} {us : Array Value} {J : Nat → Heap → Prop} {Q : Value → Shared → Prop} (src : s.heap.IsList l us ∨ s.heap.IsTuple l us) (hh : A.handled = none)
    (j0 : ∀ h, h.get? s.heap.objs.size = some (bare w) → (∀ b o, s.heap.get? b = some o → h.get? b = some o) → J 0 h)
    (keep : ∀ i h h', J i h → (∀ b o, b ≠ s.heap.objs.size + 1 → h.get? b = some o → h'.get? b = some o) → J i h')
    (add : ∀ i v (s1 : Shared) (E : Value → Shared → Prop), us[i]? = some v → J i s1.heap → wpAny (model P w) A.in1.in1.in1 (setAdd s.heap.objs.size v) (fun _ => Only s.heap.objs.size (J (i + 1)) s1) E s1)
    (q : ∀ h' tk, J us.size h' → (∀ b o, s.heap.get? b = some o → h'.get? b = some o) → Q (.ref s.heap.objs.size) { s with heap := h', toks := tk }) :
    wpAny (model P w) A (call (.type "set") [.ref l]) Q E s := by
  have hd : A.in1.in1.in1.handled = none := by simp [hh]
  have old : ∀ b o, s.heap.get? b = some o → (s.heap.push (bare w)).get? b = some o := fun b o e => Heap.get?_push_of_some _ e
  have sz : (s.heap.push (bare w)).objs.size = s.heap.objs.size + 1 := Heap.size_push ..
  have new : (s.heap.push (bare w)).get? s.heap.objs.size = some (bare w) := Heap.get?_push_size _ rfl
  have fin : ∀ (T : String) (L : l < s.heap.objs.size) (St : Nat → Heap → Prop) (ob : Obj), St 0 ((s.heap.push (bare w)).push ob) →
      Walks P w A.in1.in1.in1 (s.heap.push (bare w)).objs.size [(s.heap.push (bare w)).objs.size, l] [(s.heap.push (bare w)).objs.size] us.size (fun i v => us[i]? = some v) St →
      codeAny (model P w) A.in1.in1 (.builtin "set.update.loop" ⟨[.ref s.heap.objs.size, .ref (s.heap.push (bare w)).objs.size], []⟩) (fun r s3 => r = .ok (.ret .none) ∧ Q (.ref s.heap.objs.size) s3) { s with heap := (s.heap.push (bare w)).push ob } := by
    intro T L St ob st W
    rw [sz] at W ⊢
    have two : ∀ b o, s.heap.get? b = some o → ((s.heap.push (bare w)).push ob).get? b = some o := fun b o e => Heap.get?_push_of_some _ (old b o e)
    refine codeAny_mono (fill W (apart L).1 (fun i h h' j k => keep i h h' j fun b o hb => k b o (by simpa using hb)) (fun i v s1 E _ pv j => add i v s1 E pv j) us.size 0 _ (Nat.zero_add _) st (j0 _ (Heap.get?_push_of_some _ new) two)) ?_
    rintro _ _ ⟨rfl, h', tk, rfl, j, k⟩
    exact ⟨rfl, q h' tk j fun b o e => k b o (Nat.ne_of_lt (Heap.lt_size e)) (apart (Heap.lt_size e)).2.2 (two b o e)⟩
  rcases src with src | src
  · have L : l < s.heap.objs.size := by obtain ⟨o, ho, _⟩ := src; exact Heap.lt_size ho
    refine call_of src.typeIs PySem.F.sub_list_set PySem.F.sub_list_frozenset (by decide) fun E' => wpAny_pyIter_list (src.push _) (fin "list" L _ _ ⟨⟨_, Heap.get?_push_size _ rfl, rfl, rfl⟩, (src.push _).push _⟩ (Walks.list hd _ l ?_ us))
    rw [sz]; exact (apart L).2.1
  · have L : l < s.heap.objs.size := by obtain ⟨o, ho, _⟩ := src; exact Heap.lt_size ho
    refine call_of src.typeIs PySem.F.sub_tuple_set PySem.F.sub_tuple_frozenset (by decide) fun E' => wpAny_pyIter_tuple (src.push _) (fin "tuple" L _ _ ⟨⟨_, Heap.get?_push_size _ rfl, rfl, rfl⟩, (src.push _).push _⟩ (Walks.tuple hd _ l ?_ us))
    rw [sz]; exact (apart L).2.1
end
end ZS
end
section
set_option maxHeartbeats 2000000
/-! sets whose members are found by a scan: ints, texts, bools, None -/
namespace ZS
open PySem PySem.Spec PyProof.Rows L2
open PySem.Froz (sObj SD tailTx addTail_x)
section
variable {P : Program} {w : World} {A : Around} {E : Value → Shared → Prop} {s : Shared} {K : Type} [DecidableEq K] [BEq K] [LawfulBEq K] {knd : KeyKind P w K}
def Apart (knd : KeyKind P w K) (e e' : Int × Value) : Prop := ∀ k, ¬(knd.is k e.2 = true ∧ knd.is k e'.2 = true)
/-- what a table tells that can be walked -/
structure Tab (w : World) (t : SetTable) (n : Nat) : Prop where
  fits : t.fits n = true
  ris : Ris t.place.toList
  led : w.params.followText "set-order" = true ∨ t.led = true
structure Scan (knd : KeyKind P w K) (D : SD) (L : List K) : Prop where
  el : ElemsOf knd D.1.toList
  mem : ∀ k, k ∈ L ↔ ∃ e ∈ D.1.toList, knd.is k e.2 = true
  ap : D.1.toList.Pairwise (Apart knd)
  few : D.1.size ≤ L.length
  tab : Tab w D.2.2 D.1.size
theorem Scan.perm {es es' : Array (Int × Value)} {ep ep' : Nat} {t t' : SetTable} {L : List K} (R : Scan knd (es, ep, t) L) (p : es'.toList.Perm es.toList) (T : Tab w t' es'.size) : Scan knd (es', ep', t') L where
  el := fun e he => R.el e (p.mem_iff.mp he)
  mem := fun k => (R.mem k).trans (exists_congr fun e => and_congr_left fun _ => p.mem_iff.symm)
  ap := (p.pairwise_iff fun x k z => x k z.symm).mpr R.ap
  few := by
    have := p.length_eq
    rw [Array.length_toList, Array.length_toList] at this
    exact this ▸ R.few
  tab := T
/-- the payload behind what may be a laying anew -/
theorem Scan.tail {es : Array (Int × Value)} {ep : Nat} {t : SetTable} {L : List K} (R : Scan knd (es, ep, t) L) (wd : Bool) : Scan knd (tailTx ep es t wd) L := by
  unfold tailTx
  split
  · exact R.perm (relayAll_perm t es _) ⟨relayAll_fits t es _, relayAll_ris t es _, R.tab.led.imp id fun z => (relayAll_led t es _).trans z⟩
  · exact R.perm (.refl _) R.tab
theorem is_one {k k' : K} {x : Value} (h : knd.is k x = true) : knd.is k' x = true ↔ k' = k := ⟨fun h' => knd.inj x k' k h' h, fun e => e ▸ h⟩
/-- a member more -/
theorem Scan.more {es es' : Array (Int × Value)} {ep ep' : Nat} {t t' : SetTable} {L : List K} {k : K} {x : Value} (R : Scan knd (es, ep, t) L) (hx : knd.is k x = true) (hs : x.scannable = true) (hk : k ∉ L)
    (p : es'.toList.Perm ((knd.hash k, x) :: es.toList)) (T : Tab w t' es'.size) : Scan knd (es', ep', t') (L ++ [k]) where
  el := fun e he => by
    rcases List.mem_cons.mp (p.mem_iff.mp he) with rfl | he
    · exact ⟨⟨k, hx, rfl⟩, hs⟩
    · exact R.el e he
  mem := fun k' => by
    rw [List.mem_append, List.mem_singleton, R.mem k', ← is_one hx]
    constructor
    · rintro (⟨e, he, q⟩ | q)
      · exact ⟨e, p.mem_iff.mpr (List.mem_cons_of_mem _ he), q⟩
      · exact ⟨_, p.mem_iff.mpr List.mem_cons_self, q⟩
    · rintro ⟨e, he, q⟩
      rcases List.mem_cons.mp (p.mem_iff.mp he) with rfl | he
      · exact .inr q
      · exact .inl ⟨e, he, q⟩
  ap := (p.pairwise_iff fun x k z => x k z.symm).mpr (List.pairwise_cons.mpr ⟨fun e he k' z => hk ((R.mem k).mpr ⟨e, he, ((is_one hx).mp z.1) ▸ z.2⟩), R.ap⟩)
  few := by
    have := p.length_eq
    rw [List.length_cons, Array.length_toList, Array.length_toList] at this
    rw [List.length_append]
    exact this ▸ Nat.succ_le_succ R.few
  tab := T
/-- the set at a has just the members of L -/
def ScanAt (knd : KeyKind P w K) (h : Heap) (a : Addr) (L : List K) : Prop := ∃ D, h.get? a = some (sObj "set" D) ∧ Scan knd D L
theorem scan_bare {h : Heap} {a : Addr} (e : h.get? a = some (bare w)) : ScanAt knd h a [] :=
  ⟨_, e, fun _ z => (by simp at z), fun k => by simp, .nil, Nat.le_refl _, rfl, .nil, by
    show _ ∨ (!w.params.followText "set-order") = true
    cases w.params.followText "set-order"
    · exact .inr rfl
    · exact .inl rfl⟩
theorem put_one {h : Heap} {a : Addr} {X Y : Obj} (e : h.get? a = some X) (hf : Y.isFreed = false) : (h.update a fun _ => Y).get? a = some Y := PySem.Froz.get_upd Y e hf
theorem only_refl {a : Addr} {J : Heap → Prop} (j : J s.heap) : Only a J s s := ⟨s.heap, s.toks, rfl, .refl _ _, j⟩
theorem scan_hashed {a : Addr} {L : List K} {k : K} {x : Value} (R : ScanAt knd s.heap a L) (hx : knd.is k x = true) (hs : x.scannable = true) (few : L.length + 1 < scanBound) :
    wpAny (model P w) A (setAddHashed a x (knd.hash k)) (fun _ => Only a (fun h => ScanAt knd h a (L ++ [k])) s) E s := by
  obtain ⟨⟨es, ep, t⟩, at_, R⟩ := R
  have lt : es.size < scanBound := Nat.lt_of_le_of_lt R.few (by omega)
  have say : ∀ (b : Bool) (s₁ : Shared) (Q : Unit → Shared → Prop), Q () s₁ → wpAny (model P w) A (match b with | true => rule "set.scan.the-table-gave-way" | false => pure ()) Q E s₁ := fun b _ _ q => by
    cases b
    · exact wpAny_pure q
    · exact wpAny_rule q
  unfold setAddHashed setAddHashedIn
  refine wpAny_holding (wpAny_bind (wpAny_setState_of at_ rfl R.tab.fits ?_))
  dsimp only
  rw [byScan_of hs lt R.el, if_pos rfl]
  unfold setAddByScan
  refine wpAny_bind (wpAny_bind (wpAny_rule (wpAny_bind (wpAny_setScan_of hx at_ rfl R.tab.fits R.el ?_))))
  cases hf : List.findIdx? (fun e => knd.is k e.2) es.toList with
  | some j =>
    obtain ⟨hj, is_, _⟩ := List.findIdx?_eq_some_iff_getElem.mp hf
    have inL := (R.mem k).mpr ⟨_, List.getElem_mem hj, is_⟩
    refine wpAny_pure (wpAny_pure (only_refl ⟨_, at_, R.el, fun k' => ?_, R.ap, Nat.le_trans R.few (by simp), R.tab⟩))
    rw [List.mem_append, List.mem_singleton, ← R.mem k']
    exact ⟨fun z => z.elim id fun e => e ▸ inL, .inl⟩
  | none =>
    have outL : k ∉ L := fun z => by
      obtain ⟨e, he, q⟩ := (R.mem k).mp z
      exact absurd q (by rw [List.findIdx?_eq_none_iff.mp hf e he]; decide)
    have p := layNew_perm t es (knd.hash k) x
    have T : Tab w (layNew t es (knd.hash k) x).2.1 (layNew t es (knd.hash k) x).1.size := ⟨layNew_fits .., layNew_ris _ _ _ _ R.tab.ris, R.tab.led.imp id fun z => (layNew_led ..).trans z⟩
    generalize layNew t es (knd.hash k) x = Z at p T
    obtain ⟨es1, t1, wd, gave⟩ := Z
    dsimp only at p T ⊢
    rw [Array.toList_push] at p
    have p := p.trans (List.perm_append_singleton _ _)
    have lt1 : es1.size < scanBound := by
      have := p.length_eq
      rw [List.length_cons, Array.length_toList, Array.length_toList] at this
      have := R.few
      dsimp only at this
      omega
    have done : ∀ t2, Tab w t2 es1.size → Only a (fun h => ScanAt knd h a (L ++ [k])) s { s with heap := s.heap.update a fun _ => sObj "set" (tailTx ep es1 t2 wd) } := fun t2 T2 =>
      ⟨_, s.toks, rfl, .update .., _, put_one at_ rfl, (R.more hx hs outL p T2).tail wd⟩
    refine wpAny_bind (say _ _ _ ?_)
    split
    · rw [hashByValue_scannable 8 hs]
      refine wpAny_bind (wpAny_pure (addTail_x say at_ lt1 (wpAny_pure (done _ ?_))))
      split
      · exact T
      · exact ⟨SetTable.fits_plain_off T.fits, T.ris, T.led⟩
    · exact wpAny_bind (wpAny_pure (addTail_x say at_ lt1 (wpAny_pure (done _ T))))
theorem scan_add {a : Addr} {L : List K} {k : K} {x : Value} (R : ScanAt knd s.heap a L) (hx : knd.is k x = true) (hs : x.scannable = true) (few : L.length + 1 < scanBound) :
    wpAny (model P w) A (setAdd a x) (fun _ => Only a (fun h => ScanAt knd h a (L ++ [k])) s) E s := by
  unfold setAdd
  refine wpAny_holding (wpAny_bind (knd.pyHash hx (wpAny_mono (scan_hashed (s := { s with toks := s.toks + 1 }) R hx hs few) ?_ fun _ _ z => z)))
  rintro _ _ ⟨h', tk, rfl, sb, j⟩
  exact ⟨h', tk, rfl, sb, j⟩
/-- set(xs), xs a list or tuple of what a scan finds -/
theorem call_scan {l : Addr} {us : Array Value} {L : List K} {Q : Value → Shared → Prop} (src : s.heap.IsList l us ∨ s.heap.IsTuple l us) (hh : A.handled = none) (few : L.length < scanBound)
    (is_ : PySem.W.EachIs (fun v k => knd.is k v = true ∧ v.scannable = true) us.toList L)
    (q : ∀ h' tk, ScanAt knd h' s.heap.objs.size L → (∀ b o, s.heap.get? b = some o → h'.get? b = some o) → Q (.ref s.heap.objs.size) { s with heap := h', toks := tk }) :
    wpAny (model P w) A (call (.type "set") [.ref l]) Q E s := by
  have len : us.size = L.length := by rw [← Array.length_toList, PySem.W.EachIs.length is_]
  have atI : ∀ {us : List Value} {L : List K}, PySem.W.EachIs (fun v k => knd.is k v = true ∧ v.scannable = true) us L → ∀ (i : Nat) (v : Value), us[i]? = some v → ∃ k, L[i]? = some k ∧ knd.is k v = true ∧ v.scannable = true := by
    intro us L h
    induction h with
    | nil => intro i v e; simp at e
    | cons h _ ih =>
      intro i v e
      cases i with
      | zero => cases e; exact ⟨_, rfl, h⟩
      | succ i => exact ih i v e
  refine call_set (J := fun i h => ScanAt knd h s.heap.objs.size (L.take i)) src hh (fun h e _ => scan_bare e) (fun i h h' ⟨D, e, R⟩ k => ⟨D, k _ _ (Nat.ne_of_lt (Nat.lt_succ_self _)) e, R⟩) (fun i v s1 E pv R => ?_) fun h' tk R k => q h' tk ?_ k
  · obtain ⟨k, hk, hx, hs⟩ := atI is_ i v (by rw [Array.getElem?_toList]; exact pv)
    have lt : i < L.length := (List.getElem?_eq_some_iff.mp hk).1
    have e : L.take (i + 1) = L.take i ++ [k] := by rw [List.take_add_one, hk] <;> rfl
    rw [e]
    exact scan_add R hx hs (by rw [List.length_take]; omega)
  · rw [len, List.take_length] at R
    exact R
end
end ZS
end
section
set_option maxHeartbeats 2000000
/-! sorted(a set), by what its members read as -/
namespace ZS
open PySem PySem.Spec PyProof.Rows L2
open PySem.Froz (sObj SD)
theorem each_of {α β : Type} {R : α → β → Prop} : ∀ (l : List α), (∀ a ∈ l, ∃ b, R a b) → ∃ bs, PySem.W.EachIs R l bs
  | [], _ => ⟨[], .nil⟩
  | a :: l, h => by
    obtain ⟨b, hb⟩ := h a List.mem_cons_self
    obtain ⟨bs, hs⟩ := each_of l fun x hx => h x (List.mem_cons_of_mem _ hx)
    exact ⟨b :: bs, .cons hb hs⟩
theorem each_mem_iff {α β : Type} {R : α → β → Prop} (one : ∀ a b b', R a b → R a b' → b = b') : ∀ {l : List α} {bs : List β}, PySem.W.EachIs R l bs → ∀ b, b ∈ bs ↔ ∃ a ∈ l, R a b
  | _, _, .nil, b => by simp
  | _, _, .cons h hs, b => by
    have ih := each_mem_iff one hs b
    constructor
    · intro z
      rcases List.mem_cons.mp z with rfl | z
      · exact ⟨_, List.mem_cons_self, h⟩
      · obtain ⟨a, ha, r⟩ := ih.mp z
        exact ⟨a, List.mem_cons_of_mem _ ha, r⟩
    · rintro ⟨a, ha, r⟩
      rcases List.mem_cons.mp ha with rfl | ha
      · exact one _ _ _ r h ▸ List.mem_cons_self
      · exact List.mem_cons_of_mem _ (ih.mpr ⟨a, ha, r⟩)
theorem each_nodup {α β : Type} {R : α → β → Prop} (one : ∀ a b b', R a b → R a b' → b = b') : ∀ {l : List α} {bs : List β}, PySem.W.EachIs R l bs → l.Pairwise (fun a a' => ∀ b, ¬(R a b ∧ R a' b)) → bs.Nodup
  | _, _, .nil, _ => .nil
  | _, _, .cons h hs, p => by
    obtain ⟨p1, p2⟩ := List.pairwise_cons.mp p
    refine List.nodup_cons.mpr ⟨fun z => ?_, each_nodup one hs p2⟩
    obtain ⟨a, ha, r⟩ := (each_mem_iff one hs _).mp z
    exact p1 a ha _ ⟨h, r⟩
section
variable {P : Program} {w : World} {A : Around} {E : Value → Shared → Prop} {s : Shared}
theorem sorted_of {a : Addr} {D : SD} {β : Type} {R : Value → β → Prop} (enc : β → PyData) {Q : Value → Shared → Prop} (at_ : s.heap.get? a = some (sObj "set" D)) (T : Tab w D.2.2 D.1.size) (few : D.1.size < scanBound) (hh : A.handled = none)
    (one : ∀ v b b', R v b → R v b' → b = b') (ms : ∀ e ∈ D.1.toList, ∃ b, R e.2 b)
    (rd : ∀ e ∈ D.1.toList, ∀ b h', R e.2 b → (∀ c o, s.heap.get? c = some o → h'.get? c = some o) → Reads h' e.2 (enc b) [])
    (al : ∀ b b', PySem.W.alike (enc b) (enc b') = true) (so : ∀ bs : List β, PySem.W.Sortable (bs.map enc)) (dp : ∀ b, (enc b).depth ≤ 1) (hu : A.units + 8 < cLine)
    (hQ : ∀ s' p (out : List Value) (c : Nat) (bs : List β), (∀ b o, s.heap.get? b = some o → s'.heap.get? b = some o) → s'.gens = s.gens → s'.os = s.os → s.heap.objs.size ≤ p → s'.heap.get? p = some (seqObj "list" (List.toArray out) c) →
      PySem.W.EachIs R out (bs.mergeSort (PySem.W.dataLe false enc)) → (∀ v ∈ out, ∃ e ∈ D.1.toList, v = e.2) → (∀ b, b ∈ bs ↔ ∃ e ∈ D.1.toList, R e.2 b) → (D.1.toList.Pairwise (fun e e' => ∀ b, ¬(R e.2 b ∧ R e'.2 b)) → bs.Nodup) → bs.length = D.1.size → Q (.ref p) s') :
    wpAny (model P w) A (call (.builtin "sorted") [.ref a]) Q E s := by
  obtain ⟨es, ep, t⟩ := D
  refine Calls.call_function_entry kind_sorted plain_sorted entry_sorted (args_sorted1 _) ?_
  unfold Builtin.«sorted»
  refine wpAny_bind (m := checkCount "sorted" 1 1 _) (wpAny_pure ?_)
  refine wpAny_bind (collect_set (A := A.in1) hh ⟨_, at_, rfl, rfl⟩ T.fits few T.ris T.led fun s1 vs k1 hz g1 o1 pm => ?_)
  have from_ : ∀ v ∈ vs, ∃ e ∈ es.toList, v = e.2 := fun v hv => by
    obtain ⟨e, he, q⟩ := List.mem_map.mp (pm.mem_iff.mp hv)
    exact ⟨e, he, q.symm⟩
  obtain ⟨bs, eb⟩ := each_of (R := fun v b => R v b ∧ ∃ e ∈ es.toList, v = e.2) vs fun v hv => by
    obtain ⟨e, he, rfl⟩ := from_ v hv
    obtain ⟨b, hb⟩ := ms e he
    exact ⟨b, hb, e, he, rfl⟩
  have one' : ∀ v b b', (R v b ∧ ∃ e ∈ es.toList, v = e.2) → (R v b' ∧ ∃ e ∈ es.toList, v = e.2) → b = b' := fun v b b' h h' => one v b b' h.1 h'.1
  have lv : vs.length = es.size := by rw [pm.length_eq, List.length_map, Array.length_toList]
  have lb := PySem.W.EachIs.length eb
  have sl : vs.length ≤ sizeLine := by
    rw [lv, sizeLine_eq]
    unfold scanBound at few
    dsimp only at few
    omega
  have mem : ∀ b, b ∈ bs ↔ ∃ e ∈ es.toList, R e.2 b := fun b => by
    rw [each_mem_iff one' eb b]
    constructor
    · rintro ⟨v, _, r, e, he, rfl⟩
      exact ⟨e, he, r⟩
    · rintro ⟨e, he, r⟩
      exact ⟨e.2, pm.mem_iff.mpr (List.mem_map.mpr ⟨e, he, rfl⟩), r, e, he, rfl⟩
  refine wpAny_bind (wpAny_newList ?_ sl)
  have new : (s1.heap.push (seqObj "list" vs.toArray 0)).get? s1.heap.objs.size = some (seqObj "list" vs.toArray 0) := Heap.get?_push_size _ rfl
  have more : ∀ c o, s.heap.get? c = some o → (s1.heap.push (seqObj "list" vs.toArray 0)).get? c = some o := fun c o e => Heap.get?_push_of_some _ (k1 c o e)
  have all : PySem.W.AllAlike (bs.map enc) := PySem.W.AllAlike.of al
  refine wpAny_bind (wpAny_holding (PySem.W.list_sort_data (s := { s1 with heap := s1.heap.push (seqObj "list" vs.toArray 0) }) new eb (eb.mono fun v b ⟨r, e, he, z⟩ => ⟨[], by rw [z] at r ⊢; exact rd e he b _ r more, by simp⟩) all (so bs) (by rw [← lb]; exact sl) (fun b _ => ?_) fun out lo eo => ?_))
  · have := dp b
    have e1 : A.in1.units = A.units + 1 := Around.in1_units A
    omega
  · obtain ⟨c, hc⟩ := sortedHeap_at (vs := vs) (out := out.toArray) new
    refine wpAny_pure ⟨_, rfl, hQ _ s1.heap.objs.size out c bs (fun b u e => ?_) g1 o1 hz hc (eo.mono fun _ _ z => z.1) (fun v hv => ?_) mem (fun pw => each_nodup one' eb ?_) (by rw [← lb, lv])⟩
    · have q := k1 b u e
      have lt := Heap.lt_size q
      exact (sortedHeap_old (Nat.ne_of_lt lt) (by rw [size_push']; exact Nat.lt_succ_of_lt lt)).trans (Heap.get?_push_of_some _ q)
    · obtain ⟨b, _, z⟩ := PySem.W.EachIs.left eo v hv
      exact z.2
    · refine (pm.pairwise_iff fun x b z => x b z.symm).mpr (List.pairwise_map.mpr ?_)
      exact pw.imp fun x b z => x b ⟨z.1.1, z.2.1⟩
end
end ZS
end
section
set_option maxHeartbeats 2000000
/-! set(texts), sorted(a set of texts) as words -/
namespace ZS
open PySem PySem.Spec PyProof.Rows L2
/-- a call that leaves all as it was beside a new list -/
theorem inv_list {X : Cx} {pins : List (Addr × Obj)} {σ : L2.St} {H : Hp} {s s' : Shared} (I : L2.Inv X pins σ H s) {p : Addr} {out : List Value} {c : Nat} {ys : List V} (k : ∀ b o, s.heap.get? b = some o → s'.heap.get? b = some o) (g : s'.gens = s.gens) (o : s'.os = s.os)
    (hp : s.heap.objs.size ≤ p) (hg : s'.heap.get? p = some (seqObj "list" out.toArray c)) (r : Vals ys out) (hz : ys.length ≤ sizeLine) : H p = none ∧ L2.Inv X pins σ (upd H p (.lst ys)) s' := by
  have free : H p = none := I.hok.fresh hp
  exact ⟨free, I.call' (ch := []) o (Un.laid k hp free) (I.hok.laid k hp (show ObjOk X.prog X.w _ s'.heap p (.lst ys) from ⟨hz, out, c, r, hg⟩)) (g ▸ I.bare) (fun _ z => nomatch z)⟩
end ZS
namespace SX
open PySem PySem.Spec PyProof.Rows L2 ZS
/-- the set at a holds just the texts ks -/
def SetO (w : World) (a : Addr) (ks : List Str) : HO := .ext fun h => ∃ P : Program, ScanAt (strKind P w) h a ks
theorem setO_new {P : Program} {w : World} {H : Hp} {h : Heap} {a : Addr} {ks : List Str} (R : ScanAt (strKind P w) h a ks) : ObjOk P w H h a (SetO w a ks) :=
  ⟨⟨P, R⟩, let ⟨_, e, _⟩ := R; ⟨_, e⟩, fun _ _ ⟨P', D, e, S⟩ k => ⟨P', D, k _ e, S⟩⟩
theorem each_strs {P : Program} {w : World} : ∀ {ks : List Str} {us : List Value}, Vals (ks.map V.str) us → PySem.W.EachIs (fun v k => (strKind P w).is k v = true ∧ v.scannable = true) us ks
  | [], _, .nil => .nil
  | k :: ks, _, .cons ⟨t, e⟩ rs => .cons (by subst e; exact ⟨strKind_is P w k t, rfl⟩) (each_strs rs)
theorem strs_each : ∀ {ks : List Str} {us : List Value}, PySem.W.EachIs (fun v k => ∃ t, v = Value.str k t) us ks → Vals (ks.map V.str) us
  | _, _, .nil => .nil
  | _, _, .cons h hs => .cons h (strs_each hs)
theorem rising_of : ∀ (p : Str) (l : List Str), (p :: l).Pairwise (fun a b => a.cps.toList ≤ b.cps.toList) → risingS p l = true
  | _, [], _ => rfl
  | p, x :: l, h => by
    obtain ⟨h1, h2⟩ := List.pairwise_cons.mp h
    show (!PySem.Spec.ltCps x.cps.toList p.cps.toList && risingS x l) = true
    rw [rising_of x l h2, ltCps_eq, decide_eq_false (List.not_lt.mpr (h1 x List.mem_cons_self))]
    rfl
theorem sorted_of_le : ∀ (l : List Str), l.Pairwise (fun a b => a.cps.toList ≤ b.cps.toList) → sortedS l = true
  | [], _ => rfl
  | x :: l, h => rising_of x l h
section
variable {X : Cx}
def rSet (K : PySem.W.Frag) (w : World) : List V → Hp → VK → Prop := fun xs H Q => ∃ (l : Addr) (ks : List Str), xs = [V.ref l] ∧ (SqL K H l (ks.map V.str) ∨ SqT K H l (ks.map V.str)) ∧ ks.length < 4000 ∧ ∀ a, H a = none → Q (.ref a) (upd H a (SetO w a ks))
theorem cr_set (hc : X.calm = true) : CallR X (.type "set") (rSet X.K X.w) := by
  rintro pins s σ H _ us Q I r ⟨l, ks, rfl, hl, few, q⟩
  rw [Vals.ref1 r]
  have src : ∃ its, Vals (ks.map V.str) its ∧ (s.heap.IsList l its.toArray ∨ s.heap.IsTuple l its.toArray) := by
    rcases hl with hl | hl
    · obtain ⟨its, rv, pl, _⟩ := I.list hl
      exact ⟨its, rv, .inl pl.isList⟩
    · obtain ⟨its, rv, pt, _⟩ := I.tuple hl
      exact ⟨its, rv, .inr pt⟩
  obtain ⟨its, rv, src⟩ := src
  refine call_scan (knd := strKind X.prog X.w) (L := ks) src (I.ok.hd hc) (by unfold scanBound; omega) (by simpa using each_strs rv) fun h' tk R k => ?_
  exact ⟨.ref s.heap.objs.size, _, I.laid (t' := tk) k (Nat.le_refl _) (setO_new R), rfl, q _ (I.hok.fresh (Nat.le_refl _))⟩
def rSorted (w : World) : List V → Hp → VK → Prop := fun vs H Q => ∃ (a : Addr) (ks : List Str), vs = [V.ref a] ∧ H a = some (SetO w a ks) ∧ ks.length < 4000 ∧
  ∀ (ys : List Str) (p : Addr), sortedS ys = true → ys.Nodup → (∀ k, k ∈ ys ↔ k ∈ ks) → H p = none → Q (.ref p) (upd H p (.lst (ys.map V.str)))
theorem cr_sorted (hc : X.calm = true) (hu : X.A.units + 64 < cLine) : CallR X (.builtin "sorted") (rSorted X.w) := by
  rintro pins s σ H _ us Q I r ⟨a, ks, rfl, ha, few, q⟩
  rw [Vals.ref1 r]
  obtain ⟨P, D, e, S⟩ := (I.hok a _ ha).1
  have lt : D.1.size < scanBound := by
    have := S.few
    unfold scanBound
    omega
  have shape : ∀ e ∈ D.1.toList, ∃ k t, e.2 = Value.str k t ∧ ∀ k', (strKind P X.w).is k' e.2 = true ↔ k' = k := fun e he => by
    obtain ⟨⟨k, hk, _⟩, _⟩ := S.el e he
    obtain ⟨t, ht⟩ := Value.isStrOf_shape (show Value.isStrOf k e.2 = true from hk)
    exact ⟨k, t, ht, fun k' => is_one hk⟩
  have same : ∀ e ∈ D.1.toList, ∀ k, (∃ t, e.2 = Value.str k t) ↔ (strKind P X.w).is k e.2 = true := fun e he k => by
    obtain ⟨k1, t1, e1, i1⟩ := shape e he
    rw [i1 k, e1]
    exact ⟨fun ⟨t, z⟩ => by cases z; rfl, fun z => ⟨t1, by rw [z]⟩⟩
  refine sorted_of (R := fun v k => ∃ t, v = Value.str k t) PyData.str e S.tab lt (I.ok.hd hc) ?_ ?_ ?_ (fun _ _ => rfl) (fun bs => PySem.W.Sortable.others fun b => ⟨(fun z => nomatch z), (fun _ z => nomatch z)⟩) (fun _ => Nat.zero_le _) (by omega) ?_
  · rintro v b b' ⟨t, rfl⟩ ⟨t', z⟩
    cases z
    rfl
  · intro e he
    obtain ⟨k, t, h, _⟩ := shape e he
    exact ⟨k, t, h⟩
  · rintro e he b h' ⟨t, z⟩ _
    rw [z]
    exact .str b t
  · intro s' p out c bs k g o hp hg er _ mem nd len
    have pm := List.mergeSort_perm bs (PySem.W.dataLe false PyData.str)
    have ln : ((bs.mergeSort (PySem.W.dataLe false PyData.str)).map V.str).length ≤ sizeLine := by
      rw [List.length_map, pm.length_eq, len, sizeLine_eq]
      unfold scanBound at lt
      omega
    obtain ⟨free, J⟩ := inv_list I k g o hp hg (strs_each er) ln
    refine ⟨.ref p, _, J, rfl, q _ p (sorted_of_le _ ?_) (pm.nodup_iff.mpr (nd (S.ap.imp_of_mem fun ha hb z b y => z b ⟨(same _ ha b).mp y.1, (same _ hb b).mp y.2⟩))) (fun b => ?_) free⟩
    · have le := PySem.W.dataLe_str (k := fun b : Str => b)
      rw [show (PySem.W.dataLe false PyData.str) = fun a b : Str => decide (a.cps.toList ≤ b.cps.toList) from le]
      refine (List.pairwise_mergeSort (fun a b c h1 h2 => ?_) (fun a b => ?_) bs).imp fun h => of_decide_eq_true h
      · exact decide_eq_true (List.le_trans (of_decide_eq_true h1) (of_decide_eq_true h2))
      · rw [Bool.or_eq_true, decide_eq_true_eq, decide_eq_true_eq]
        exact List.le_total _ _
    · rw [pm.mem_iff, mem b, S.mem b]
      exact exists_congr fun e => and_congr_right fun he => same e he b
end
end SX
end
section
namespace TM
/-! the mathematics of lists of days -/
def onL (ns : List Int) (x : Int) : Int := ns.getD (x % (ns.length : Int)).toNat 0 + x / (ns.length : Int) * (ns.length : Int)
structure Good (ns : List Int) : Prop where
  pos : 1 ≤ ns.length
  most : ns.length ≤ 600
  up : ∀ i j : Nat, i ≤ j → j < ns.length → ns.getD i 0 ≤ ns.getD j 0
  span : ns.getD (ns.length - 1) 0 - ns.getD 0 0 ≤ (ns.length : Int)
section
variable {ns : List Int} (g : Good ns)
include g
theorem Good.posI : (0 : Int) < (ns.length : Int) := by have := g.pos; omega
theorem on_at {i : Nat} (hi : i < ns.length) (t : Int) : onL ns ((i : Int) + t * (ns.length : Int)) = ns.getD i 0 + t * (ns.length : Int) := by
  have hp := g.posI
  unfold onL
  have e1 : ((i : Int) + t * (ns.length : Int)) % (ns.length : Int) = (i : Int) := by
    rw [Int.add_mul_emod_self_right, Int.emod_eq_of_lt (by omega) (by omega)]
  have e2 : ((i : Int) + t * (ns.length : Int)) / (ns.length : Int) = t := by
    rw [Int.add_mul_ediv_right _ _ (by omega), Int.ediv_eq_zero_of_lt (by omega) (by omega), Int.zero_add]
  rw [e1, e2, Int.toNat_natCast]
theorem split_at (x : Int) : ∃ (i : Nat) (t : Int), i < ns.length ∧ x = (i : Int) + t * (ns.length : Int) := by
  have hp := g.posI
  refine ⟨(x % (ns.length : Int)).toNat, x / (ns.length : Int), ?_, ?_⟩
  · have h1 := Int.emod_nonneg x (show (ns.length : Int) ≠ 0 by omega)
    have h2 := Int.emod_lt_of_pos x hp
    omega
  · have h1 := Int.emod_nonneg x (show (ns.length : Int) ≠ 0 by omega)
    rw [Int.toNat_of_nonneg h1]
    have := Int.emod_add_mul_ediv x (ns.length : Int)
    rw [Int.mul_comm] at this
    omega
theorem on_len (x : Int) : onL ns (x + (ns.length : Int)) = onL ns x + (ns.length : Int) := by
  obtain ⟨i, t, hi, rfl⟩ := split_at g x
  have e : (i : Int) + t * (ns.length : Int) + (ns.length : Int) = (i : Int) + (t + 1) * (ns.length : Int) := by rw [Int.add_mul, Int.one_mul]; omega
  rw [e, on_at g hi, on_at g hi, Int.add_mul, Int.one_mul]; omega
theorem on_step (x : Int) : onL ns x ≤ onL ns (x + 1) := by
  obtain ⟨i, t, hi, rfl⟩ := split_at g x
  by_cases hl : i + 1 < ns.length
  · have e : (i : Int) + t * (ns.length : Int) + 1 = ((i + 1 : Nat) : Int) + t * (ns.length : Int) := by omega
    rw [e, on_at g hi, on_at g hl]
    have := g.up i (i + 1) (by omega) hl
    omega
  · have e0 : i + 1 = ns.length := by omega
    have e : (i : Int) + t * (ns.length : Int) + 1 = ((0 : Nat) : Int) + (t + 1) * (ns.length : Int) := by
      rw [Int.add_mul, Int.one_mul]; omega
    have h0 : 0 < ns.length := by omega
    rw [e, on_at g hi, on_at g h0, Int.add_mul, Int.one_mul]
    have := g.span
    have e1 : ns.length - 1 = i := by omega
    rw [e1] at this
    omega
theorem on_mono {x y : Int} (h : x ≤ y) : onL ns x ≤ onL ns y := by
  obtain ⟨k, hk⟩ : ∃ k : Nat, y = x + k := ⟨(y - x).toNat, by omega⟩
  subst hk
  clear h
  induction k with
  | zero => simp
  | succ k ih =>
    refine Int.le_trans ih ?_
    have := on_step g (x + k)
    have e : x + ((k + 1 : Nat) : Int) = x + (k : Int) + 1 := by omega
    rw [e]; exact this
end
/-- m is the first day with which y is served -/
def IsBy (ns : List Int) (y m : Int) : Prop := y ≤ onL ns m ∧ onL ns (m - 1) < y
theorem isBy_uniq {ns : List Int} (g : Good ns) {y m k : Int} (h : IsBy ns y m) (h' : IsBy ns y k) : m = k := by
  have a1 : ¬ m ≤ k - 1 := fun q => by have := on_mono g q; have := h.1; have := h'.2; omega
  have a2 : ¬ k ≤ m - 1 := fun q => by have := on_mono g q; have := h'.1; have := h.2; omega
  omega
/-- so many of ns, from the left, are below d -/
def IsCnt (ns : List Int) (d : Int) (c : Nat) : Prop := c ≤ ns.length ∧ (∀ i, i < c → ns.getD i 0 < d) ∧ ∀ i, c ≤ i → i < ns.length → d ≤ ns.getD i 0
theorem isBy_of_cnt {ns : List Int} (g : Good ns) {y : Int} {c : Nat} (h : IsCnt ns (y - (y - ns.getD 0 0 - 1) / (ns.length : Int) * (ns.length : Int)) c) :
    IsBy ns y ((c : Int) + (y - ns.getD 0 0 - 1) / (ns.length : Int) * (ns.length : Int)) := by
  have hp := g.posI
  have h0 : 0 < ns.length := by have := g.pos; omega
  generalize ht : (y - ns.getD 0 0 - 1) / (ns.length : Int) = t at *
  have hr1 := Int.emod_nonneg (y - ns.getD 0 0 - 1) (show (ns.length : Int) ≠ 0 by omega)
  have hr2 := Int.emod_lt_of_pos (y - ns.getD 0 0 - 1) hp
  have hr := Int.emod_add_mul_ediv (y - ns.getD 0 0 - 1) (ns.length : Int)
  rw [ht, Int.mul_comm] at hr
  obtain ⟨hc, hlo, hhi⟩ := h
  have c1 : 1 ≤ c := by
    refine Classical.byContradiction fun q => ?_
    have := hhi 0 (by omega) h0
    omega
  constructor
  · by_cases hl : c < ns.length
    · rw [on_at g hl]
      have := hhi c (Nat.le_refl _) hl
      omega
    · have e : c = ns.length := by omega
      have e2 : (c : Int) + t * (ns.length : Int) = ((0 : Nat) : Int) + (t + 1) * (ns.length : Int) := by rw [Int.add_mul, Int.one_mul]; omega
      rw [e2, on_at g h0, Int.add_mul, Int.one_mul]
      omega
  · have e : (c : Int) + t * (ns.length : Int) - 1 = ((c - 1 : Nat) : Int) + t * (ns.length : Int) := by omega
    rw [e, on_at g (by omega)]
    have := hlo (c - 1) (by omega)
    omega
theorem cnt_ex {ns : List Int} (g : Good ns) (d : Int) : ∃ c, IsCnt ns d c := by
  have key : ∀ n, n ≤ ns.length → ∃ c, c ≤ n ∧ (∀ i, i < c → ns.getD i 0 < d) ∧ ∀ i, c ≤ i → i < n → d ≤ ns.getD i 0 := by
    intro n
    induction n with
    | zero => exact fun _ => ⟨0, Nat.le_refl _, fun i h => absurd h (Nat.not_lt_zero _), fun i _ h => absurd h (Nat.not_lt_zero _)⟩
    | succ n ih =>
      intro hn
      obtain ⟨c, h1, h2, h3⟩ := ih (by omega)
      by_cases hd : d ≤ ns.getD n 0
      · exact ⟨c, by omega, h2, fun i q1 q2 => by
          by_cases e : i = n
          · subst e; exact hd
          · exact h3 i q1 (by omega)⟩
      · refine ⟨n + 1, Nat.le_refl _, fun i q => ?_, fun i q1 q2 => absurd q2 (by omega)⟩
        have := g.up i n (by omega) (by omega)
        omega
  exact key ns.length (Nat.le_refl _)
theorem cnt_uniq {ns : List Int} {d : Int} {a b : Nat} (h : IsCnt ns d a) (h' : IsCnt ns d b) : a = b := by
  have q1 : ¬ a < b := fun q => by have := h.2.2 a (Nat.le_refl _) (by have := h'.1; omega); have := h'.2.1 a q; omega
  have q2 : ¬ b < a := fun q => by have := h'.2.2 b (Nat.le_refl _) (by have := h.1; omega); have := h.2.1 b q; omega
  omega
theorem by_ex {ns : List Int} (g : Good ns) (y : Int) : ∃ m, IsBy ns y m := by
  obtain ⟨c, hc⟩ := cnt_ex g (y - (y - ns.getD 0 0 - 1) / (ns.length : Int) * (ns.length : Int))
  exact ⟨_, isBy_of_cnt g hc⟩
open Classical in
noncomputable def byL (ns : List Int) (y : Int) : Int := if h : ∃ m, IsBy ns y m then Classical.choose h else 0
theorem byL_is {ns : List Int} (g : Good ns) (y : Int) : IsBy ns y (byL ns y) := by
  unfold byL
  rw [dif_pos (by_ex g y)]
  exact Classical.choose_spec (by_ex g y)
theorem byL_eq {ns : List Int} (g : Good ns) {y m : Int} (h : IsBy ns y m) : byL ns y = m := isBy_uniq g (byL_is g y) h
theorem by_le {ns : List Int} (g : Good ns) {x y : Int} : byL ns y ≤ x ↔ y ≤ onL ns x := by
  have h := byL_is g y
  constructor
  · exact fun q => Int.le_trans h.1 (on_mono g q)
  · intro q
    refine Classical.byContradiction fun n => ?_
    have := on_mono g (show x ≤ byL ns y - 1 by omega)
    have := h.2
    omega
/-- the day of a served one less itself is at most M, at least m -/
theorem on_le {ns : List Int} (g : Good ns) {M : Int} (h : ∀ i, i < ns.length → ns.getD i 0 - (i : Int) ≤ M) (x : Int) : onL ns x ≤ x + M := by
  obtain ⟨i, t, hi, rfl⟩ := split_at g x
  rw [on_at g hi]
  have := h i hi
  omega
theorem start_le {ns : List Int} (g : Good ns) {M y : Int} (h : ∀ i, i < ns.length → ns.getD i 0 - (i : Int) ≤ M) : y - M - 1 ≤ byL ns y := by
  have h1 := (byL_is g y).1
  have h2 := on_le g h (byL ns y)
  omega
end TM
end
section
namespace TM
/-! the mathematics of rules through rows -/
def IsMinL (l : List Int) (m : Int) : Prop := m ∈ l ∧ ∀ y, y ∈ l → m ≤ y
def IsMaxL (l : List Int) (m : Int) : Prop := m ∈ l ∧ ∀ y, y ∈ l → y ≤ m
theorem isMinL_ex : ∀ {l : List Int}, l ≠ [] → ∃ m, IsMinL l m
  | [], h => absurd rfl h
  | [a], _ => ⟨a, by simp, fun y hy => by simp at hy; omega⟩
  | a :: b :: l, _ => by
    obtain ⟨m, h1, h2⟩ := isMinL_ex (l := b :: l) (by simp)
    by_cases q : a ≤ m
    · exact ⟨a, by simp, fun y hy => by
        rcases List.mem_cons.mp hy with e | hy
        · omega
        · have := h2 y hy; omega⟩
    · exact ⟨m, List.mem_cons_of_mem _ h1, fun y hy => by
        rcases List.mem_cons.mp hy with e | hy
        · omega
        · exact h2 y hy⟩
theorem isMaxL_ex : ∀ {l : List Int}, l ≠ [] → ∃ m, IsMaxL l m
  | [], h => absurd rfl h
  | [a], _ => ⟨a, by simp, fun y hy => by simp at hy; omega⟩
  | a :: b :: l, _ => by
    obtain ⟨m, h1, h2⟩ := isMaxL_ex (l := b :: l) (by simp)
    by_cases q : m ≤ a
    · exact ⟨a, by simp, fun y hy => by
        rcases List.mem_cons.mp hy with e | hy
        · omega
        · have := h2 y hy; omega⟩
    · exact ⟨m, List.mem_cons_of_mem _ h1, fun y hy => by
        rcases List.mem_cons.mp hy with e | hy
        · omega
        · exact h2 y hy⟩
open Classical in
noncomputable def mxI (l : List Int) : Int := if h : ∃ m, IsMaxL l m then Classical.choose h else 0
open Classical in
noncomputable def mnI (l : List Int) : Int := if h : ∃ m, IsMinL l m then Classical.choose h else 0
theorem mxI_is {l : List Int} (h : l ≠ []) : IsMaxL l (mxI l) := by
  unfold mxI
  rw [dif_pos (isMaxL_ex h)]
  exact Classical.choose_spec (isMaxL_ex h)
theorem mnI_is {l : List Int} (h : l ≠ []) : IsMinL l (mnI l) := by
  unfold mnI
  rw [dif_pos (isMinL_ex h)]
  exact Classical.choose_spec (isMinL_ex h)
def early (L : Int) (r : Int × Int) (d : Int) : Int := r.2 + (d - r.1) / L * L
def late (L : Int) (r : Int × Int) (d : Int) : Int := r.2 - (r.1 - d) / L * L
section
variable {L : Int} (hL : 0 < L)
include hL
theorem early_near (r : Int × Int) (d : Int) : r.2 + (d - r.1) - L < early L r d ∧ early L r d ≤ r.2 + (d - r.1) := by
  have h1 := Int.emod_nonneg (d - r.1) (show L ≠ 0 by omega)
  have h2 := Int.emod_lt_of_pos (d - r.1) hL
  have h3 := Int.emod_add_mul_ediv (d - r.1) L
  rw [Int.mul_comm] at h3
  unfold early
  omega
theorem late_near (r : Int × Int) (d : Int) : r.2 - (r.1 - d) ≤ late L r d ∧ late L r d < r.2 - (r.1 - d) + L := by
  have h1 := Int.emod_nonneg (r.1 - d) (show L ≠ 0 by omega)
  have h2 := Int.emod_lt_of_pos (r.1 - d) hL
  have h3 := Int.emod_add_mul_ediv (r.1 - d) L
  rw [Int.mul_comm] at h3
  unfold late
  omega
theorem early_per (r : Int × Int) (d : Int) : early L r (d + L) = early L r d + L := by
  unfold early
  have e : d + L - r.1 = d - r.1 + 1 * L := by omega
  rw [e, Int.add_mul_ediv_right _ _ (by omega), Int.add_mul, Int.one_mul]
  omega
theorem late_per (r : Int × Int) (d : Int) : late L r (d + L) = late L r d + L := by
  unfold late
  have e : r.1 - (d + L) = r.1 - d + (-1) * L := by omega
  rw [e, Int.add_mul_ediv_right _ _ (by omega), Int.add_mul]
  omega
theorem early_mono (r : Int × Int) {d e : Int} (h : d ≤ e) : early L r d ≤ early L r e := by
  unfold early
  have := Int.mul_le_mul_of_nonneg_right (Int.ediv_le_ediv hL (show d - r.1 ≤ e - r.1 by omega)) (Int.le_of_lt hL)
  omega
theorem late_mono (r : Int × Int) {d e : Int} (h : d ≤ e) : late L r d ≤ late L r e := by
  unfold late
  have := Int.mul_le_mul_of_nonneg_right (Int.ediv_le_ediv hL (show r.1 - e ≤ r.1 - d by omega)) (Int.le_of_lt hL)
  omega
omit hL in
theorem early_self (r : Int × Int) : early L r r.1 = r.2 := by unfold early; rw [Int.sub_self, Int.zero_ediv, Int.zero_mul]; omega
omit hL in
theorem late_self (r : Int × Int) : late L r r.1 = r.2 := by unfold late; rw [Int.sub_self, Int.zero_ediv, Int.zero_mul]; omega
omit hL in
theorem early_late (r o : Int × Int) : early L r o.1 ≤ o.2 ↔ r.2 ≤ late L o r.1 := by
  unfold early late
  generalize (o.1 - r.1) / L * L = z
  omega
end
noncomputable def earT (L : Int) (rs : List (Int × Int)) (d : Int) : Int := mxI (rs.map fun r => early L r d)
noncomputable def latT (L : Int) (rs : List (Int × Int)) (d : Int) : Int := mnI (rs.map fun r => late L r d)
section
variable {L : Int} {rs ss : List (Int × Int)} (h0 : rs ≠ [])
include h0
theorem ear_is (d : Int) : IsMaxL (rs.map fun r => early L r d) (earT L rs d) := mxI_is (by simpa using h0)
theorem lat_is (d : Int) : IsMinL (rs.map fun r => late L r d) (latT L rs d) := mnI_is (by simpa using h0)
theorem ear_ge {d : Int} {r : Int × Int} (h : r ∈ rs) : early L r d ≤ earT L rs d := (ear_is h0 d).2 _ (List.mem_map_of_mem h)
theorem lat_le {d : Int} {r : Int × Int} (h : r ∈ rs) : latT L rs d ≤ late L r d := (lat_is h0 d).2 _ (List.mem_map_of_mem h)
theorem ear_ex (d : Int) : ∃ r, r ∈ rs ∧ earT L rs d = early L r d := by
  obtain ⟨r, h1, h2⟩ := List.mem_map.mp (ear_is (L := L) h0 d).1
  exact ⟨r, h1, h2.symm⟩
theorem lat_ex (d : Int) : ∃ r, r ∈ rs ∧ latT L rs d = late L r d := by
  obtain ⟨r, h1, h2⟩ := List.mem_map.mp (lat_is (L := L) h0 d).1
  exact ⟨r, h1, h2.symm⟩
theorem ear_mono (hL : 0 < L) {d e : Int} (h : d ≤ e) : earT L rs d ≤ earT L rs e := by
  obtain ⟨r, h1, h2⟩ := ear_ex (L := L) h0 d
  have := ear_ge (L := L) (d := e) h0 h1
  have := early_mono hL r h
  omega
theorem lat_mono (hL : 0 < L) {d e : Int} (h : d ≤ e) : latT L rs d ≤ latT L rs e := by
  obtain ⟨r, h1, h2⟩ := lat_ex (L := L) h0 e
  have := lat_le (L := L) (d := d) h0 h1
  have := late_mono hL r h
  omega
theorem ear_per (hL : 0 < L) (d : Int) : earT L rs (d + L) = earT L rs d + L := by
  obtain ⟨r, h1, h2⟩ := ear_ex (L := L) h0 d
  obtain ⟨s, g1, g2⟩ := ear_ex (L := L) h0 (d + L)
  have a1 := ear_ge (L := L) (d := d + L) h0 h1
  have a2 := ear_ge (L := L) (d := d) h0 g1
  have a3 := early_per hL r d
  have a4 := early_per hL s d
  omega
theorem lat_per (hL : 0 < L) (d : Int) : latT L rs (d + L) = latT L rs d + L := by
  obtain ⟨r, h1, h2⟩ := lat_ex (L := L) h0 d
  obtain ⟨s, g1, g2⟩ := lat_ex (L := L) h0 (d + L)
  have a1 := lat_le (L := L) (d := d + L) h0 h1
  have a2 := lat_le (L := L) (d := d) h0 g1
  have a3 := late_per hL r d
  have a4 := late_per hL s d
  omega
end
def keptB (L : Int) (rs : List (Int × Int)) : Bool := rs.all fun r => rs.all fun o => decide (early L r o.1 ≤ o.2)
theorem kept_iff {L : Int} {rs : List (Int × Int)} : keptB L rs = true ↔ ∀ r, r ∈ rs → ∀ o, o ∈ rs → early L r o.1 ≤ o.2 := by
  unfold keptB
  rw [List.all_eq_true]
  constructor
  · intro h r hr o ho
    have := h r hr
    rw [List.all_eq_true] at this
    exact of_decide_eq_true (this o ho)
  · intro h r hr
    rw [List.all_eq_true]
    exact fun o ho => decide_eq_true (h r hr o ho)
theorem kept_ear {L : Int} {rs : List (Int × Int)} (h0 : rs ≠ []) : (rs.all fun o => decide (earT L rs o.1 = o.2)) = keptB L rs := by
  rw [Bool.eq_iff_iff, kept_iff, List.all_eq_true]
  constructor
  · intro h r hr o ho
    have h1 := of_decide_eq_true (h o ho)
    have h2 := ear_ge (L := L) (d := o.1) h0 hr
    omega
  · intro h o ho
    refine decide_eq_true ?_
    obtain ⟨r, g1, g2⟩ := ear_ex (L := L) h0 o.1
    have h1 := h r g1 o ho
    have h2 := ear_ge (L := L) (d := o.1) h0 ho
    rw [early_self] at h2
    omega
theorem kept_lat {L : Int} {rs : List (Int × Int)} (h0 : rs ≠ []) : (rs.all fun o => decide (latT L rs o.1 = o.2)) = keptB L rs := by
  rw [Bool.eq_iff_iff, kept_iff, List.all_eq_true]
  constructor
  · intro h r hr o ho
    have h1 := of_decide_eq_true (h r hr)
    have h2 := lat_le (L := L) (d := r.1) h0 ho
    exact (early_late r o).mpr (by omega)
  · intro h o ho
    refine decide_eq_true ?_
    obtain ⟨r, g1, g2⟩ := lat_ex (L := L) h0 o.1
    have h1 := (early_late o r).mp (h o ho r g1)
    have h2 := lat_le (L := L) (d := o.1) h0 ho
    rw [late_self] at h2
    omega
/-- the list of a rule's first days -/
def listF (n : Nat) (f : Int → Int) : List Int := (List.range n).map fun (i : Nat) => f (i : Int)
theorem listF_len (n : Nat) (f : Int → Int) : (listF n f).length = n := by unfold listF; rw [List.length_map, List.length_range]
theorem listF_at {n : Nat} {f : Int → Int} {i : Nat} (h : i < n) : (listF n f).getD i 0 = f (i : Int) := by
  unfold listF
  rw [List.getD_eq_getElem?_getD, List.getElem?_map, List.getElem?_range h] <;> rfl
section
variable {n : Nat} {f : Int → Int} (h1 : 1 ≤ n) (h2 : n ≤ 600) (hm : ∀ d e : Int, d ≤ e → f d ≤ f e) (hp : ∀ d : Int, f (d + (n : Int)) = f d + (n : Int))
include h1 h2 hm hp
theorem listF_good : Good (listF n f) := by
  refine ⟨by rw [listF_len]; exact h1, by rw [listF_len]; exact h2, fun i j hij hj => ?_, ?_⟩
  · rw [listF_len] at hj
    rw [listF_at (by omega), listF_at hj]
    exact hm _ _ (by omega)
  · rw [listF_len, listF_at (by omega), listF_at (by omega)]
    have a1 := hm ((n - 1 : Nat) : Int) (((0 : Nat) : Int) + (n : Int)) (by omega)
    have a2 := hp ((0 : Nat) : Int)
    omega
omit h1 h2 hm in
theorem per_mul (d : Int) (t : Int) : f (d + t * (n : Int)) = f d + t * (n : Int) := by
  have up : ∀ k : Nat, ∀ d : Int, f (d + (k : Int) * (n : Int)) = f d + (k : Int) * (n : Int) := by
    intro k
    induction k with
    | zero => intro d; simp
    | succ k ih =>
      intro d
      have e : d + ((k + 1 : Nat) : Int) * (n : Int) = d + (k : Int) * (n : Int) + (n : Int) := by rw [Int.natCast_add, Int.add_mul]; simp; omega
      rw [e, hp, ih, Int.natCast_add, Int.add_mul]
      simp
      omega
  by_cases h : 0 ≤ t
  · obtain ⟨k, rfl⟩ : ∃ k : Nat, t = (k : Int) := ⟨t.toNat, by omega⟩
    exact up k d
  · obtain ⟨k, rfl⟩ : ∃ k : Nat, t = -(k : Int) := ⟨(-t).toNat, by omega⟩
    have := up k (d + -(k : Int) * (n : Int))
    rw [Int.neg_mul] at this ⊢
    rw [show d + -((k : Int) * (n : Int)) + (k : Int) * (n : Int) = d by omega] at this
    omega
theorem listF_on (x : Int) : onL (listF n f) x = f x := by
  have g := listF_good h1 h2 hm hp
  obtain ⟨i, t, hi, rfl⟩ := split_at g x
  rw [on_at g hi]
  rw [listF_len] at hi ⊢
  rw [listF_at hi, per_mul hp]
end
theorem on_mul {ns : List Int} (g : Good ns) (x t : Int) : onL ns (x + t * (ns.length : Int)) = onL ns x + t * (ns.length : Int) := per_mul (fun d => on_len g d) x t
theorem list_on {ns : List Int} (g : Good ns) : listF ns.length (onL ns) = ns := by
  apply List.ext_getElem
  · rw [listF_len]
  · intro i h1 h2
    have e := listF_at (f := onL ns) h2
    rw [List.getD_eq_getElem?_getD, List.getElem?_eq_getElem h1] at e
    have e2 := on_at g h2 0
    rw [Int.zero_mul, Int.add_zero, Int.add_zero] at e2
    have e3 : (listF ns.length (onL ns))[i] = onL ns (i : Int) := e
    rw [e3, e2, List.getD_eq_getElem?_getD, List.getElem?_eq_getElem h2]
    rfl
/-- rows of a rule -/
def Reads (ns : List Int) (rs : List (Int × Int)) : Prop := ∀ r, r ∈ rs → onL ns r.1 = r.2
theorem early_on {ns : List Int} (g : Good ns) {r : Int × Int} (h : onL ns r.1 = r.2) (d : Int) : early (ns.length : Int) r d ≤ onL ns d := by
  have hp := g.posI
  have h1 := Int.emod_nonneg (d - r.1) (show (ns.length : Int) ≠ 0 by omega)
  have h3 := Int.emod_add_mul_ediv (d - r.1) (ns.length : Int)
  rw [Int.mul_comm] at h3
  unfold early
  rw [← h, ← on_mul g]
  exact on_mono g (by omega)
theorem on_late {ns : List Int} (g : Good ns) {r : Int × Int} (h : onL ns r.1 = r.2) (d : Int) : onL ns d ≤ late (ns.length : Int) r d := by
  have hp := g.posI
  have h1 := Int.emod_nonneg (r.1 - d) (show (ns.length : Int) ≠ 0 by omega)
  have h3 := Int.emod_add_mul_ediv (r.1 - d) (ns.length : Int)
  rw [Int.mul_comm] at h3
  unfold late
  have e : r.2 - (r.1 - d) / (ns.length : Int) * (ns.length : Int) = onL ns (r.1 + -((r.1 - d) / (ns.length : Int)) * (ns.length : Int)) := by
    rw [on_mul g, h, Int.neg_mul]
    omega
  rw [e]
  exact on_mono g (by rw [Int.neg_mul]; omega)
theorem reads_kept {ns : List Int} (g : Good ns) {rs : List (Int × Int)} (h : Reads ns rs) : keptB (ns.length : Int) rs = true :=
  kept_iff.mpr fun r hr o ho => by rw [← h o ho]; exact early_on g (h r hr) o.1
theorem ear_on {ns : List Int} (g : Good ns) {rs : List (Int × Int)} (h0 : rs ≠ []) (h : Reads ns rs) (d : Int) : earT (ns.length : Int) rs d ≤ onL ns d := by
  obtain ⟨r, h1, h2⟩ := ear_ex (L := (ns.length : Int)) h0 d
  rw [h2]
  exact early_on g (h r h1) d
theorem on_lat {ns : List Int} (g : Good ns) {rs : List (Int × Int)} (h0 : rs ≠ []) (h : Reads ns rs) (d : Int) : onL ns d ≤ latT (ns.length : Int) rs d := by
  obtain ⟨r, h1, h2⟩ := lat_ex (L := (ns.length : Int)) h0 d
  rw [h2]
  exact on_late g (h r h1) d
/-- a row of each day of a length tells the rule -/
theorem early_all {ns : List Int} (g : Good ns) {r : Int × Int} (h : onL ns r.1 = r.2) {d t : Int} (e : d = r.1 + t * (ns.length : Int)) : early (ns.length : Int) r d = onL ns d := by
  have hp := g.posI
  subst e
  unfold early
  rw [show r.1 + t * (ns.length : Int) - r.1 = t * (ns.length : Int) by omega, Int.mul_ediv_cancel _ (by omega), on_mul g, h]
theorem late_all {ns : List Int} (g : Good ns) {r : Int × Int} (h : onL ns r.1 = r.2) {d t : Int} (e : d = r.1 + t * (ns.length : Int)) : late (ns.length : Int) r d = onL ns d := by
  have hp := g.posI
  subst e
  unfold late
  rw [show r.1 - (r.1 + t * (ns.length : Int)) = -t * (ns.length : Int) by rw [Int.neg_mul]; omega, Int.mul_ediv_cancel _ (by omega), on_mul g, h, Int.neg_mul]
  omega
theorem ends_cover {n : Nat} (hn : 1 ≤ n) (first d : Int) : ∃ (i : Nat) (t : Int), i < n ∧ d = first + (i : Int) + t * (n : Int) := by
  have h1 := Int.emod_nonneg (d - first) (show (n : Int) ≠ 0 by omega)
  have h2 := Int.emod_lt_of_pos (d - first) (show (0 : Int) < n by omega)
  have h3 := Int.emod_add_mul_ediv (d - first) (n : Int)
  rw [Int.mul_comm] at h3
  exact ⟨((d - first) % (n : Int)).toNat, (d - first) / (n : Int), by omega, by omega⟩
def endRows (ns : List Int) (first : Int) : List (Int × Int) := (List.range ns.length).map fun (i : Nat) => (first + (i : Int), onL ns (first + (i : Int)))
theorem end_reads {ns : List Int} {first : Int} : Reads ns (endRows ns first) := fun r hr => by
  obtain ⟨i, _, rfl⟩ := List.mem_map.mp hr
  rfl
theorem end_ear {ns : List Int} (g : Good ns) {first : Int} {rs : List (Int × Int)} (hr : ∀ r, r ∈ rs ↔ r ∈ endRows ns first) (d : Int) : earT (ns.length : Int) rs d = onL ns d := by
  obtain ⟨i, t, hi, e⟩ := ends_cover g.pos first d
  have hm : (first + (i : Int), onL ns (first + (i : Int))) ∈ rs := (hr _).mpr (List.mem_map.mpr ⟨i, List.mem_range.mpr hi, rfl⟩)
  have h0 : rs ≠ [] := fun z => by rw [z] at hm; cases hm
  have a1 := ear_ge (L := (ns.length : Int)) (d := d) h0 hm
  have a2 := early_all g (r := (first + (i : Int), onL ns (first + (i : Int)))) rfl (d := d) (t := t) e
  have a3 := ear_on g h0 (fun r q => end_reads r ((hr r).mp q)) d
  omega
theorem end_lat {ns : List Int} (g : Good ns) {first : Int} {rs : List (Int × Int)} (hr : ∀ r, r ∈ rs ↔ r ∈ endRows ns first) (d : Int) : latT (ns.length : Int) rs d = onL ns d := by
  obtain ⟨i, t, hi, e⟩ := ends_cover g.pos first d
  have hm : (first + (i : Int), onL ns (first + (i : Int))) ∈ rs := (hr _).mpr (List.mem_map.mpr ⟨i, List.mem_range.mpr hi, rfl⟩)
  have h0 : rs ≠ [] := fun z => by rw [z] at hm; cases hm
  have a1 := lat_le (L := (ns.length : Int)) (d := d) h0 hm
  have a2 := late_all g (r := (first + (i : Int), onL ns (first + (i : Int)))) rfl (d := d) (t := t) e
  have a3 := on_lat g h0 (fun r q => end_reads r ((hr r).mp q)) d
  omega
end TM
end
section
namespace TM
/-! the mathematics of two rules -/
def Per (f : Int → Int) (n : Int) : Prop := ∀ x, f (x + n) = f x + n
def Mono (f : Int → Int) : Prop := ∀ d e : Int, d ≤ e → f d ≤ f e
theorem per_times {f : Int → Int} {n : Nat} (h : Per f (n : Int)) (t : Int) : Per f (t * (n : Int)) := fun x => per_mul h x t
theorem per_dvd {f : Int → Int} {n m : Nat} (h : Per f (n : Int)) (hd : n ∣ m) : Per f (m : Int) := by
  obtain ⟨k, rfl⟩ := hd
  have := per_times h (k : Int)
  rw [Int.natCast_mul, Int.mul_comm]
  exact this
theorem per_neg {f : Int → Int} {n : Int} (h : Per f n) : Per f (-n) := fun x => by
  have := h (x + -n)
  rw [show x + -n + n = x by omega] at this
  omega
theorem per_add {f : Int → Int} {n m : Int} (h : Per f n) (h' : Per f m) : Per f (n + m) := fun x => by
  rw [show x + (n + m) = x + n + m by omega, h', h]
  omega
theorem per_gcd {f : Int → Int} : ∀ (a b : Nat), Per f (a : Int) → Per f (b : Int) → Per f ((Nat.gcd a b : Nat) : Int) := by
  intro a b
  induction a, b using Nat.gcd.induction with
  | H0 n => intro _ h; rw [Nat.gcd_zero_left]; exact h
  | H1 m n hm ih =>
    intro ha hb
    rw [Nat.gcd_rec]
    refine ih ?_ ha
    have e : ((n % m : Nat) : Int) = (n : Int) + -((n / m : Nat) : Int) * (m : Int) := by
      have := Nat.div_add_mod n m
      have z : (n : Int) = (m : Int) * ((n / m : Nat) : Int) + ((n % m : Nat) : Int) := by exact_mod_cast this.symm
      rw [Int.neg_mul, Int.mul_comm]
      omega
    rw [e]
    exact per_add hb (per_times ha _)
theorem onL_per {ns : List Int} (g : Good ns) : Per (onL ns) (ns.length : Int) := on_len g
theorem onL_mono {ns : List Int} (g : Good ns) : Mono (onL ns) := fun _ _ h => on_mono g h
theorem comp_per {f h : Int → Int} {n : Int} (a : Per f n) (b : Per h n) : Per (fun x => f (h x)) n := fun x => by show f (h (x + n)) = f (h x) + n; rw [b, a]
theorem comp_mono {f h : Int → Int} (a : Mono f) (b : Mono h) : Mono (fun x => f (h x)) := fun d e q => a _ _ (b _ _ q)
theorem max_per {f h : Int → Int} {n : Int} (a : Per f n) (b : Per h n) : Per (fun x => if h x > f x then h x else f x) n := fun x => by
  show (if h (x + n) > f (x + n) then h (x + n) else f (x + n)) = (if h x > f x then h x else f x) + n
  rw [a, b]
  split <;> split <;> omega
theorem min_per {f h : Int → Int} {n : Int} (a : Per f n) (b : Per h n) : Per (fun x => if h x < f x then h x else f x) n := fun x => by
  show (if h (x + n) < f (x + n) then h (x + n) else f (x + n)) = (if h x < f x then h x else f x) + n
  rw [a, b]
  split <;> split <;> omega
theorem max_mono {f h : Int → Int} (a : Mono f) (b : Mono h) : Mono (fun x => if h x > f x then h x else f x) := fun d e q => by
  have := a d e q
  have := b d e q
  show (if h d > f d then h d else f d) ≤ (if h e > f e then h e else f e)
  split <;> split <;> omega
theorem min_mono {f h : Int → Int} (a : Mono f) (b : Mono h) : Mono (fun x => if h x < f x then h x else f x) := fun d e q => by
  have := a d e q
  have := b d e q
  show (if h d < f d then h d else f d) ≤ (if h e < f e then h e else f e)
  split <;> split <;> omega
theorem by_mono {ns : List Int} (g : Good ns) : Mono (byL ns) := fun d e h => (by_le g).mpr (Int.le_trans h ((by_le g).mp (Int.le_refl _)))
theorem by_per {ns : List Int} (g : Good ns) : Per (byL ns) (ns.length : Int) := fun y => by
  refine byL_eq g ⟨?_, ?_⟩
  · rw [on_len g]
    have := (byL_is g y).1
    omega
  · rw [show byL ns y + (ns.length : Int) - 1 = byL ns y - 1 + (ns.length : Int) by omega, on_len g]
    have := (byL_is g y).2
    omega
noncomputable def tilL (ns : List Int) (y : Int) : Int := byL ns (y + 1) - 1
theorem til_le {ns : List Int} (g : Good ns) {x y : Int} : x ≤ tilL ns y ↔ onL ns x ≤ y := by
  have := by_le g (x := x) (y := y + 1)
  unfold tilL
  omega
theorem til_mono {ns : List Int} (g : Good ns) : Mono (tilL ns) := fun d e h => by
  have := by_mono g (d + 1) (e + 1) (by omega)
  unfold tilL
  omega
theorem til_per {ns : List Int} (g : Good ns) : Per (tilL ns) (ns.length : Int) := fun y => by
  have := by_per g (y + 1)
  unfold tilL
  rw [show y + (ns.length : Int) + 1 = y + 1 + (ns.length : Int) by omega, this]
  omega
/-- a rule told by a map with a period -/
structure Rule (n : Nat) (f : Int → Int) : Prop where
  pos : 1 ≤ n
  most : n ≤ 600
  mono : Mono f
  per : Per f (n : Int)
theorem Rule.good {n : Nat} {f : Int → Int} (r : Rule n f) : Good (listF n f) := listF_good r.pos r.most r.mono r.per
theorem Rule.on {n : Nat} {f : Int → Int} (r : Rule n f) (x : Int) : onL (listF n f) x = f x := listF_on r.pos r.most r.mono r.per x
/-- the least length of a rule -/
structure Least (ns : List Int) (d : Nat) : Prop where
  pos : 1 ≤ d
  dvd : d ∣ ns.length
  per : Per (onL ns) (d : Int)
  min : ∀ e : Nat, 1 ≤ e → e ∣ ns.length → Per (onL ns) (e : Int) → d ≤ e
theorem Least.rule {ns : List Int} {d : Nat} (g : Good ns) (h : Least ns d) : Rule d (onL ns) := ⟨h.pos, Nat.le_trans (Nat.le_of_dvd g.pos h.dvd) g.most, onL_mono g, h.per⟩
theorem Least.dvd_per {ns : List Int} {d e : Nat} (h : Least ns d) (he : Per (onL ns) (e : Int)) : d ∣ e := by
  have hp := per_gcd d e h.per he
  have h1 : 1 ≤ Nat.gcd d e := Nat.gcd_pos_of_pos_left _ h.pos
  have h2 := h.min _ h1 (Nat.dvd_trans (Nat.gcd_dvd_left d e) h.dvd) hp
  have h3 : Nat.gcd d e = d := Nat.le_antisymm (Nat.le_of_dvd h.pos (Nat.gcd_dvd_left d e)) h2
  rw [← h3]
  exact Nat.gcd_dvd_right d e
theorem least_same {ns ms : List Int} {d e : Nat} (g : Good ns) (k : Good ms) (h : Least ns d) (j : Least ms e) : listF d (onL ns) = listF e (onL ms) ↔ ∀ x, onL ns x = onL ms x := by
  constructor
  · intro q x
    have a := (h.rule g).on x
    have b := (j.rule k).on x
    rw [q, b] at a
    exact a.symm
  · intro q
    have ef : onL ns = onL ms := funext q
    have a : d ∣ e := h.dvd_per (by rw [ef]; exact j.per)
    have b : e ∣ d := j.dvd_per (by rw [← ef]; exact h.per)
    rw [Nat.dvd_antisymm a b, ef]
theorem least_ex {ns : List Int} (g : Good ns) : ∃ d, Least ns d := by
  have key : ∀ k, (∃ d, 1 ≤ d ∧ d ≤ k ∧ d ∣ ns.length ∧ Per (onL ns) (d : Int)) → ∃ d, Least ns d := by
    intro k
    induction k with
    | zero => rintro ⟨d, h1, h2, _⟩; omega
    | succ k ih =>
      rintro ⟨d, h1, h2, h3, h4⟩
      by_cases hx : ∃ d, 1 ≤ d ∧ d ≤ k ∧ d ∣ ns.length ∧ Per (onL ns) (d : Int)
      · exact ih hx
      · refine ⟨d, h1, h3, h4, fun e e1 e2 e3 => ?_⟩
        refine Nat.le_of_not_lt fun q => hx ⟨e, e1, by omega, e2, e3⟩
  exact key ns.length ⟨ns.length, g.pos, Nat.le_refl _, Nat.dvd_refl _, onL_per g⟩
/-- it is enough to look at one length -/
theorem per_of_first {ns : List Int} (g : Good ns) {d : Int} (h : ∀ i, i < ns.length → onL ns ((i : Int) + d) = ns.getD i 0 + d) : Per (onL ns) d := fun x => by
  obtain ⟨i, t, hi, rfl⟩ := split_at g x
  rw [on_at g hi, show (i : Int) + t * (ns.length : Int) + d = (i : Int) + d + t * (ns.length : Int) by omega, on_mul g, h i hi]
  omega
theorem first_of_per {ns : List Int} (g : Good ns) {d : Int} (h : Per (onL ns) d) {i : Nat} (hi : i < ns.length) : onL ns ((i : Int) + d) = ns.getD i 0 + d := by
  rw [h]
  have := on_at g hi 0
  rw [Int.zero_mul, Int.add_zero, Int.add_zero] at this
  rw [this]
theorem listF_take {n d : Nat} {f : Int → Int} (h : d ≤ n) : (listF n f).take d = listF d f := by
  unfold listF
  rw [← List.map_take, List.take_range, Nat.min_eq_left h]
/-! behind, later, sooner and what is asked back -/
section
variable {ns ms : List Int} (g : Good ns) (k : Good ms) {L : Nat} (h1 : 1 ≤ L) (h2 : L ≤ 600) (hn : ns.length ∣ L) (hm : ms.length ∣ L)
include g k h1 h2 hn hm
theorem behind_rule : Rule L (fun x => onL ns (onL ms x)) := ⟨h1, h2, comp_mono (onL_mono g) (onL_mono k), comp_per (per_dvd (onL_per g) hn) (per_dvd (onL_per k) hm)⟩
theorem later_rule : Rule L (fun x => if onL ms x > onL ns x then onL ms x else onL ns x) := ⟨h1, h2, max_mono (onL_mono g) (onL_mono k), max_per (per_dvd (onL_per g) hn) (per_dvd (onL_per k) hm)⟩
theorem sooner_rule : Rule L (fun x => if onL ms x < onL ns x then onL ms x else onL ns x) := ⟨h1, h2, min_mono (onL_mono g) (onL_mono k), min_per (per_dvd (onL_per g) hn) (per_dvd (onL_per k) hm)⟩
end
theorem by_rule {ns : List Int} (g : Good ns) : Rule ns.length (byL ns) := ⟨g.pos, g.most, by_mono g, by_per g⟩
theorem til_rule {ns : List Int} (g : Good ns) : Rule ns.length (tilL ns) := ⟨g.pos, g.most, til_mono g, til_per g⟩
theorem by_unique {ns : List Int} (g : Good ns) {y m : Int} (h : ∀ x, m ≤ x ↔ y ≤ onL ns x) : byL ns y = m := by
  have a := (h (byL ns y)).mpr ((by_le g).mp (Int.le_refl _))
  have b := (by_le g).mpr ((h m).mp (Int.le_refl _))
  omega
theorem til_unique {ns : List Int} (g : Good ns) {y m : Int} (h : ∀ x, x ≤ m ↔ onL ns x ≤ y) : tilL ns y = m := by
  have a := (h (tilL ns y)).mpr ((til_le g).mp (Int.le_refl _))
  have b := (til_le g).mpr ((h m).mp (Int.le_refl _))
  omega
end TM
end
section
set_option maxHeartbeats 2000000
/-! what is told: formulas and sayings, nested tuples -/
namespace TD
open PySem L2 Evl G TM
/-- a leaf, a part behind a thing of its own, a not, two parts -/
inductive Td where
  | lf (w : Str) (v : V)
  | ov (w : Str) (v : V) (t : Td)
  | nt (t : Td)
  | bi (w : Str) (t u : Td)
def word : Td → Str
  | .lf w _ => w
  | .ov w _ _ => w
  | .nt _ => "not"
  | .bi w _ _ => w
def kids : Td → List Td
  | .lf _ _ => []
  | .ov _ _ t => [t]
  | .nt t => [t]
  | .bi _ t u => [t, u]
def At (H : Hp) : V → Td → Prop
  | x, .lf w v => ∃ a, x = .ref a ∧ H a = some (.tup [.str w, v])
  | x, .ov w v t => ∃ a y, x = .ref a ∧ H a = some (.tup [.str w, v, y]) ∧ At H y t
  | x, .nt t => ∃ a y, x = .ref a ∧ H a = some (.tup [.str "not", y]) ∧ At H y t
  | x, .bi w t u => ∃ a y z, x = .ref a ∧ H a = some (.tup [.str w, y, z]) ∧ At H y t ∧ At H z u
/-- all tuples stay -/
def Tu (H H' : Hp) : Prop := ∀ a xs, H a = some (.tup xs) → H' a = some (.tup xs)
theorem Tu.refl (H : Hp) : Tu H H := fun _ _ h => h
theorem Tu.trans {H H1 H2 : Hp} (a : Tu H H1) (b : Tu H1 H2) : Tu H H2 := fun x xs h => b x xs (a x xs h)
theorem Tu.ex {H H' : Hp} (e : Ex H H') : Tu H H' := fun a xs h => e a _ h
theorem Tu.put {H : Hp} {p : Addr} {o u : HO} (h : H p = some u) (hu : ∀ xs, u ≠ .tup xs) : Tu H (upd H p o) := fun a xs ha => by
  have : a ≠ p := fun z => by subst z; rw [h] at ha; exact hu xs (Option.some.inj ha)
  rw [upd_ne this]
  exact ha
theorem Tu.lst {H : Hp} {p : Addr} {o : HO} {ys : List V} (h : H p = some (.lst ys)) : Tu H (upd H p o) := Tu.put h fun _ z => by cases z
theorem At.mono {H H' : Hp} (e : Tu H H') : ∀ {t : Td} {x : V}, At H x t → At H' x t
  | .lf _ _, _, ⟨a, h, k⟩ => ⟨a, h, e a _ k⟩
  | .ov _ _ t, _, ⟨a, y, h, k, q⟩ => ⟨a, y, h, e a _ k, At.mono e q⟩
  | .nt t, _, ⟨a, y, h, k, q⟩ => ⟨a, y, h, e a _ k, At.mono e q⟩
  | .bi _ t u, _, ⟨a, y, z, h, k, q, r⟩ => ⟨a, y, z, h, e a _ k, At.mono e q, At.mono e r⟩
abbrev Ats (H : Hp) : List V → List Td → Prop := Paired (At H)
theorem Ats.mono {H H' : Hp} (e : Tu H H') : ∀ {xs : List V} {ts : List Td}, Ats H xs ts → Ats H' xs ts
  | _, _, .nil => .nil
  | _, _, .cons h t => .cons (h.mono e) (Ats.mono e t)
theorem Ats.app {H : Hp} : ∀ {xs ys : List V} {ts us : List Td}, Ats H xs ts → Ats H ys us → Ats H (xs ++ ys) (ts ++ us)
  | _, _, _, _, .nil, h => h
  | _, _, _, _, .cons h t, k => .cons h (Ats.app t k)
theorem Ats.rev {H : Hp} : ∀ {xs : List V} {ts : List Td}, Ats H xs ts → Ats H xs.reverse ts.reverse
  | _, _, .nil => .nil
  | _, _, .cons h t => by
    rw [List.reverse_cons, List.reverse_cons]
    exact Ats.app (Ats.rev t) (.cons h .nil)
theorem Ats.len {H : Hp} : ∀ {xs : List V} {ts : List Td}, Ats H xs ts → xs.length = ts.length
  | _, _, .nil => rfl
  | _, _, .cons _ t => congrArg (· + 1) (Ats.len t)
theorem Ats.get {H : Hp} : ∀ {xs : List V} {ts : List Td} {i : Nat} {x : V}, Ats H xs ts → xs[i]? = some x → ∃ t, ts[i]? = some t ∧ At H x t
  | _, _, _, _, .nil, e => by simp at e
  | _, _, 0, x, .cons (b := t) h _, e => by
    simp at e
    subst e
    exact ⟨t, rfl, h⟩
  | _, _, i + 1, x, .cons _ t, e => by
    simp at e
    obtain ⟨u, a, b⟩ := Ats.get t e
    exact ⟨u, by simpa using a, b⟩
theorem Ats.at {H : Hp} : ∀ {xs : List V} {ts : List Td} {i : Nat} {t : Td}, Ats H xs ts → ts[i]? = some t → ∃ x, xs[i]? = some x ∧ At H x t
  | _, _, _, _, .nil, e => by simp at e
  | _, _, 0, x, .cons (a := v) h _, e => by
    simp at e
    subst e
    exact ⟨v, rfl, h⟩
  | _, _, i + 1, x, .cons _ t, e => by
    simp at e
    obtain ⟨u, a, b⟩ := Ats.at t e
    exact ⟨u, by simpa using a, b⟩
theorem Ats.one {H : Hp} {x : V} {t : Td} (h : At H x t) : Ats H [x] [t] := .cons h .nil
theorem Ats.two {H : Hp} {x y : V} {t u : Td} (h : At H x t) (k : At H y u) : Ats H [x, y] [t, u] := .cons h (.cons k .nil)
/-- the last of a list -/
theorem Ats.last {H : Hp} {xs : List V} {ts : List Td} {t : Td} (h : Ats H xs (ts ++ [t])) : ∃ ys y, xs = ys ++ [y] ∧ Ats H ys ts ∧ At H y t := by
  induction ts generalizing xs with
  | nil => cases h with | cons a b => cases b; exact ⟨[], _, rfl, .nil, a⟩
  | cons u ts ih =>
    cases h with
    | cons a b =>
      obtain ⟨ys, y, rfl, h1, h2⟩ := ih b
      exact ⟨_ :: ys, y, rfl, .cons a h1, h2⟩
/-- a thing's tuple: its word, its own thing (if there is one), its parts -/
def own : Td → List V
  | .lf _ v => [v]
  | .ov _ v _ => [v]
  | _ => []
theorem At.open {H : Hp} {x : V} {t : Td} (h : At H x t) : ∃ a ys, x = .ref a ∧ H a = some (.tup (.str (word t) :: (own t ++ ys))) ∧ Ats H ys (kids t) := by
  cases t with
  | lf w v => obtain ⟨a, rfl, k⟩ := h; exact ⟨a, [], rfl, k, .nil⟩
  | ov w v t => obtain ⟨a, y, rfl, k, q⟩ := h; exact ⟨a, [y], rfl, k, .one q⟩
  | nt t => obtain ⟨a, y, rfl, k, q⟩ := h; exact ⟨a, [y], rfl, k, .one q⟩
  | bi w t u => obtain ⟨a, y, z, rfl, k, q, r⟩ := h; exact ⟨a, [y, z], rfl, k, .two q r⟩
/-! ### which are formulas, which are sayings -/
def ruleL : List Str := ["a", "b", "c", "d", "e", "f", "g", "h"]
def nameL : List Str := ["p", "q", "r", "s", "t", "u", "v", "w", "x", "y", "z"]
def turnL : List Str := ["on", "by", "til"]
def IsF : Td → Prop
  | .lf w v => (w = "day" ∧ ∃ n, n ∈ nameL ∧ v = .str n) ∨ (w = "num" ∧ ∃ i, v = .int i)
  | .ov w v t => ((w ∈ turnL ∧ ∃ r, r ∈ ruleL ∧ v = .str r) ∨ (w = "add" ∧ ∃ i, v = .int i)) ∧ IsF t
  | .nt _ => False
  | .bi w t u => (w = "late" ∨ w = "soon") ∧ IsF t ∧ IsF u
def IsS : Td → Prop
  | .lf _ _ => False
  | .ov _ _ _ => False
  | .nt t => IsS t
  | .bi w t u => (w = "le" ∧ IsF t ∧ IsF u) ∨ ((w = "and" ∨ w = "or") ∧ IsS t ∧ IsS u)
/-- what parts_of may be asked of -/
def Ok : Td → Prop
  | .lf w _ => w = "day" ∨ w = "num"
  | .ov w _ _ => w = "on" ∨ w = "by" ∨ w = "til" ∨ w = "add"
  | .nt _ => True
  | .bi w _ _ => w = "late" ∨ w = "soon" ∨ w = "le" ∨ w = "and" ∨ w = "or"
def OkD : Td → Prop
  | .lf w v => Ok (.lf w v)
  | .ov w v t => Ok (.ov w v t) ∧ OkD t
  | .nt t => OkD t
  | .bi w t u => Ok (.bi w t u) ∧ OkD t ∧ OkD u
theorem OkD.ok {t : Td} (h : OkD t) : Ok t := by
  cases t with
  | lf w v => exact h
  | ov w v t => exact h.1
  | nt t => exact True.intro
  | bi w t u => exact h.1
theorem OkD.kid {t u : Td} (h : OkD t) (hu : u ∈ kids t) : OkD u := by
  cases t with
  | lf w v => cases hu
  | ov w v t => cases List.mem_singleton.mp hu; exact h.2
  | nt t => cases List.mem_singleton.mp hu; exact h
  | bi w t u' =>
    rcases List.mem_cons.mp hu with e | e
    · subst e; exact h.2.1
    · cases List.mem_singleton.mp e; exact h.2.2
theorem turn_cases {w : Str} (h : w ∈ turnL) : w = "on" ∨ w = "by" ∨ w = "til" := by
  simpa [turnL] using h
theorem IsF.okD : ∀ {t : Td}, IsF t → OkD t
  | .lf w v, h => h.imp (·.1) (·.1)
  | .ov w v t, ⟨h, k⟩ => ⟨by
      rcases h with ⟨h, _⟩ | ⟨h, _⟩
      · rcases turn_cases h with e | e | e
        · exact .inl e
        · exact .inr (.inl e)
        · exact .inr (.inr (.inl e))
      · exact .inr (.inr (.inr h)), IsF.okD k⟩
  | .nt _, h => h.elim
  | .bi w t u, ⟨h, k, l⟩ => ⟨h.imp id .inl, IsF.okD k, IsF.okD l⟩
theorem IsS.okD : ∀ {t : Td}, IsS t → OkD t
  | .lf _ _, h => h.elim
  | .ov _ _ _, h => h.elim
  | .nt t, h => IsS.okD (t := t) h
  | .bi w t u, h => by
    rcases h with ⟨h, k, l⟩ | ⟨h, k, l⟩
    · exact ⟨.inr (.inr (.inl h)), k.okD, l.okD⟩
    · exact ⟨.inr (.inr (.inr h)), IsS.okD k, IsS.okD l⟩
/-! ### pieces -/
def pcs : Td → List Td
  | .lf w v => [.lf w v]
  | .ov w v t => .ov w v t :: pcs t
  | .nt t => .nt t :: pcs t
  | .bi w t u => .bi w t u :: (pcs t ++ pcs u)
theorem pcs_kids (t : Td) : pcs t = t :: (kids t).flatMap pcs := by
  cases t with
  | lf w v => rfl
  | ov w v t => simp [pcs, kids]
  | nt t => simp [pcs, kids]
  | bi w t u => simp [pcs, kids]
theorem pcs_pos (t : Td) : 0 < (pcs t).length := by rw [pcs_kids]; exact Nat.succ_pos _
theorem OkD.pcs : ∀ {t u : Td}, OkD t → u ∈ TD.pcs t → OkD u
  | .lf w v, u, h, hu => by cases List.mem_singleton.mp hu; exact h
  | .ov w v t, u, h, hu => by
    rcases List.mem_cons.mp hu with e | e
    · subst e; exact h
    · exact OkD.pcs h.2 e
  | .nt t, u, h, hu => by
    rcases List.mem_cons.mp hu with e | e
    · subst e; exact h
    · exact OkD.pcs (t := t) h e
  | .bi w t t2, u, h, hu => by
    rcases List.mem_cons.mp hu with e | e
    · subst e; exact h
    · rcases List.mem_append.mp e with e | e
      · exact OkD.pcs h.2.1 e
      · exact OkD.pcs h.2.2 e
/-- so many pieces in a list of things -/
def sizes (ts : List Td) : Nat := (ts.flatMap pcs).length
theorem sizes_cons (t : Td) (ts : List Td) : sizes (t :: ts) = (pcs t).length + sizes ts := by
  unfold sizes
  rw [List.flatMap_cons, List.length_append]
theorem sizes_app (ts us : List Td) : sizes (ts ++ us) = sizes ts + sizes us := by
  unfold sizes
  rw [List.flatMap_append, List.length_append]
theorem size_kids (t : Td) : (pcs t).length = 1 + sizes (kids t) := by
  rw [pcs_kids, List.length_cons, Nat.add_comm]
  rfl
theorem kids_le (t : Td) : (kids t).length ≤ 2 := by cases t <;> simp [kids]
def namesOf (t : Td) : List Str := (pcs t).filterMap fun u => match u with | .lf w (.str n) => if w = "day" then some n else none | _ => none
def rulesOf (t : Td) : List Str := (pcs t).filterMap fun u => match u with | .ov w (.str r) _ => if w ∈ turnL then some r else none | _ => none
/-! ### days -/
noncomputable def dayOf (dn : Str → Int) (wd : Str → List Int) : Td → Int
  | .lf _ (.str n) => dn n
  | .lf _ (.int i) => i
  | .lf _ _ => 0
  | .ov w (.str r) t => if w = "on" then onL (wd r) (dayOf dn wd t) else if w = "by" then byL (wd r) (dayOf dn wd t) else tilL (wd r) (dayOf dn wd t)
  | .ov _ (.int i) t => dayOf dn wd t + i
  | .ov _ _ _ => 0
  | .nt _ => 0
  | .bi w t u => if w = "late" then (if dayOf dn wd u > dayOf dn wd t then dayOf dn wd u else dayOf dn wd t) else (if dayOf dn wd u < dayOf dn wd t then dayOf dn wd u else dayOf dn wd t)
open Classical in
noncomputable def soOf (dn : Str → Int) (wd : Str → List Int) : Td → Bool
  | .lf _ _ => false
  | .ov _ _ _ => false
  | .nt t => !soOf dn wd t
  | .bi w t u => if w = "le" then decide (dayOf dn wd t ≤ dayOf dn wd u) else if w = "and" then soOf dn wd t && soOf dn wd u else soOf dn wd t || soOf dn wd u
end TD
end
section
set_option maxHeartbeats 2000000
namespace G
open PySem L2 Evl TD SX
section
variable {X : Cx} {K : PySem.W.Frag} {o i : Expr} {td ty : TE} {pos : Pos}
theorem slA (hK : X.K = K) : SlR X (rSlA K) := hK ▸ sl_tupA
theorem isiS (hK : X.K = K) : CallR X (.builtin "isinstance") (rIsi K) := hK ▸ call_isi
theorem inS (hK : X.K = K) : OpR X (compareOp .In) (rIn K false) := hK ▸ op_in_seq
theorem niS (hK : X.K = K) : OpR X (compareOp .NotIn) (rIn K true) := hK ▸ op_notIn_seq
theorem pe_dgetR (hu : X.A.units + 64 < cLine) (ho : PE X o td) (hi : PE X i ty) (hs : NoSl i) : PE X (.Subscript o i pos) (tDGet td ty) := pe_dget (by omega) ho hi hs
theorem pc_dinR (hu : X.A.units + 64 < cLine) (hi : PE X i ty) (ho : PE X o td) : PC X .In i o (tDIn ty td) := pc_din (by omega) hi ho
theorem pc_dniR (hu : X.A.units + 64 < cLine) (hi : PE X i ty) (ho : PE X o td) : PC X .NotIn i o (tDNotIn ty td) := pc_dnotin (by omega) hi ho
end
variable {K : PySem.W.Frag} {σ : L2.St} {H H' : Hp} {ta tb te tx : TE} {tt : TT} {x y z v : V} {p a l C dx : Addr} {tA tr tk : TA} {xs ys : List V} {t u : Td} {ts us : List Td} {D : Ends} {tz : TS} {i : Nat} {Q : VK} {sp : Sp} {dvs vs : List V} {E : XK}
theorem eu_slA {tl th : TO} {lo hi : Option Int} (h : Ev te σ H (.ref a)) (h1 : EvO tl σ H lo) (h2 : EvO th σ H hi) (hs : SqT K H a xs) (hw : ¬ (HT.sIx xs.length 0 lo = 0 ∧ HT.sIx xs.length xs.length hi = xs.length)) :
    EvU (tSl (rSlA K) te tl th) σ H (cutV xs lo hi) := fun H1 e _ q =>
  h H1 e _ fun H2 e2 => h1 H2 (e.trans e2) _ fun H3 e3 => h2 H3 ((e.trans e2).trans e3) _ fun H4 e4 =>
    ⟨a, xs, rfl, ex_t (((e.trans e2).trans e3).trans e4) hs, fun z => absurd z hw, fun _ p hp => q p _ (fresh_back ((e2.trans e3).trans e4) hp) (((e2.trans e3).trans e4).trans (Ex.new hp)) upd_same⟩
theorem eu_revT (h : EvU te σ H xs) : EvU (tRevT K te) σ H xs.reverse := fun H1 e _ q => h H1 e _ fun b H2 hb e2 h2 =>
  ⟨b, xs, rfl, st_of h2, fun p hp => q p _ (fresh_back e2 hp) (e2.trans (Ex.new hp)) upd_same⟩
/-- d[k] -/
theorem ev_dget {k : Key} {kvs : List (Key × V)} (h : Ev ta σ H (.ref a)) (hk : Ev tb σ H (kV k)) (hd : H a = some (.dK kvs)) (hv : valV kvs k = some v) : Ev (tDGet ta tb) σ H v := fun H1 e Q q =>
  h H1 e _ fun H2 e2 => hk H2 (e.trans e2) _ fun H3 e3 => ⟨a, v, rfl, hv ▸ DGet.k (((e.trans e2).trans e3) a _ hd), q H3 (e2.trans e3)⟩
theorem ev_dni {k : Key} {kvs : List (Key × V)} (hk : Ev ta σ H (kV k)) (h : Ev tb σ H (.ref a)) (hd : H a = some (.dK kvs)) : Ev (tDNotIn ta tb) σ H (.bl (!(valV kvs k).isSome)) := fun H1 e Q q =>
  hk H1 e _ fun H2 e2 => h H2 (e.trans e2) _ fun H3 e3 => ⟨a, _, rfl, DGet.k (((e.trans e2).trans e3) a _ hd), q H3 (e2.trans e3)⟩
/-! ### what evaluates to a told thing, to a new tuple or list of told things -/
def EvTd (te : TE) (σ : L2.St) (H : Hp) (t : Td) : Prop := ∀ H1, Ex H H1 → ∀ Q : VK, (∀ v H2, Ex H1 H2 → At H2 v t → Q v H2) → te σ H1 Q
def EvKs (te : TE) (σ : L2.St) (H : Hp) (ts : List Td) : Prop := ∀ H1, Ex H H1 → ∀ Q : VK, (∀ p ys H2, H1 p = none → Ex H1 H2 → H2 p = some (.tup ys) → Ats H2 ys ts → Q (.ref p) H2) → te σ H1 Q
def EvLs (te : TE) (σ : L2.St) (H : Hp) (ts : List Td) : Prop := ∀ H1, Ex H H1 → ∀ Q : VK, (∀ p ys H2, H1 p = none → Ex H1 H2 → H2 p = some (.lst ys) → Ats H2 ys ts → Q (.ref p) H2) → te σ H1 Q
def RetTd (t : Td) (H : Hp) (Q : VK) : Prop := ∀ v H2, Ex H H2 → At H2 v t → Q v H2
def RetKs (ts : List Td) (H : Hp) (Q : VK) : Prop := ∀ p ys H2, H p = none → Ex H H2 → H2 p = some (.tup ys) → Ats H2 ys ts → Q (.ref p) H2
def RetLs (ts : List Td) (H : Hp) (Q : VK) : Prop := ∀ p ys H2, H p = none → Ex H H2 → H2 p = some (.lst ys) → Ats H2 ys ts → Q (.ref p) H2
def SpTd (sp : Sp) (vs : List V) (H : Hp) (t : Td) : Prop := ∀ H1, Ex H H1 → ∀ Q : VK, RetTd t H1 Q → ∀ E : XK, sp vs H1 Q E
def SpKs (sp : Sp) (vs : List V) (H : Hp) (ts : List Td) : Prop := ∀ H1, Ex H H1 → ∀ Q : VK, RetKs ts H1 Q → ∀ E : XK, sp vs H1 Q E
def SpLs (sp : Sp) (vs : List V) (H : Hp) (ts : List Td) : Prop := ∀ H1, Ex H H1 → ∀ Q : VK, RetLs ts H1 Q → ∀ E : XK, sp vs H1 Q E
theorem eks_call (h : EvA tA σ H vs) (hs : SpKs sp (vs ++ dvs) H ts) : EvKs (tCall sp dvs E tA) σ H ts := fun H1 e Q q =>
  h H1 e _ fun H2 e2 => hs H2 (e.trans e2) Q (fun p ys H3 hp e3 h3 k => q p ys H3 (fresh_back e2 hp) (e2.trans e3) h3 k) E
theorem els_call (h : EvA tA σ H vs) (hs : SpLs sp (vs ++ dvs) H ts) : EvLs (tCall sp dvs E tA) σ H ts := fun H1 e Q q =>
  h H1 e _ fun H2 e2 => hs H2 (e.trans e2) Q (fun p ys H3 hp e3 h3 k => q p ys H3 (fresh_back e2 hp) (e2.trans e3) h3 k) E
theorem etd_call (h : EvA tA σ H vs) (hs : SpTd sp (vs ++ dvs) H t) : EvTd (tCall sp dvs E tA) σ H t := fun H1 e Q q =>
  h H1 e _ fun H2 e2 => hs H2 (e.trans e2) Q (fun v H3 e3 k => q v H3 (e2.trans e3) k) E
theorem etd_ref (h : Ev te σ H v) (k : At H v t) : EvTd te σ H t := fun H1 e Q q => h H1 e Q fun H2 e2 => q v H2 e2 (k.mono (Tu.ex (e.trans e2)))
theorem eks_rev (h : EvKs te σ H ts) : EvKs (tRevT K te) σ H ts.reverse := fun H1 e Q q => h H1 e _ fun b ys H2 hb e2 h2 k =>
  ⟨b, ys, rfl, st_of h2, fun p hp => q p _ _ (fresh_back e2 hp) (e2.trans (Ex.new hp)) upd_same ((k.mono (Tu.ex (Ex.new hp))).rev)⟩
theorem EvTd.mono (e : Ex H H') (h : EvTd te σ H t) : EvTd te σ H' t := fun H1 a Q q => h H1 (e.trans a) Q q
theorem EvKs.mono (e : Ex H H') (h : EvKs te σ H ts) : EvKs te σ H' ts := fun H1 a Q q => h H1 (e.trans a) Q q
theorem EvLs.mono (e : Ex H H') (h : EvLs te σ H ts) : EvLs te σ H' ts := fun H1 a Q q => h H1 (e.trans a) Q q
/-- (w, v) -/
theorem etd_lf {w : Str} (h : EvA tA σ H [.str w, v]) : EvTd (tTup tA) σ H (.lf w v) := fun H1 e Q q => (eu_tup h (by show 2 ≤ 100000; decide)) H1 e Q fun p H2 hp e2 h2 => q _ H2 e2 ⟨p, rfl, h2⟩
/-- (w, v, t) -/
theorem etd_ov {w : Str} (h1 : Ev ta σ H (.str w)) (h2 : Ev tb σ H v) (h3 : EvTd tx σ H t) : EvTd (tTup (tCons ta (tCons tb (tCons tx tNil)))) σ H (.ov w v t) := fun H1 e Q q =>
  h1 H1 e _ fun H2 e2 => h2 H2 (e.trans e2) _ fun H3 e3 => h3 H3 ((e.trans e2).trans e3) _ fun y H4 e4 k => ⟨sz_of (by show 3 ≤ 100000; decide), fun p hp =>
    q _ _ (((e2.trans e3).trans e4).trans (Ex.new hp)) ⟨p, y, rfl, upd_same, k.mono (Tu.ex (Ex.new hp))⟩⟩
theorem etd_nt (h1 : Ev ta σ H (.str "not")) (h3 : EvTd tx σ H t) : EvTd (tTup (tCons ta (tCons tx tNil))) σ H (.nt t) := fun H1 e Q q =>
  h1 H1 e _ fun H2 e2 => h3 H2 (e.trans e2) _ fun y H4 e4 k => ⟨sz_of (by show 2 ≤ 100000; decide), fun p hp =>
    q _ _ ((e2.trans e4).trans (Ex.new hp)) ⟨p, y, rfl, upd_same, k.mono (Tu.ex (Ex.new hp))⟩⟩
theorem etd_bi {w : Str} (h1 : Ev ta σ H (.str w)) (h2 : EvTd tb σ H t) (h3 : EvTd tx σ H u) : EvTd (tTup (tCons ta (tCons tb (tCons tx tNil)))) σ H (.bi w t u) := fun H1 e Q q =>
  h1 H1 e _ fun H2 e2 => h2 H2 (e.trans e2) _ fun y H3 e3 k1 => h3 H3 ((e.trans e2).trans e3) _ fun z H4 e4 k2 => ⟨sz_of (by show 3 ≤ 100000; decide), fun p hp =>
    q _ _ (((e2.trans e3).trans e4).trans (Ex.new hp)) ⟨p, y, z, rfl, upd_same, k1.mono (Tu.ex (e4.trans (Ex.new hp))), k2.mono (Tu.ex (Ex.new hp))⟩⟩
/-! ### statements -/
/-- x = l.pop() -/
theorem q_pop {y : V} (hl : H l = some (.lst (xs ++ [y]))) (ha : Ev ta σ H (.ref l)) (k : ∀ H1, Ex H H1 → tz D (σ.set i (some y)) (upd H1 l (.lst xs))) : tSeq (tAsg (tBM0 K "list" rPop ta) (gName i)) tz D σ H := ha H (Ex.refl H) _ fun H1 e1 =>
  ⟨Or.inl ⟨rfl, _, sq_of (e1 l _ hl)⟩, l, xs ++ [y], y, rfl, rfl, e1 l _ hl, by simp, by
    rw [List.dropLast_concat]
    exact k H1 e1⟩
/-- l.extend(t), t a new tuple -/
theorem s_ext (hl : H l = some (.lst xs)) (ha : Ev ta σ H (.ref l)) (h : EvU te σ H ys) (hz : xs.length + ys.length ≤ 100000) (k : ∀ H1, Ex H H1 → D.nx σ (upd H1 l (.lst (xs ++ ys)))) :
    tDrop (tBM K "list" (rExtT K) ta (tCons te tNil)) D σ H := ha H (Ex.refl H) _ fun H1 e1 =>
  ⟨Or.inl ⟨rfl, xs, sq_of (e1 l _ hl)⟩, h H1 e1 _ fun p H2 hp e2 h2 => ⟨l, p, xs, ys, rfl, rfl, e2 l _ (e1 l _ hl), st_of h2, sz_of hz, k H2 (e1.trans e2)⟩⟩
theorem s_extK (hl : H l = some (.lst xs)) (ha : Ev ta σ H (.ref l)) (h : EvKs te σ H ts) (hz : xs.length + ts.length ≤ 100000) (k : ∀ H1 ys, Ex H H1 → Ats H1 ys ts → D.nx σ (upd H1 l (.lst (xs ++ ys)))) :
    tDrop (tBM K "list" (rExtT K) ta (tCons te tNil)) D σ H := ha H (Ex.refl H) _ fun H1 e1 =>
  ⟨Or.inl ⟨rfl, xs, sq_of (e1 l _ hl)⟩, h H1 e1 _ fun p ys H2 hp e2 h2 kk => ⟨l, p, xs, ys, rfl, rfl, e2 l _ (e1 l _ hl), st_of h2, sz_of (by rw [kk.len]; exact hz), k H2 ys (e1.trans e2) kk⟩⟩
end G
end
section
set_option maxHeartbeats 2000000
namespace G
open PySem
mutual
def bnd : PyData → Nat
  | .none => 4
  | .bool _ => 5
  | .int _ => 22
  | .str _ => 100000000
  | .list xs => bndAll xs + 2
  | .tuple xs => bndAll xs + 4
  | .dict _ => 100000000
def bndAll : List PyData → Nat
  | [] => 0
  | x :: xs => bnd x + 2 + bndAll xs
end
mutual
def smallD : PyData → Bool
  | .none => true
  | .bool _ => true
  | .int i => decide (i.natAbs < 10 ^ 20)
  | .str _ => false
  | .list xs => smallAll xs
  | .tuple xs => smallAll xs
  | .dict _ => false
def smallAll : List PyData → Bool
  | [] => true
  | x :: xs => smallD x && smallAll xs
end
theorem log_small {n : Nat} (h : n < 10 ^ 20) : n.log2 < 1920 := by
  by_cases h0 : n = 0
  · subst h0; decide
  · refine (Nat.log2_lt h0).mpr (Nat.lt_of_lt_of_le h (by decide))
mutual
theorem small_show : ∀ {d : PyData}, smallD d = true → d.showable = true
  | .none, _ => by simp [PyData.showable]
  | .bool _, _ => by simp [PyData.showable]
  | .int i, h => by simp only [smallD, decide_eq_true_eq] at h; simpa [PyData.showable] using log_small h
  | .str _, h => by simp [smallD] at h
  | .list xs, h => by simp only [smallD] at h; simpa [PyData.showable] using small_showAll h
  | .tuple xs, h => by simp only [smallD] at h; simpa [PyData.showable] using small_showAll h
  | .dict _, h => by simp [smallD] at h
theorem small_showAll : ∀ {ds : List PyData}, smallAll ds = true → PyData.showableAll ds = true
  | [], _ => by simp [PyData.showableAll]
  | d :: ds, h => by
    simp only [smallAll, Bool.and_eq_true] at h
    simp [PyData.showableAll, small_show h.1, small_showAll h.2]
end
theorem cat_len (a b : Str) : (a ++ b).length = a.length + b.length := Str.length_append a b
theorem list_text_len (ts : List Str) : (listText ts).length ≤ piled ts + 2 := by
  rw [listText_eq_join, cat_len, cat_len]
  have e1 : ((("[" : String) : Str)).length = 1 := by decide
  have e2 : ((("]" : String) : Str)).length = 1 := by decide
  by_cases h : ts = []
  · subst h
    have e3 : (Str.join ", " []).length = 0 := by decide
    omega
  · have := join_length_add ts h
    omega
theorem tuple_text_len (ts : List Str) : (tupleText ts).length ≤ piled ts + 4 := by
  unfold tupleText
  rw [cat_len, cat_len]
  have e1 : ((("(" : String) : Str)).length = 1 := by decide
  have e2 : (((if ts.length == 1 then ",)" else ")" : String) : Str)).length ≤ 2 := by split <;> decide
  by_cases h : ts = []
  · subst h
    have e3 : (Str.join ", " []).length = 0 := by decide
    omega
  · have := join_length_add ts h
    omega
mutual
theorem small_len : ∀ {d : PyData}, smallD d = true → d.shown.length ≤ bnd d
  | .none, _ => by simp only [PyData.shown, bnd]; decide
  | .bool b, _ => by simp only [PyData.shown, bnd]; cases b <;> decide
  | .int i, h => by
    simp only [smallD, decide_eq_true_eq] at h
    have := int_text_length_le10 (k := 20) (by decide) h
    simp only [PyData.shown, bnd]
    rw [ofString_length]
    omega
  | .str _, h => by simp [smallD] at h
  | .list xs, h => by
    simp only [smallD] at h
    have := small_lenAll h
    simp only [PyData.shown, bnd]
    exact Nat.le_trans (list_text_len _) (by omega)
  | .tuple xs, h => by
    simp only [smallD] at h
    have := small_lenAll h
    simp only [PyData.shown, bnd]
    exact Nat.le_trans (tuple_text_len _) (by omega)
  | .dict _, h => by simp [smallD] at h
theorem small_lenAll : ∀ {ds : List PyData}, smallAll ds = true → piled (PyData.shownAll ds) ≤ bndAll ds
  | [], _ => by simp [PyData.shownAll, piled, bndAll]
  | d :: ds, h => by
    simp only [smallAll, Bool.and_eq_true] at h
    have h1 := small_len h.1
    have h2 := small_lenAll h.2
    simp only [PyData.shownAll, piled_cons, bndAll]
    omega
end
theorem small_ints {ns : List Int} (h : ∀ n, n ∈ ns → n.natAbs < 10 ^ 20) : smallAll (ns.map PyData.int) = true := by
  induction ns with
  | nil => rfl
  | cons n ns ih =>
    rw [List.map_cons]
    simp only [smallAll, smallD, Bool.and_eq_true, decide_eq_true_eq]
    exact ⟨h n (List.mem_cons_self ..), ih fun m hm => h m (List.mem_cons_of_mem _ hm)⟩
theorem bnd_ints (ns : List Int) : bndAll (ns.map PyData.int) = 24 * ns.length := by
  induction ns with
  | nil => rfl
  | cons n ns ih => rw [List.map_cons, bndAll, ih, List.length_cons, bnd]; omega
end G
end
section
set_option maxHeartbeats 2000000
namespace K22
open PySem L2
def top (i : Nat) : Stmt := PySem.Challenge.pw_leadrules_k22_whole_days_of_formulas.main.body.getD i (.Pass ⟨0, 0, 0, 0⟩)
abbrev s__wall : Stmt := (top 0)
abbrev s_is_day : Stmt := (top 2)
theorem sc_is_day : FnScope ["value"] ["value"] (defScope s_is_day) := ⟨rfl, rfl, rfl, by decide +kernel, rfl, by decide +kernel, by decide +kernel⟩
abbrev s_is_count : Stmt := (top 3)
theorem sc_is_count : FnScope ["value"] ["value"] (defScope s_is_count) := ⟨rfl, rfl, rfl, by decide +kernel, rfl, by decide +kernel, by decide +kernel⟩
abbrev s_is_rule : Stmt := (top 4)
theorem sc_is_rule : FnScope ["value"] ["value"] (defScope s_is_rule) := ⟨rfl, rfl, rfl, by decide +kernel, rfl, by decide +kernel, by decide +kernel⟩
abbrev s_is_name : Stmt := (top 5)
theorem sc_is_name : FnScope ["value"] ["value"] (defScope s_is_name) := ⟨rfl, rfl, rfl, by decide +kernel, rfl, by decide +kernel, by decide +kernel⟩
abbrev s_is_days : Stmt := (top 6)
theorem sc_is_days : FnScope ["value", "name", "day"] ["value"] (defScope s_is_days) := ⟨rfl, rfl, rfl, by decide +kernel, rfl, by decide +kernel, by decide +kernel⟩
abbrev s_InvalidDay___init__ : Stmt := (inClass (top 9) 0)
abbrev s_InvalidCount___init__ : Stmt := (inClass (top 10) 0)
abbrev s_InvalidFormula___init__ : Stmt := (inClass (top 11) 0)
abbrev s_InvalidSaying___init__ : Stmt := (inClass (top 12) 0)
abbrev s_InvalidDays___init__ : Stmt := (inClass (top 13) 0)
abbrev s_InvalidWorld___init__ : Stmt := (inClass (top 14) 0)
abbrev s_InvalidTable___init__ : Stmt := (inClass (top 15) 0)
abbrev s_MissingRule___init__ : Stmt := (inClass (top 17) 0)
abbrev s_MissingName___init__ : Stmt := (inClass (top 18) 0)
abbrev s_TooMany___init__ : Stmt := (inClass (top 20) 0)
abbrev s_need_day : Stmt := (top 23)
theorem sc_need_day : FnScope ["value"] ["value"] (defScope s_need_day) := ⟨rfl, rfl, rfl, by decide +kernel, rfl, by decide +kernel, by decide +kernel⟩
abbrev s_need_length : Stmt := (top 24)
theorem sc_need_length : FnScope ["value"] ["value"] (defScope s_need_length) := ⟨rfl, rfl, rfl, by decide +kernel, rfl, by decide +kernel, by decide +kernel⟩
abbrev s_need_days : Stmt := (top 25)
theorem sc_need_days : FnScope ["value"] ["value"] (defScope s_need_days) := ⟨rfl, rfl, rfl, by decide +kernel, rfl, by decide +kernel, by decide +kernel⟩
abbrev s_is_list : Stmt := (top 26)
theorem sc_is_list : FnScope ["value"] ["value"] (defScope s_is_list) := ⟨rfl, rfl, rfl, by decide +kernel, rfl, by decide +kernel, by decide +kernel⟩
abbrev s_parts_of : Stmt := (top 27)
theorem sc_parts_of : FnScope ["told"] ["told"] (defScope s_parts_of) := ⟨rfl, rfl, rfl, by decide +kernel, rfl, by decide +kernel, by decide +kernel⟩
abbrev s_all_pieces : Stmt := (top 28)
theorem sc_all_pieces : FnScope ["told", "found", "waiting", "piece"] ["told"] (defScope s_all_pieces) := ⟨rfl, rfl, rfl, by decide +kernel, rfl, by decide +kernel, by decide +kernel⟩
abbrev s_names_in : Stmt := (top 29)
theorem sc_names_in : FnScope ["told", "piece"] ["told"] (defScope s_names_in) := ⟨rfl, rfl, rfl, by decide +kernel, rfl, by decide +kernel, by decide +kernel⟩
abbrev s_rules_in : Stmt := (top 30)
theorem sc_rules_in : FnScope ["told", "piece"] ["told"] (defScope s_rules_in) := ⟨rfl, rfl, rfl, by decide +kernel, rfl, by decide +kernel, by decide +kernel⟩
abbrev s_need_few_pieces : Stmt := (top 31)
theorem sc_need_few_pieces : FnScope ["tolds", "told"] ["tolds"] (defScope s_need_few_pieces) := ⟨rfl, rfl, rfl, by decide +kernel, rfl, by decide +kernel, by decide +kernel⟩
abbrev s_Table___init__ : Stmt := (inClass (top 33) 2)
theorem sc_Table___init__ : FnScope ["self", "days"] ["self", "days"] (defScope s_Table___init__) := ⟨rfl, rfl, rfl, by decide +kernel, rfl, by decide +kernel, by decide +kernel⟩
abbrev s_Table_length : Stmt := (inClass (top 33) 3)
theorem sc_Table_length : FnScope ["self"] ["self"] (defScope s_Table_length) := ⟨rfl, rfl, rfl, by decide +kernel, rfl, by decide +kernel, by decide +kernel⟩
abbrev s_Table_days : Stmt := (inClass (top 33) 4)
abbrev s_Table_asked_rows : Stmt := (inClass (top 33) 5)
theorem sc_Table_asked_rows : FnScope ["self"] ["self"] (defScope s_Table_asked_rows) := ⟨rfl, rfl, rfl, by decide +kernel, rfl, by decide +kernel, by decide +kernel⟩
abbrev s_Table_on : Stmt := (inClass (top 33) 6)
theorem sc_Table_on : FnScope ["self", "day", "turns", "place"] ["self", "day"] (defScope s_Table_on) := ⟨rfl, rfl, rfl, by decide +kernel, rfl, by decide +kernel, by decide +kernel⟩
abbrev s_Table___call__ : Stmt := (inClass (top 33) 7)
abbrev s_Table_by : Stmt := (inClass (top 33) 8)
theorem sc_Table_by : FnScope ["self", "day", "turns"] ["self", "day"] (defScope s_Table_by) := ⟨rfl, rfl, rfl, by decide +kernel, rfl, by decide +kernel, by decide +kernel⟩
abbrev s_Table_til : Stmt := (inClass (top 33) 9)
theorem sc_Table_til : FnScope ["self", "day"] ["self", "day"] (defScope s_Table_til) := ⟨rfl, rfl, rfl, by decide +kernel, rfl, by decide +kernel, by decide +kernel⟩
abbrev s_Table_answers : Stmt := (inClass (top 33) 10)
abbrev s_Table_is_served : Stmt := (inClass (top 33) 11)
abbrev s_Table_leads : Stmt := (inClass (top 33) 12)
abbrev s_Table_mean_lead : Stmt := (inClass (top 33) 13)
abbrev s_Table_fixed_days : Stmt := (inClass (top 33) 14)
abbrev s_Table_moved : Stmt := (inClass (top 33) 15)
abbrev s_Table_asked_later : Stmt := (inClass (top 33) 16)
abbrev s_Table_by_table : Stmt := (inClass (top 33) 17)
abbrev s_Table_til_table : Stmt := (inClass (top 33) 18)
abbrev s_Table_stretched : Stmt := (inClass (top 33) 19)
theorem sc_Table_stretched : FnScope ["self", "count", "day"] ["self", "count"] (defScope s_Table_stretched) := ⟨rfl, rfl, rfl, by decide +kernel, rfl, by decide +kernel, by decide +kernel⟩
abbrev s_Table_shortest : Stmt := (inClass (top 33) 20)
theorem sc_Table_shortest : FnScope ["self", "lengths", "length"] ["self"] (defScope s_Table_shortest) := ⟨rfl, rfl, rfl, by decide +kernel, rfl, by decide +kernel, by decide +kernel⟩
abbrev s_Table_plain : Stmt := (inClass (top 33) 21)
abbrev s_Table_is_same : Stmt := (inClass (top 33) 22)
abbrev s_Table___eq__ : Stmt := (inClass (top 33) 23)
abbrev s_Table___repr__ : Stmt := (inClass (top 33) 24)
abbrev s_is_table : Stmt := (top 34)
theorem sc_is_table : FnScope ["value", "rises", "day", "place"] ["value"] (defScope s_is_table) := ⟨rfl, rfl, rfl, by decide +kernel, rfl, by decide +kernel, by decide +kernel⟩
abbrev s_is_world : Stmt := (top 35)
theorem sc_is_world : FnScope ["value", "rule", "table"] ["value"] (defScope s_is_world) := ⟨rfl, rfl, rfl, by decide +kernel, rfl, by decide +kernel, by decide +kernel⟩
abbrev s_need_world : Stmt := (top 36)
theorem sc_need_world : FnScope ["value"] ["value"] (defScope s_need_world) := ⟨rfl, rfl, rfl, by decide +kernel, rfl, by decide +kernel, by decide +kernel⟩
abbrev s__many_ahead : Stmt := (top 37)
theorem sc__many_ahead : FnScope ["days", "day", "low", "high", "middle"] ["days", "day"] (defScope s__many_ahead) := ⟨rfl, rfl, rfl, by decide +kernel, rfl, by decide +kernel, by decide +kernel⟩
abbrev s__repeats : Stmt := (top 38)
theorem sc__repeats : FnScope ["table", "length", "asked", "served"] ["table", "length"] (defScope s__repeats) := ⟨rfl, rfl, rfl, by decide +kernel, rfl, by decide +kernel, by decide +kernel⟩
abbrev s_is_formula : Stmt := (top 41)
theorem sc_is_formula : FnScope ["value", "waiting", "piece"] ["value"] (defScope s_is_formula) := ⟨rfl, rfl, rfl, by decide +kernel, rfl, by decide +kernel, by decide +kernel⟩
abbrev s_need_formula : Stmt := (top 42)
theorem sc_need_formula : FnScope ["value"] ["value"] (defScope s_need_formula) := ⟨rfl, rfl, rfl, by decide +kernel, rfl, by decide +kernel, by decide +kernel⟩
abbrev s_need_rules : Stmt := (top 43)
theorem sc_need_rules : FnScope ["told", "world", "rule"] ["told", "world"] (defScope s_need_rules) := ⟨rfl, rfl, rfl, by decide +kernel, rfl, by decide +kernel, by decide +kernel⟩
abbrev s_need_names : Stmt := (top 44)
theorem sc_need_names : FnScope ["told", "days", "name"] ["told", "days"] (defScope s_need_names) := ⟨rfl, rfl, rfl, by decide +kernel, rfl, by decide +kernel, by decide +kernel⟩
abbrev s_need_known : Stmt := (top 45)
theorem sc_need_known : FnScope ["told", "days", "world"] ["told", "days", "world"] (defScope s_need_known) := ⟨rfl, rfl, rfl, by decide +kernel, rfl, by decide +kernel, by decide +kernel⟩
abbrev s_day_of : Stmt := (top 46)
theorem sc_day_of : FnScope ["formula", "days", "world"] ["formula", "days", "world"] (defScope s_day_of) := ⟨rfl, rfl, rfl, by decide +kernel, rfl, by decide +kernel, by decide +kernel⟩
abbrev s_reckoned : Stmt := (top 47)
theorem sc_reckoned : FnScope ["formula", "days", "rules", "word", "within", "part"] ["formula", "days", "rules"] (defScope s_reckoned) := ⟨rfl, rfl, rfl, by decide +kernel, rfl, by decide +kernel, by decide +kernel⟩
abbrev s__is_piece : Stmt := (top 48)
theorem sc__is_piece : FnScope ["value", "word"] ["value"] (defScope s__is_piece) := ⟨rfl, rfl, rfl, by decide +kernel, rfl, by decide +kernel, by decide +kernel⟩
abbrev s_is_saying : Stmt := (top 51)
theorem sc_is_saying : FnScope ["value", "waiting", "saying"] ["value"] (defScope s_is_saying) := ⟨rfl, rfl, rfl, by decide +kernel, rfl, by decide +kernel, by decide +kernel⟩
abbrev s_need_saying : Stmt := (top 52)
theorem sc_need_saying : FnScope ["value"] ["value"] (defScope s_need_saying) := ⟨rfl, rfl, rfl, by decide +kernel, rfl, by decide +kernel, by decide +kernel⟩
abbrev s_need_told : Stmt := (top 53)
theorem sc_need_told : FnScope ["value"] ["value"] (defScope s_need_told) := ⟨rfl, rfl, rfl, by decide +kernel, rfl, by decide +kernel, by decide +kernel⟩
abbrev s_holds : Stmt := (top 54)
theorem sc_holds : FnScope ["saying", "days", "world"] ["saying", "days", "world"] (defScope s_holds) := ⟨rfl, rfl, rfl, by decide +kernel, rfl, by decide +kernel, by decide +kernel⟩
abbrev s_is_so : Stmt := (top 55)
theorem sc_is_so : FnScope ["saying", "days", "rules", "word"] ["saying", "days", "rules"] (defScope s_is_so) := ⟨rfl, rfl, rfl, by decide +kernel, rfl, by decide +kernel, by decide +kernel⟩
abbrev s_pieces : Stmt := (top 56)
theorem sc_pieces : FnScope ["told"] ["told"] (defScope s_pieces) := ⟨rfl, rfl, rfl, by decide +kernel, rfl, by decide +kernel, by decide +kernel⟩
abbrev s_names_of : Stmt := (top 57)
theorem sc_names_of : FnScope ["told"] ["told"] (defScope s_names_of) := ⟨rfl, rfl, rfl, by decide +kernel, rfl, by decide +kernel, by decide +kernel⟩
abbrev s_rules_of : Stmt := (top 58)
theorem sc_rules_of : FnScope ["told"] ["told"] (defScope s_rules_of) := ⟨rfl, rfl, rfl, by decide +kernel, rfl, by decide +kernel, by decide +kernel⟩
abbrev s__is_tuple_of_saying : Stmt := (top 59)
theorem sc__is_tuple_of_saying : FnScope ["value"] ["value"] (defScope s__is_tuple_of_saying) := ⟨rfl, rfl, rfl, by decide +kernel, rfl, by decide +kernel, by decide +kernel⟩
abbrev s__law_pot : Stmt := (top 61)
theorem sc__law_pot : FnScope ["_law_script", "_law_k", "_law_cell"] ["_law_script", "_law_k"] (defScope s__law_pot) := ⟨rfl, rfl, rfl, by decide +kernel, rfl, by decide +kernel, by decide +kernel⟩
abbrev s__law_draw : Stmt := (top 62)
theorem sc__law_draw : FnScope ["_law_pot_here", "_law_many", "_law_digit"] ["_law_pot_here", "_law_many"] (defScope s__law_draw) := ⟨rfl, rfl, rfl, by decide +kernel, rfl, by decide +kernel, by decide +kernel⟩
abbrev s__law_pick : Stmt := (top 63)
theorem sc__law_pick : FnScope ["_law_pot_here", "_law_some_here"] ["_law_pot_here", "_law_some_here"] (defScope s__law_pick) := ⟨rfl, rfl, rfl, by decide +kernel, rfl, by decide +kernel, by decide +kernel⟩
abbrev s__law_some : Stmt := (top 64)
theorem sc__law_some : FnScope ["_law_pot_here", "_law_letters_here", "_law_many", "_law_left", "_law_found", "_law_turn"] ["_law_pot_here", "_law_letters_here", "_law_many"] (defScope s__law_some) := ⟨rfl, rfl, rfl, by decide +kernel, rfl, by decide +kernel, by decide +kernel⟩
abbrev s__law_number : Stmt := (top 65)
theorem sc__law_number : FnScope ["_law_pot_here"] ["_law_pot_here"] (defScope s__law_number) := ⟨rfl, rfl, rfl, by decide +kernel, rfl, by decide +kernel, by decide +kernel⟩
abbrev s__law_formula : Stmt := (top 66)
theorem sc__law_formula : FnScope ["_law_pot_here", "_law_deep", "_law_names", "_law_rules", "_law_way", "_law_one"] ["_law_pot_here", "_law_deep", "_law_names", "_law_rules"] (defScope s__law_formula) := ⟨rfl, rfl, rfl, by decide +kernel, rfl, by decide +kernel, by decide +kernel⟩
abbrev s__law_saying : Stmt := (top 67)
theorem sc__law_saying : FnScope ["_law_pot_here", "_law_deep", "_law_names", "_law_rules", "_law_way", "_law_one"] ["_law_pot_here", "_law_deep", "_law_names", "_law_rules"] (defScope s__law_saying) := ⟨rfl, rfl, rfl, by decide +kernel, rfl, by decide +kernel, by decide +kernel⟩
abbrev s__law_table : Stmt := (top 68)
theorem sc__law_table : FnScope ["_law_pot_here", "_law_many", "_law_days_here", "_law_turn"] ["_law_pot_here"] (defScope s__law_table) := ⟨rfl, rfl, rfl, by decide +kernel, rfl, by decide +kernel, by decide +kernel⟩
abbrev s__law_on : Stmt := (top 69)
theorem sc__law_on : FnScope ["_law_days_here", "_law_day_here", "_law_turn"] ["_law_days_here", "_law_day_here"] (defScope s__law_on) := ⟨rfl, rfl, rfl, by decide +kernel, rfl, by decide +kernel, by decide +kernel⟩
abbrev s__law_leads : Stmt := (top 70)
theorem sc__law_leads : FnScope ["_law_days_here", "_law_some_here", "_law_place", "_law_served"] ["_law_days_here"] (defScope s__law_leads) := ⟨rfl, rfl, rfl, by decide +kernel, rfl, by decide +kernel, by decide +kernel⟩
abbrev s__law_by : Stmt := (top 71)
theorem sc__law_by : FnScope ["_law_days_here", "_law_day_here", "_law_least", "_law_most", "_law_here"] ["_law_days_here", "_law_day_here"] (defScope s__law_by) := ⟨rfl, rfl, rfl, by decide +kernel, rfl, by decide +kernel, by decide +kernel⟩
abbrev s__law_til : Stmt := (top 72)
theorem sc__law_til : FnScope ["_law_days_here", "_law_day_here", "_law_least", "_law_most", "_law_here"] ["_law_days_here", "_law_day_here"] (defScope s__law_til) := ⟨rfl, rfl, rfl, by decide +kernel, rfl, by decide +kernel, by decide +kernel⟩
abbrev s__law_day : Stmt := (top 73)
theorem sc__law_day : FnScope ["_law_formula_here", "_law_days_here", "_law_world_here", "_law_word", "_law_inner", "_law_table_here"] ["_law_formula_here", "_law_days_here", "_law_world_here"] (defScope s__law_day) := ⟨rfl, rfl, rfl, by decide +kernel, rfl, by decide +kernel, by decide +kernel⟩
abbrev s__law_is_so : Stmt := (top 74)
theorem sc__law_is_so : FnScope ["_law_saying_here", "_law_days_here", "_law_world_here", "_law_word", "_law_one", "_law_other"] ["_law_saying_here", "_law_days_here", "_law_world_here"] (defScope s__law_is_so) := ⟨rfl, rfl, rfl, by decide +kernel, rfl, by decide +kernel, by decide +kernel⟩
abbrev s__law_parts : Stmt := (top 75)
theorem sc__law_parts : FnScope ["_law_told", "_law_part"] ["_law_told"] (defScope s__law_parts) := ⟨rfl, rfl, rfl, by decide +kernel, rfl, by decide +kernel, by decide +kernel⟩
abbrev s__law_size : Stmt := (top 76)
theorem sc__law_size : FnScope ["_law_told", "_law_part"] ["_law_told"] (defScope s__law_size) := ⟨rfl, rfl, rfl, by decide +kernel, rfl, by decide +kernel, by decide +kernel⟩
abbrev s__law_letters : Stmt := (top 77)
theorem sc__law_letters : FnScope ["_law_told", "_law_words", "_law_found", "_law_part"] ["_law_told", "_law_words"] (defScope s__law_letters) := ⟨rfl, rfl, rfl, by decide +kernel, rfl, by decide +kernel, by decide +kernel⟩
abbrev s__law_short : Stmt := (top 78)
theorem sc__law_short : FnScope ["_law_pot_here", "_law_deep", "_law_names", "_law_rules", "_law_most", "_law_saying_here"] ["_law_pot_here", "_law_deep", "_law_names", "_law_rules", "_law_most"] (defScope s__law_short) := ⟨rfl, rfl, rfl, by decide +kernel, rfl, by decide +kernel, by decide +kernel⟩
abbrev s__law_days : Stmt := (top 79)
theorem sc__law_days : FnScope ["_law_pot_here", "_law_names", "_law_name"] ["_law_pot_here", "_law_names"] (defScope s__law_days) := ⟨rfl, rfl, rfl, by decide +kernel, rfl, by decide +kernel, by decide +kernel⟩
abbrev s__law_world : Stmt := (top 80)
theorem sc__law_world : FnScope ["_law_pot_here", "_law_rules", "_law_rule"] ["_law_pot_here", "_law_rules"] (defScope s__law_world) := ⟨rfl, rfl, rfl, by decide +kernel, rfl, by decide +kernel, by decide +kernel⟩
abbrev s__law_tables : Stmt := (top 81)
theorem sc__law_tables : FnScope ["_law_world_here", "_law_rule"] ["_law_world_here"] (defScope s__law_tables) := ⟨rfl, rfl, rfl, by decide +kernel, rfl, by decide +kernel, by decide +kernel⟩
abbrev s__law_is_integer : Stmt := (top 82)
theorem sc__law_is_integer : FnScope ["_law_value"] ["_law_value"] (defScope s__law_is_integer) := ⟨rfl, rfl, rfl, by decide +kernel, rfl, by decide +kernel, by decide +kernel⟩
abbrev s__law_turned : Stmt := (top 83)
theorem sc__law_turned : FnScope ["_law_some_here", "_law_key"] ["_law_some_here"] (defScope s__law_turned) := ⟨rfl, rfl, rfl, by decide +kernel, rfl, by decide +kernel, by decide +kernel⟩
abbrev s__law_told_right : Stmt := (top 84)
theorem sc__law_told_right : FnScope ["_law_told", "_law_words", "_law_names", "_law_rules", "_law_turn", "_law_found", "_law_ruled"] ["_law_told", "_law_words"] (defScope s__law_told_right) := ⟨rfl, rfl, rfl, by decide +kernel, rfl, by decide +kernel, by decide +kernel⟩
abbrev s__law_other_tables : Stmt := (top 85)
theorem sc__law_other_tables : FnScope ["_law_pot_here", "_law_tables_here", "_law_found", "_law_rule", "_law_table_here"] ["_law_pot_here", "_law_tables_here"] (defScope s__law_other_tables) := ⟨rfl, rfl, rfl, by decide +kernel, rfl, by decide +kernel, by decide +kernel⟩
abbrev s__law_days_right : Stmt := (top 86)
theorem sc__law_days_right : FnScope ["_law_pot_here", "_law_formula_here", "_law_days_here", "_law_world_here", "_law_tables_here", "_law_due", "_law_shown", "_law_some_here", "_law_told", "_law_name", "_law_later", "_law_after", "_law_rule", "_law_kept"] ["_law_pot_here", "_law_formula_here", "_law_days_here", "_law_world_here"] (defScope s__law_days_right) := ⟨rfl, rfl, rfl, by decide +kernel, rfl, by decide +kernel, by decide +kernel⟩
abbrev s__law_facts_right : Stmt := (top 87)
theorem sc__law_facts_right : FnScope ["_law_pot_here", "_law_formula_here", "_law_days_here", "_law_world_here", "_law_tables_here", "_law_due", "_law_rule", "_law_early"] ["_law_pot_here", "_law_formula_here", "_law_days_here", "_law_world_here"] (defScope s__law_facts_right) := ⟨rfl, rfl, rfl, by decide +kernel, rfl, by decide +kernel, by decide +kernel⟩
abbrev s__law_sayings_right : Stmt := (top 88)
theorem sc__law_sayings_right : FnScope ["_law_pot_here", "_law_saying_here", "_law_days_here", "_law_world_here", "_law_tables_here", "_law_turn", "_law_due", "_law_told", "_law_one"] ["_law_pot_here", "_law_saying_here", "_law_days_here", "_law_world_here"] (defScope s__law_sayings_right) := ⟨rfl, rfl, rfl, by decide +kernel, rfl, by decide +kernel, by decide +kernel⟩
abbrev s__law_right : Stmt := (top 89)
theorem sc__law_right : FnScope ["_law_pot_here", "_law_names", "_law_rules", "_law_formula_here", "_law_saying_here", "_law_days_here", "_law_world_here"] ["_law_pot_here"] (defScope s__law_right) := ⟨rfl, rfl, rfl, by decide +kernel, rfl, by decide +kernel, by decide +kernel⟩
abbrev s_law : Stmt := (top 90)
theorem sc_law : FnScope ["_law_script", "_law_k"] ["_law_script"] (defScope s_law) := ⟨rfl, rfl, rfl, by decide +kernel, rfl, by decide +kernel, by decide +kernel⟩
end K22
end
section
set_option maxHeartbeats 4000000
namespace K22
open PySem L2 Evl G TM TD
/-- a written dict of texts and numbers: what stands in it, what does not -/
structure KD (K : PySem.W.Frag) (w : World) (a : Addr) (rows : List (Str × Int)) (off : List Str) : Prop where
  kd : ∃ es n, KDict K w a es n
  there : ∀ p ∈ rows, KDct K w a p.1 (.int p.2) ∧ ∃ u, PySem.W.nsIn K a p.1 = some (some u)
  miss : ∀ x ∈ off, PySem.W.nsIn K a x = some none
def sizeF : List (Str × Int) := [("day", 2), ("num", 2), ("on", 3), ("by", 3), ("til", 3), ("add", 3), ("late", 3), ("soon", 3)]
def sizeS : List (Str × Int) := [("le", 3), ("and", 3), ("or", 3), ("not", 2)]
def wordS : List Str := ["le", "and", "or", "not"]
structure Txt (P : Program) (w : World) (K : PySem.W.Frag) (mg : Str → Option Value) (C SZ SY : Addr) : Prop where
  cl : Cls K C
  nD : NoAttr K C "_days"
  kc : PySem.W.keepIn K (.ref C) = true
  mki : PySem.W.makesIn K C = true
  mg_Table : mg "Table" = some (.ref C)
  tyC : ∀ (H : Hp) (a dx : Addr) (fs : List (Str × V)), H a = some (.ins C dx fs) → TyOf K H (.ref a) (.ref C)
  cM : ∃ (mc : Value) (tk : Tok), ClX.CRead K C mc ∧ ClX.CVal K C mc "MOST_LENGTH" (.int 600) (.int 600 tk)
  cL : ∃ tk : Tok, Con K C "MOST_LENGTH" (.int 600) (.int 600 tk)
  z : KD K w SZ sizeF wordS
  mg_SIZES : mg "SIZES" = some (.ref SZ)
  y : KD K w SY sizeS []
  mg_SIZES_OF_SAYINGS : mg "SIZES_OF_SAYINGS" = some (.ref SY)
  mg_MOST_PIECES : ∃ tk, mg "MOST_PIECES" = some (.int 60 tk)
  b_isinstance : mg "isinstance" = none
  b_int : mg "int" = none
  b_bool : mg "bool" = none
  b_list : mg "list" = none
  b_tuple : mg "tuple" = none
  b_str : mg "str" = none
  b_dict : mg "dict" = none
  b_len : mg "len" = none
  b_enumerate : mg "enumerate" = none
  b_range : mg "range" = none
  b_divmod : mg "divmod" = none
  b_min : mg "min" = none
  b_max : mg "max" = none
  b_all : mg "all" = none
  b_abs : mg "abs" = none
  b_repr : mg "repr" = none
  b_sum : mg "sum" = none
  b_set : mg "set" = none
  b_sorted : mg "sorted" = none
structure Cal (P : Program) (w : World) (K : PySem.W.Frag) (mg : Str → Option Value) (base : Heap) (x : Str) (f : Addr) (fd : FuncData) (ps : List Str) (k : Nat) (sp : Sp) : Prop where
  ok : FnOk P w K mg base CX0 k f fd ps sp
  mgx : mg x = some (.ref f)
  kp : PySem.W.keepIn K (.ref f) = true
  bd : Binds K fd ps []
/-! ### parts -/
def sp_parts_of : Sp := fun vs H Q _ => ∃ x t, vs = [x] ∧ At H x t ∧ Ok t ∧ RetKs (kids t) H Q
theorem spk_parts_of {x : V} {t : Td} {H : Hp} (h : At H x t) (o : Ok t) : SpKs sp_parts_of ([x] ++ []) H (kids t) := fun H1 e Q q E => ⟨x, t, rfl, h.mono (Tu.ex e), o, q⟩
theorem inV_str (x : Str) (xs : List Str) : inV (.str x) (xs.map V.str) = decide (x ∈ xs) := by
  unfold inV
  rw [List.any_map]
  induction xs with
  | nil => rfl
  | cons y xs ih =>
    rw [List.any_cons, ih]
    show ((y == x) || decide (x ∈ xs)) = decide (x ∈ y :: xs)
    by_cases h : x = y
    · subst h; simp
    · have h1 : (y == x) = false := beq_eq_false_iff_ne.mpr fun z => h z.symm
      rw [h1, Bool.false_or]
      simp [h]
section
variable {P : Program} {w : World} {K : PySem.W.Frag} {mg : Str → Option Value} {base : Heap} {C SZ SY : Addr}
theorem len2 {ys : List V} (h : ys.length = 2) : ∃ y z, ys = [y, z] := by
  match ys, h with
  | [y, z], _ => exact ⟨y, z, rfl⟩
def inDN (w : Str) : Bool := decide (w ∈ (["day", "num"] : List Str))
def inOB (w : Str) : Bool := decide (w ∈ (["on", "by", "til", "add"] : List Str))
/-- w in ("..", "..") -/
theorem ev_inW {σ : L2.St} {H : Hp} {ta : TE} {tA : TA} {x : Str} (ws : List Str) (h : Ev ta σ H (.str x)) (ha : EvA tA σ H (ws.map V.str)) (hz : ws.length ≤ 100) : Ev (tOp (rIn K false) ta (tTup tA)) σ H (.bl (decide (x ∈ ws))) := by
  rw [← inV_str]
  exact ev_inU h (eu_tup ha (by rw [List.length_map]; omega)) rfl (by rw [List.all_map]; exact List.all_eq_true.mpr fun _ _ => rfl)
theorem ev_at0 {σ : L2.St} {H : Hp} {te : TE} {a : Addr} {xs : List V} {y v : V} (h : Ev te σ H (.ref a)) (ha : H a = some (.tup (y :: xs))) : Ev (tOp (rIxT K) te (tC (.int 0))) σ H y := ev_op h ev_c (rv_ixT (st_of ha) (atI_nat (j := 0) rfl))
theorem ev_at1 {σ : L2.St} {H : Hp} {te : TE} {a : Addr} {xs : List V} {y z : V} (h : Ev te σ H (.ref a)) (ha : H a = some (.tup (y :: z :: xs))) : Ev (tOp (rIxT K) te (tC (.int 1))) σ H z := ev_op h ev_c (rv_ixT (st_of ha) (atI_nat (j := 1) rfl))
theorem ev_at2 {σ : L2.St} {H : Hp} {te : TE} {a : Addr} {xs : List V} {y z v : V} (h : Ev te σ H (.ref a)) (ha : H a = some (.tup (y :: z :: v :: xs))) : Ev (tOp (rIxT K) te (tC (.int 2))) σ H v := ev_op h ev_c (rv_ixT (st_of ha) (atI_nat (j := 2) rfl))
theorem ok_parts_of {f : Addr} {fd : FuncData} (F : Fun K "parts_of" "parts_of" s_parts_of f fd) (T : Txt P w K mg C SZ SY) : FnOk P w K mg base CX0 1 f fd ["told"] sp_parts_of := by
  refine F.ok sc_parts_of (fun vs H Q E h => ?_) (fun cdv A outer s H vs Q E hr h => ?_)
  · obtain ⟨x, t, rfl, _⟩ := h
    rfl
  · obtain ⟨x, t, rfl, ht, ok, k⟩ := h
    refine ⟨_, (pss_cons (ps_if (pt_cmpR (inS (K := K) rfl) (pe_ix (ixT (K := K) rfl) (pv 0) pe_int (fun _ _ => rfl)) (pe_tup (pa_cons pe_str (pa_cons pe_str pa_nil))) (by rfl)) (pss_one (ps_ret (pe_tup pa_nil))) pss_nil) (pss_cons (ps_if (pt_cmpR (inS (K := K) rfl) (pe_ix (ixT (K := K) rfl) (pv 0) pe_int (fun _ _ => rfl)) (pe_tup (pa_cons pe_str (pa_cons pe_str (pa_cons pe_str (pa_cons pe_str pa_nil))))) (by rfl)) (pss_one (ps_ret (pe_slice (slA (K := K) rfl) (pv 0) (po_some pe_int) po_none))) pss_nil) (pss_one (ps_ret (pe_slice (slA (K := K) rfl) (pv 0) (po_some pe_int) po_none))))), ?_⟩
    obtain ⟨a, ys, rfl, ha, hk⟩ := ht.open
    have w1 : ∀ H1, Ex H H1 → EvT (tTest (tOp (rIn K false) (tOp (rIxT K) (tVar 0) (tC (.int 0))) (tTup (tCons (tC (.str "day")) (tCons (tC (.str "num")) tNil))))) [some (V.ref a)] H1 (inDN (word t)) := fun H1 e =>
      et_test (ev_inW ["day", "num"] (ev_at0 (v := .non) (ev_var rfl) (e a _ ha)) (ea_cons ev_c (ea_cons ev_c ea_nil)) (by decide))
    have w2 : ∀ H1, Ex H H1 → EvT (tTest (tOp (rIn K false) (tOp (rIxT K) (tVar 0) (tC (.int 0))) (tTup (tCons (tC (.str "on")) (tCons (tC (.str "by")) (tCons (tC (.str "til")) (tCons (tC (.str "add")) tNil))))))) [some (V.ref a)] H1 (inOB (word t)) := fun H1 e =>
      et_test (ev_inW ["on", "by", "til", "add"] (ev_at0 (v := .non) (ev_var rfl) (e a _ ha)) (ea_cons ev_c (ea_cons ev_c (ea_cons ev_c (ea_cons ev_c ea_nil)))) (by decide))
    cases t with
    | lf w v =>
      cases hk
      refine q_when (w1 H (Ex.refl H)) (fun _ H1 e1 => s_retU (eu_tup ea_nil (by show 0 ≤ 100000; decide)) fun p H2 hp e2 h2 => k p [] H2 (fresh_back e1 hp) (e1.trans e2) h2 .nil) (fun h => ?_)
      change inDN w = false at h
      exfalso
      rcases ok with e | e <;> (subst e; revert h; decide)
    | ov w v t =>
      refine q_when (w1 H (Ex.refl H)) (fun h => ?_) (fun _ H1 e1 => q_when (w2 H1 e1) (fun _ H2 e2 => ?_) (fun h => ?_))
      · change inDN w = true at h
        exfalso
        rcases ok with e | e | e | e <;> (subst e; revert h; decide)
      · have : ys.length = 1 := hk.len
        obtain ⟨y, rfl⟩ : ∃ y, ys = [y] := List.length_eq_one_iff.mp this
        refine s_retU (eu_slA (ev_var rfl) (eo_some ev_c) eo_none (st_of ((e1.trans e2) a _ ha)) ?_) fun p H3 hp e3 h3 => ?_
        · rintro ⟨z, _⟩
          exact absurd z (by show ¬ ((min 2 3 : Nat) = 0); decide)
        · exact k p [y] H3 (fresh_back (e1.trans e2) hp) ((e1.trans e2).trans e3) h3 (hk.mono (Tu.ex ((e1.trans e2).trans e3)))
      · change inOB w = false at h
        exfalso
        rcases ok with e | e | e | e <;> (subst e; revert h; decide)
    | nt t =>
      have n1 : inDN "not" = false := by decide
      have n2 : inOB "not" = false := by decide
      refine q_when (b := inDN "not") (w1 H (Ex.refl H)) (fun h => by rw [n1] at h; cases h) (fun _ H1 e1 => q_when (b := inOB "not") (w2 H1 e1) (fun h => by rw [n2] at h; cases h) (fun _ H2 e2 => ?_))
      have : ys.length = 1 := hk.len
      obtain ⟨y, rfl⟩ : ∃ y, ys = [y] := List.length_eq_one_iff.mp this
      refine s_retU (eu_slA (ev_var rfl) (eo_some ev_c) eo_none (st_of ((e1.trans e2) a _ ha)) ?_) fun p H3 hp e3 h3 => ?_
      · rintro ⟨z, _⟩
        exact absurd z (by show ¬ ((min 1 2 : Nat) = 0); decide)
      · exact k p [y] H3 (fresh_back (e1.trans e2) hp) ((e1.trans e2).trans e3) h3 (hk.mono (Tu.ex ((e1.trans e2).trans e3)))
    | bi w t u =>
      refine q_when (w1 H (Ex.refl H)) (fun h => ?_) (fun _ H1 e1 => q_when (w2 H1 e1) (fun h => ?_) (fun _ H2 e2 => ?_))
      · change inDN w = true at h
        exfalso
        rcases ok with e | e | e | e | e <;> (subst e; revert h; decide)
      · change inOB w = true at h
        exfalso
        rcases ok with e | e | e | e | e <;> (subst e; revert h; decide)
      · have : ys.length = 2 := hk.len
        obtain ⟨y, z, rfl⟩ : ∃ y z, ys = [y, z] := len2 this
        refine s_retU (eu_slA (ev_var rfl) (eo_some ev_c) eo_none (st_of ((e1.trans e2) a _ ha)) ?_) fun p H3 hp e3 h3 => ?_
        · rintro ⟨z, _⟩
          exact absurd z (by show ¬ ((min 1 3 : Nat) = 0); decide)
        · exact k p [y, z] H3 (fresh_back (e1.trans e2) hp) ((e1.trans e2).trans e3) h3 (hk.mono (Tu.ex ((e1.trans e2).trans e3)))
end
/-! ### all pieces -/
def sp_all_pieces : Sp := fun vs H Q _ => ∃ x t, vs = [x] ∧ At H x t ∧ OkD t ∧ (pcs t).length ≤ 1000 ∧ RetLs (pcs t) H Q
theorem spl_all_pieces {x : V} {t : Td} {H : Hp} (h : At H x t) (o : OkD t) (z : (pcs t).length ≤ 1000) : SpLs sp_all_pieces ([x] ++ []) H (pcs t) := fun H1 e Q q E => ⟨x, t, rfl, h.mono (Tu.ex e), o, z, q⟩
theorem sizes_rev (ts : List Td) : sizes ts.reverse = sizes ts := by
  induction ts with
  | nil => rfl
  | cons t ts ih => rw [List.reverse_cons, sizes_app, sizes_cons, sizes_cons, ih]; show sizes ts + ((pcs t).length + 0) = _; omega
theorem sizes_len (ts : List Td) : ts.length ≤ sizes ts := by
  induction ts with
  | nil => exact Nat.le_refl _
  | cons t ts ih => rw [sizes_cons, List.length_cons]; have := pcs_pos t; omega
/-- the walk: what is found, what waits (its last is next) -/
structure Wk (t : Td) (fs ws : List Td) : Prop where
  all : fs ++ ws.reverse.flatMap pcs = pcs t
  ok : ∀ u ∈ ws, OkD u
theorem Wk.next {t u : Td} {fs ws : List Td} (k : Wk t fs (ws ++ [u])) : Wk t (fs ++ [u]) (ws ++ (kids u).reverse) := by
  refine ⟨?_, fun v hv => ?_⟩
  · rw [← k.all]
    simp only [List.reverse_append, List.reverse_reverse, List.flatMap_append, List.reverse_cons, List.reverse_nil, List.nil_append, List.flatMap_cons, List.flatMap_nil, List.append_nil]
    rw [pcs_kids u]
    simp
  · rcases List.mem_append.mp hv with z | z
    · exact k.ok v (List.mem_append.mpr (.inl z))
    · exact (k.ok u (by simp)).kid (List.mem_reverse.mp z)
section
variable {P : Program} {w : World} {K : PySem.W.Frag} {mg : Str → Option Value} {base : Heap} {C SZ SY : Addr}
/-- the test of a list's name -/
theorem et_full {X : Cx} (hK : X.K = K) {σ : L2.St} {H : Hp} {te : TE} {l : Addr} {xs : List V} (h : Ev te σ H (.ref l)) (hl : H l = some (.lst xs)) : EvT (fun σ H Q => te σ H fun x H' => ∃ k, TruV X.K x H' k ∧ Q k H') σ H (!xs.isEmpty) := fun H1 e Q q =>
  h H1 e _ fun H2 e2 => ⟨!xs.isEmpty, Or.inl ⟨xs, sq_of ((e.trans e2) l _ hl), rfl⟩, q H2 e2⟩
theorem ok_all_pieces {f f1 : Addr} {fd fd1 : FuncData} (F : Fun K "all_pieces" "all_pieces" s_all_pieces f fd) (T : Txt P w K mg C SZ SY) (c_parts_of : Cal P w K mg base "parts_of" f1 fd1 ["told"] 1 sp_parts_of) : FnOk P w K mg base CX0 2 f fd ["told"] sp_all_pieces := by
  refine F.ok sc_all_pieces (fun vs H Q E h => ?_) (fun cdv A outer s H vs Q E hr h => ?_)
  · obtain ⟨x, t, rfl, _⟩ := h
    rfl
  · obtain ⟨x, t, rfl, ht, ok, hz, k⟩ := h
    refine ⟨_, (pss_cons (ps_set (i := 1) sc_all_pieces.nd rfl (Or.inl rfl) (pe_lst pa_nil)) (pss_cons (ps_set (i := 2) sc_all_pieces.nd rfl (Or.inl rfl) (pe_lst (pa_cons (pv 0) pa_nil))) (pss_cons (ps_while PassesOwn.never (pt_truth (pv 2) (fun _ => rfl)) (pss_cons (ps_set (i := 3) sc_all_pieces.nd rfl (Or.inl rfl) (pe_bm0 PySem.F.plainAttrs_list PySem.F.slot_list_pop PySem.F.type_list_pop mt_pop (pv 2))) (pss_cons (ps_expr (pe_bm PySem.F.plainAttrs_list PySem.F.slot_list_append PySem.F.type_list_append mt_append (pv 1) (pa_cons (pv 3) pa_nil))) (pss_one (ps_expr (pe_bm PySem.F.plainAttrs_list PySem.F.slot_list_extend PySem.F.type_list_extend (SX.mt_extT (K := K) rfl) (pv 2) (pa_cons (SX.pe_revT (K := K) rfl (pe_call c_parts_of.ok (hr.mono (by decide)) (by rfl) c_parts_of.mgx c_parts_of.kp c_parts_of.bd .nil pass0 (pa_cons (pv 3) pa_nil))) pa_nil))))))) (pss_one (ps_ret (pv 1)))))), ?_⟩
    refine q_asgL (el_lst ea_nil (by show 0 ≤ 100000; decide)) fun fo H1 hf e1 h1 => ?_
    refine q_asgL (el_lst (ea_cons (ev_var rfl) ea_nil) (by show 1 ≤ 100000; decide)) fun wa H2 hw e2 h2 => ?_
    have hne : fo ≠ wa := fun z => by subst z; rw [h1] at hw; cases hw
    have hfH : H fo = none := hf
    have hwH : H wa = none := fresh_back e1 hw
    refine q_while (fun m σ' H' => ∃ (fs ws : List Td) (xs ys : List V) (y0 : Option V), σ' = [some x, some (.ref fo), some (.ref wa), y0] ∧ Ex H H' ∧ H' fo = some (.lst xs) ∧ H' wa = some (.lst ys) ∧ Ats H' xs fs ∧ Ats H' ys ws ∧ Wk t fs ws ∧ m = sizes ws) (sizes [t])
      ⟨[], [t], [], [x], none, rfl, e1.trans e2, e2 fo _ h1, h2, .nil, .one (ht.mono (Tu.ex (e1.trans e2))), ⟨by simp, fun u hu => by cases List.mem_singleton.mp hu; exact ok⟩, rfl⟩ ?_
    rintro m σ' H' ⟨fs, ws, xs, ys, y0, rfl, e0, hfo, hwa, hxs, hys, wk, rfl⟩
    refine ⟨_, et_full rfl (ev_var rfl) hwa, fun hb H3 e3 => ?_, fun hb H3 e3 => ?_⟩
    · have hys0 : ys ≠ [] := fun z => by rw [z] at hb; cases hb
      have hws0 : ws ≠ [] := fun z => by subst z; cases hys; exact hys0 rfl
      obtain ⟨ws', u, rfl⟩ : ∃ ws' u, ws = ws' ++ [u] := ⟨ws.dropLast, ws.getLast hws0, (List.dropLast_concat_getLast hws0).symm⟩
      obtain ⟨ys', y, rfl, k1, k2⟩ := hys.last
      have hsz : sizes (ws' ++ [u]) = sizes ws' + (pcs u).length := by rw [sizes_app, sizes_cons]; rfl
      have hku : sizes (kids u).reverse + 1 = (pcs u).length := by rw [sizes_rev, size_kids]; omega
      have hall : xs.length + ((ws' ++ [u]).reverse.flatMap pcs).length ≤ 1000 := by
        have := congrArg List.length wk.all
        rw [List.length_append] at this
        rw [hxs.len]; omega
      have hle : sizes (ws' ++ [u]) ≤ 1000 := by
        have z : ((ws' ++ [u]).reverse.flatMap pcs).length = sizes (ws' ++ [u]) := sizes_rev _
        omega
      refine ⟨fun σ2 H4 => ∃ m', m' < sizes (ws' ++ [u]) ∧ ∃ (fs ws : List Td) (xs ys : List V) (y0 : Option V), σ2 = [some x, some (.ref fo), some (.ref wa), y0] ∧ Ex H H4 ∧ H4 fo = some (.lst xs) ∧ H4 wa = some (.lst ys) ∧ Ats H4 xs fs ∧ Ats H4 ys ws ∧ Wk t fs ws ∧ m' = sizes ws, fun _ _ z => z, ?_⟩
      refine q_pop (e3 wa _ hwa) (ev_var rfl) fun H4 e4 => ?_
      have t4 : Tu H' (upd H4 wa (.lst ys')) := (Tu.ex (e3.trans e4)).trans (Tu.lst (e4 wa _ (e3 wa _ hwa)))
      have f4 : (upd H4 wa (.lst ys')) fo = some (.lst xs) := by rw [upd_ne hne]; exact e4 fo _ (e3 fo _ hfo)
      refine q_app f4 (ev_var rfl) (ev_var rfl) (by omega) fun H5 e5 => ?_
      have w5 : H5 wa = some (.lst ys') := e5 wa _ upd_same
      have t5 : Tu H' (upd H5 fo (.lst (xs ++ [y]))) := (t4.trans (Tu.ex e5)).trans (Tu.lst (e5 fo _ f4))
      have w6 : (upd H5 fo (.lst (xs ++ [y]))) wa = some (.lst ys') := by rw [upd_ne (Ne.symm hne)]; exact w5
      have hl1 := sizes_len (kids u).reverse
      have hl2 := sizes_len ws'
      refine s_extK w6 (ev_var rfl) (eks_rev (eks_call (ea_cons (ev_var rfl) ea_nil) (spk_parts_of (k2.mono t5) (wk.ok u (by simp)).ok))) (by rw [k1.len]; omega) fun H6 zs e6 kz => ?_
      have t6 : Tu H' (upd H6 wa (.lst (ys' ++ zs))) := (t5.trans (Tu.ex e6)).trans (Tu.lst (e6 wa _ w6))
      refine ⟨sizes (ws' ++ (kids u).reverse), by rw [sizes_app]; omega, fs ++ [u], ws' ++ (kids u).reverse, xs ++ [y], ys' ++ zs, some y, rfl, ?_, ?_, upd_same, (hxs.mono t6).app (.one (k2.mono t6)), (k1.mono t6).app (kz.mono (Tu.lst (e6 wa _ w6))), wk.next, rfl⟩
      · exact (((((e0.trans e3).trans e4).mut hwH).trans e5).mut hfH |>.trans e6).mut hwH
      · rw [upd_ne hne]
        exact e6 fo _ upd_same
    · have hys0 : ys = [] := by cases ys with | nil => rfl | cons _ _ => cases hb
      subst hys0
      cases hys
      have hal := wk.all
      simp at hal
      subst hal
      refine s_ret (ev_var rfl) fun H4 e4 => ?_
      exact k fo xs H4 hfH ((e0.trans e3).trans e4) (e4 fo _ (e3 fo _ hfo)) (hxs.mono (Tu.ex (e3.trans e4)))
end
end K22
end
section
set_option maxHeartbeats 2000000
namespace G
open PySem L2 Evl TD SX PyProof.Rows
/-! ### the sorted list of what stands in a list of texts -/
theorem cps_inj {a b : Str} (h : a.cps.toList = b.cps.toList) : a = b := by
  cases a; cases b
  congr 1
  exact Array.toList_inj.mp h
theorem rising_pw : ∀ (p : Str) (l : List Str), risingS p l = true → (p :: l).Pairwise (fun a b => ¬ (b.cps.toList < a.cps.toList))
  | p, [], _ => List.pairwise_singleton _ _
  | p, x :: r, h => by
    have h' : (!PySem.Spec.ltCps x.cps.toList p.cps.toList && risingS x r) = true := h
    rw [Bool.and_eq_true, ltCps_eq] at h'
    have h1 : ¬ (x.cps.toList < p.cps.toList) := by
      intro q
      have := h'.1
      rw [decide_eq_true q] at this
      cases this
    have h2 := rising_pw x r h'.2
    refine List.pairwise_cons.mpr ⟨fun y hy => ?_, h2⟩
    rcases List.mem_cons.mp hy with e | hy
    · subst e; exact h1
    · have h3 := (List.pairwise_cons.mp h2).1 y hy
      intro q
      exact h1 (List.lt_of_le_of_lt (List.not_lt.mp h3) q)
theorem sorted_pw : ∀ (l : List Str), sortedS l = true → l.Pairwise (fun a b => ¬ (b.cps.toList < a.cps.toList))
  | [], _ => List.Pairwise.nil
  | x :: r, h => rising_pw x r h
theorem sorted_same : ∀ (l m : List Str), l.Pairwise (fun a b => ¬ (b.cps.toList < a.cps.toList)) → m.Pairwise (fun a b => ¬ (b.cps.toList < a.cps.toList)) → l.Perm m → l = m
  | [], m, _, _, p => (List.nil_perm.mp p).symm
  | x :: l, [], _, _, p => absurd p.symm (by simp)
  | x :: l, y :: m, hl, hm, p => by
    obtain ⟨l1, l2⟩ := List.pairwise_cons.mp hl
    obtain ⟨m1, m2⟩ := List.pairwise_cons.mp hm
    have e : x = y := by
      refine Classical.byContradiction fun ne => ?_
      have a : y ∈ l := (List.mem_cons.mp (p.mem_iff.mpr List.mem_cons_self)).resolve_left fun z => ne z.symm
      have b : x ∈ m := (List.mem_cons.mp (p.mem_iff.mp List.mem_cons_self)).resolve_left ne
      exact ne (cps_inj (List.le_antisymm (List.not_lt.mp (l1 y a)) (List.not_lt.mp (m1 x b))))
    subst e
    rw [sorted_same l m l2 m2 ((List.perm_cons x).mp p)]
/-- ys is what sorted(set(xs)) tells -/
def IsNrm (xs ys : List Str) : Prop := sortedS ys = true ∧ ys.Nodup ∧ ∀ k, k ∈ ys ↔ k ∈ xs
theorem isNrm_uniq {xs ys zs : List Str} (h : IsNrm xs ys) (k : IsNrm xs zs) : ys = zs :=
  sorted_same _ _ (sorted_pw _ h.1) (sorted_pw _ k.1) ((List.perm_ext_iff_of_nodup h.2.1 k.2.1).mpr fun a => (h.2.2 a).trans (k.2.2 a).symm)
open Classical in
noncomputable def nrm (xs : List Str) : List Str := if h : ∃ ys, IsNrm xs ys then Classical.choose h else []
theorem nrm_eq {xs ys : List Str} (h : IsNrm xs ys) : nrm xs = ys := by
  unfold nrm
  rw [dif_pos ⟨ys, h⟩]
  exact isNrm_uniq (Classical.choose_spec (⟨ys, h⟩ : ∃ ys, IsNrm xs ys)) h
/-- lists with the same members -/
theorem nrm_congr {xs ys : List Str} (h : ∀ k, k ∈ xs ↔ k ∈ ys) : nrm xs = nrm ys := by
  have e : IsNrm xs = IsNrm ys := funext fun zs => propext (Iff.intro (fun q => And.intro q.1 (And.intro q.2.1 fun k => (q.2.2 k).trans (h k))) (fun q => And.intro q.1 (And.intro q.2.1 fun k => (q.2.2 k).trans (h k).symm)))
  unfold nrm
  rw [e]
variable {K : PySem.W.Frag} {w : World} {σ : L2.St} {H H' : Hp} {ta tb te tx tl : TE} {tt : TT} {x y z v : V} {p a l C dx : Addr} {tA tr tk : TA} {xs ys : List V} {t u : Td} {ts us : List Td} {D : Ends} {tz : TS} {i j : Nat} {Q : VK} {sp : Sp} {dvs : List V} {vs : List Nat} {E : XK}
theorem nodup_len {α : Type} [DecidableEq α] : ∀ {l m : List α}, l.Nodup → (∀ k ∈ l, k ∈ m) → l.length ≤ m.length
  | [], _, _, _ => Nat.zero_le _
  | x :: l, m, hn, hs => by
    obtain ⟨h1, h2⟩ := List.nodup_cons.mp hn
    have hx : x ∈ m := hs x List.mem_cons_self
    have := nodup_len (l := l) (m := m.erase x) h2 fun y hy => (List.mem_erase_of_ne fun e => h1 (by rw [← e]; exact hy)).mpr (hs y (List.mem_cons_of_mem _ hy))
    rw [List.length_erase_of_mem hx] at this
    have := List.length_pos_of_mem hx
    rw [List.length_cons]
    omega
/-- sorted(set(xs)) -/
theorem el_sortedSet {ks : List Str} (h : EvL te σ H (ks.map V.str)) (hz : ks.length < 64) : EvL (tCB (SX.rSorted w) (tCons (tCB (SX.rSet K w) (tCons te tNil)) tNil)) σ H ((nrm ks).map V.str) := fun H1 e Q q =>
  h H1 e _ fun l H2 hl e2 h2 => ⟨l, ks, rfl, .inl (sq_of h2), by omega, fun s hs => ⟨s, ks, rfl, upd_same, by omega, fun ys p hsd hn hm hp => by
    have hp2 : H2 p = none := fresh_back (Ex.new hs) hp
    rw [nrm_eq ⟨hsd, hn, hm⟩] at q
    exact q p _ (fresh_back e2 hp2) ((e2.trans (Ex.new hs)).trans (Ex.new hp)) upd_same⟩⟩
/-! ### comprehensions over told things -/
theorem given_filter {α : Type} (ts : List α) (d : α) (f : α → Bool) (g : α → V) : given ts.length (fun i => f (ts.getD i d)) (fun i => g (ts.getD i d)) = (ts.filter f).map g := by
  have e : ts = (List.range ts.length).map fun i => ts.getD i d := by
    apply List.ext_getElem
    · simp
    · intro k h1 h2
      simp [List.getD_eq_getElem?_getD, List.getElem?_eq_getElem h1]
  unfold given
  conv => rhs; rw [e]
  rw [List.filter_map, List.map_map]
  rfl
theorem getD_td {ts : List Td} {k : Nat} {r d : Td} (h : ts[k]? = some r) : ts.getD k d = r := by rw [List.getD_eq_getElem?_getD, h] <;> rfl
/-- [e for x in a new list of told things if ..] -/
theorem el_lcLs (f : Td → Bool) (g : Td → V) (h : EvLs tl σ H ts) (hz : ts.length ≤ 40000) (hw : ∀ x, wipe ((wipe σ vs).set j (some x)) vs = wipe σ vs)
    (ht : ∀ (x : V) (t : Td) H1, Ex H H1 → At H1 x t → t ∈ ts → EvT tt ((wipe σ vs).set j (some x)) H1 (f t)) (he : ∀ (x : V) (t : Td) H1, Ex H H1 → At H1 x t → t ∈ ts → f t = true → Ev te ((wipe σ vs).set j (some x)) H1 (g t)) :
    EvL (tLc (iList K tl) (gName j) tt te vs) σ H ((ts.filter f).map g) := fun H0 e Q q => h H0 e _ fun a xs H1 ha e1 hx k => ⟨a, rfl, ⟨xs, sq_of hx⟩, fun Dl hD => by
  have hl : xs.length = ts.length := k.len
  refine lc_list (xs := xs) (Cw H1 (fun i => f (ts.getD i (.lf "" .non))) (fun i => g (ts.getD i (.lf "" .non))) Dl) ⟨hD, Ex.new hD, upd_same⟩ (fun i H' _ p => sq_of (p.2.1 a _ hx)) (fun i x H' hi p => ?_) (fun H' p => ?_)
  · obtain ⟨t, hti, hxt⟩ := k.get hi
    have hm := List.mem_of_getElem? hti
    refine ⟨hw x, cw_turn p (by have := (List.getElem?_eq_some_iff.mp hi).1; omega) ?_ (fun hf => ?_)⟩
    · rw [getD_td hti]; exact ht x t H1 (e.trans e1) hxt hm
    · rw [getD_td hti] at hf ⊢; exact he x t H1 (e.trans e1) hxt hm hf
  · rw [hl] at p
    refine q Dl H' (fresh_back e1 p.1) (e1.trans p.2.1) ?_
    rw [p.2.2, given_filter]⟩
/-- over a list of told things that has a name -/
theorem el_lcLv (f : Td → Bool) (g : Td → V) (h : Ev tl σ H (.ref a)) (hx : H a = some (.lst xs)) (k : Ats H xs ts) (hz : ts.length ≤ 40000) (hw : ∀ x, wipe ((wipe σ vs).set j (some x)) vs = wipe σ vs)
    (ht : ∀ (x : V) (t : Td) H1, Ex H H1 → At H1 x t → t ∈ ts → EvT tt ((wipe σ vs).set j (some x)) H1 (f t)) (he : ∀ (x : V) (t : Td) H1, Ex H H1 → At H1 x t → t ∈ ts → f t = true → Ev te ((wipe σ vs).set j (some x)) H1 (g t)) :
    EvL (tLc (iList K tl) (gName j) tt te vs) σ H ((ts.filter f).map g) := by
  have hl : xs.length = ts.length := k.len
  rw [← given_filter ts (.lf "" .non), ← hl]
  refine el_lcL _ _ h (sq_of hx) (by omega) hw (fun i x H1 e1 hi => ?_) (fun i x H1 e1 hi hf => ?_)
  · obtain ⟨t, hti, hxt⟩ := k.get hi
    rw [getD_td hti]; exact ht x t H1 e1 (hxt.mono (Tu.ex e1)) (List.mem_of_getElem? hti)
  · obtain ⟨t, hti, hxt⟩ := k.get hi
    rw [getD_td hti] at hf ⊢; exact he x t H1 e1 (hxt.mono (Tu.ex e1)) (List.mem_of_getElem? hti) hf
/-- [e for x in a new tuple of told things] -/
theorem el_lcKs (f : Td → Bool) (g : Td → V) (h : EvKs tl σ H ts) (hz : ts.length ≤ 40000) (hw : ∀ x, wipe ((wipe σ vs).set j (some x)) vs = wipe σ vs)
    (ht : ∀ (x : V) (t : Td) H1, Ex H H1 → At H1 x t → t ∈ ts → EvT tt ((wipe σ vs).set j (some x)) H1 (f t)) (he : ∀ (x : V) (t : Td) H1, Ex H H1 → At H1 x t → t ∈ ts → f t = true → Ev te ((wipe σ vs).set j (some x)) H1 (g t)) :
    EvL (tLc (iTup K tl) (gName j) tt te vs) σ H ((ts.filter f).map g) := fun H0 e Q q => h H0 e _ fun a xs H1 ha e1 hx k => ⟨a, rfl, ⟨xs, st_of hx⟩, fun Dl hD => by
  have hl : xs.length = ts.length := k.len
  refine lc_tup (xs := xs) (Cw H1 (fun i => f (ts.getD i (.lf "" .non))) (fun i => g (ts.getD i (.lf "" .non))) Dl) ⟨hD, Ex.new hD, upd_same⟩ (fun i H' _ p => st_of (p.2.1 a _ hx)) (fun i x H' hi p => ?_) (fun H' p => ?_)
  · obtain ⟨t, hti, hxt⟩ := k.get hi
    have hm := List.mem_of_getElem? hti
    refine ⟨hw x, cw_turn p (by have := (List.getElem?_eq_some_iff.mp hi).1; omega) ?_ (fun hf => ?_)⟩
    · rw [getD_td hti]; exact ht x t H1 (e.trans e1) hxt hm
    · rw [getD_td hti] at hf ⊢; exact he x t H1 (e.trans e1) hxt hm hf
  · rw [hl] at p
    refine q Dl H' (fresh_back e1 p.1) (e1.trans p.2.1) ?_
    rw [p.2.2, given_filter]⟩
theorem filter_yes {α : Type} (l : List α) : l.filter (fun _ => true) = l := List.filter_eq_self.mpr fun _ _ => rfl
/-- [t], a list of told things -/
theorem els_one (h : EvTd te σ H t) : EvLs (tLst (tCons te tNil)) σ H [t] := fun H1 e Q q => h H1 e _ fun v H2 e2 k => ⟨sz_of (by show 1 ≤ 100000; decide), fun p hp =>
  q p [v] _ (fresh_back e2 hp) (e2.trans (Ex.new hp)) upd_same (.one (k.mono (Tu.ex (Ex.new hp))))⟩
/-- len of a new list of told things -/
theorem ev_lenLs (h : EvLs te σ H ts) : Ev (tCB (fun xs H Q => ∃ p ys, xs = [.ref p] ∧ (SqL K H p ys ∨ SqT K H p ys) ∧ Q (.int (ys.length : Int)) H) (tCons te tNil)) σ H (.int (ts.length : Int)) := fun H1 e Q q =>
  h H1 e _ fun p ys H2 hp e2 h2 k => ⟨p, ys, rfl, .inl (sq_of h2), by rw [k.len]; exact q H2 e2⟩
/-- [e for k, v in d.items()], d locked meanwhile -/
theorem el_lcItems {d : Addr} {td : TE} {kvs : List (Key × V)} (g : Key × V → V) (hv : ∀ H1, Ev td σ H1 (.ref d)) (hd : H d = some (.dK kvs)) (hz : kvs.length ≤ 40000) (hw : ∀ x y, wipe (((wipe σ vs).set i (some x)).set j (some y)) vs = wipe σ vs)
    (he : ∀ (k : Key) (v : V) H1, (∀ b o, b ≠ d → H b = some o → H1 b = some o) → (k, v) ∈ kvs → Ev te (((wipe σ vs).set i (some (kV k))).set j (some v)) H1 (g (k, v))) :
    EvL (tLockE (tLc (iItems td) (gTup K 2 (gCons (gName i) (gCons (gName j) gNil))) tYes te vs)) σ H (kvs.map g) := fun H0 e Q q => by
  refine ⟨d, .dK kvs, e d _ hd, True.intro, fun od => hv _ _ (Ex.refl _) _ fun H1 e1 => ⟨d, od, kvs, rfl, e1 d _ upd_same, fun Dl hD => ?_⟩⟩
  have h1d : H1 d = some (.frz od (.dK kvs)) := e1 d _ upd_same
  have hne : Dl ≠ d := fun z => by subst z; rw [h1d] at hD; cases hD
  have off : ∀ b o, b ≠ d → H b = some o → H1 b = some o := fun b o hb ho => e1 b o (by rw [upd_ne hb]; exact e b o ho)
  have h0D : H0 Dl = none := by
    have := fresh_back e1 hD
    rw [upd_ne hne] at this
    exact this
  have ge : kvs.map g = given kvs.length (fun _ => true) (fun i => g (kvs.getD i (.inl 0, .non))) := by
    rw [given_filter kvs (.inl 0, .non) (fun _ => true) g, filter_yes]
  refine lc_it (walk_items (d := d) (o := od) (kvs := kvs)) (Cw H1 (fun _ => true) (fun i => g (kvs.getD i (.inl 0, .non))) Dl) ⟨hD, Ex.new hD, upd_same⟩ (fun i0 H' _ p => p.2.1 d _ h1d) (fun i0 x0 H' H'' hi p y => ?_) (fun H' p => ?_)
  · obtain ⟨T, a, b, rfl, hT, rfl, ea, eb⟩ := y
    have hgk : kvs[i0]? = some kvs[i0] := List.getElem?_eq_getElem hi
    dsimp only at ea eb
    rw [hgk] at ea eb
    cases ea
    cases eb
    refine ⟨T, [kV kvs[i0].1, kvs[i0].2], rfl, st_of upd_same, rfl, _, _, rfl, _, _, rfl, rfl, ?_⟩
    have pc2 : Cw H1 (fun _ => true) (fun i => g (kvs.getD i (.inl 0, .non))) Dl i0 (upd H' T (.tup [kV kvs[i0].1, kvs[i0].2])) := ⟨p.1, p.2.1.trans (Ex.new hT), by rw [upd_ne (ne_of_none p.2.2 hT)]; exact p.2.2⟩
    refine ⟨hw _ _, cw_turn pc2 (by omega) lc_yes (fun _ => ?_)⟩
    rw [List.getD_eq_getElem?_getD, hgk]
    exact he _ _ H1 off (List.getElem_mem hi)
  · refine ⟨p.2.1 d _ h1d, q Dl _ h0D (fun b o hb => ?_) ?_⟩
    · by_cases z : b = d
      · subst z
        rw [e b _ hd] at hb
        cases hb
        exact upd_same
      · rw [upd_ne z]
        exact p.2.1 b o (e1 b o (by rw [upd_ne z]; exact hb))
    · rw [upd_ne hne, p.2.2, ge]
end G
end
section
set_option maxHeartbeats 4000000
namespace K22
open PySem L2 Evl G TM TD
/-! ### letters -/
def sp_letter (L : List Str) : Sp := fun vs H Q _ => ∃ r, r ∈ L ∧ vs = [.str r] ∧ RetV (.bl true) H Q
theorem spv_letter {L : List Str} {r : Str} {H : Hp} (h : r ∈ L) : SpV (sp_letter L) ([.str r] ++ []) H (.bl true) := fun H1 _ Q q E => ⟨r, h, rfl, q⟩
def sp_is_day : Sp := fun vs H Q _ => ∃ i, vs = [.int i] ∧ RetV (.bl true) H Q
theorem spv_is_day {i : Int} {H : Hp} : SpV sp_is_day ([.int i] ++ []) H (.bl true) := fun H1 _ Q q E => ⟨i, rfl, q⟩
/-- a name's leaf, a rule's piece -/
def isNm (u : Td) : Bool := decide (word u = "day")
def isRl (u : Td) : Bool := decide (word u ∈ (["on", "by", "til"] : List Str))
def ownV (u : Td) : V := (own u).getD 0 .non
/-- what is told well: the things of names and rules are texts -/
def ownS (u : Td) : Str := match own u with | [.str n] => n | _ => ""
def nmsOf (t : Td) : List Str := ((pcs t).filter isNm).map ownS
def rlsOf (t : Td) : List Str := ((pcs t).filter isRl).map ownS
def Nice (u : Td) : Prop := (isNm u = true → ∃ n, own u = [.str n]) ∧ (isRl u = true → ∃ r, own u = [.str r])
def NiceD (t : Td) : Prop := ∀ u ∈ pcs t, Nice u
def sp_names_in : Sp := fun vs H Q _ => ∃ x t, vs = [x] ∧ At H x t ∧ OkD t ∧ NiceD t ∧ (pcs t).length ≤ 63 ∧ RetL ((nrm (nmsOf t)).map V.str) H Q
def sp_rules_in : Sp := fun vs H Q _ => ∃ x t, vs = [x] ∧ At H x t ∧ OkD t ∧ NiceD t ∧ (pcs t).length ≤ 63 ∧ RetL ((nrm (rlsOf t)).map V.str) H Q
theorem spl_names_in {x : V} {t : Td} {H : Hp} (h : At H x t) (o : OkD t) (nc : NiceD t) (z : (pcs t).length ≤ 63) : SpL sp_names_in ([x] ++ []) H ((nrm (nmsOf t)).map V.str) := fun H1 e Q q E => ⟨x, t, rfl, h.mono (Tu.ex e), o, nc, z, q⟩
theorem spl_rules_in {x : V} {t : Td} {H : Hp} (h : At H x t) (o : OkD t) (nc : NiceD t) (z : (pcs t).length ≤ 63) : SpL sp_rules_in ([x] ++ []) H ((nrm (rlsOf t)).map V.str) := fun H1 e Q q E => ⟨x, t, rfl, h.mono (Tu.ex e), o, nc, z, q⟩
section
variable {P : Program} {w : World} {K : PySem.W.Frag} {mg : Str → Option Value} {base : Heap} {C SZ SY : Addr}
theorem ev_isiB {σ : L2.St} {H : Hp} {ta : TE} {x : V} {t : String} {n : String} {b : Bool} (h : Ev ta σ H x) (ty : ∀ H1, Ex H H1 → TyX K H1 x (.type t)) (hb : kitB t n = some b) :
    Ev (tCB (rIsi K) (tCons ta (tCons (tC (.ty n)) tNil))) σ H (.bl b) := ev_cb (ea_cons h (ea_cons ev_c ea_nil)) (rc_isi (.ty n) ty (kit_ty hb))
theorem ev_lenStr {σ : L2.St} {H : Hp} {ta : TE} {z : Str} (h : Ev ta σ H (.str z)) (hz : z.length ≤ 100000) : Ev (tCB (fun xs H Q => ∃ z, xs = [.str z] ∧ z.length ≤ sizeLine ∧ Q (.int z.length) H) (tCons ta tNil)) σ H (.int (z.length : Int)) := fun H1 e Q q =>
  h H1 e _ fun H2 e2 => ⟨z, rfl, sz_of hz, q H2 e2⟩
theorem ev_inStr {σ : L2.St} {H : Hp} {ta tb : TE} {i j : Str} (h : Ev ta σ H (.str i)) (k : Ev tb σ H (.str j)) : Ev (tOp (fun x y H Q => ∃ i j, x = .str i ∧ y = .str j ∧ Q (.bl (!(Builtin.Str.occurrences j i 0 j.length 1).isEmpty)) H) ta tb) σ H (.bl (!(Builtin.Str.occurrences j i 0 j.length 1).isEmpty)) :=
  ev_op h k fun H1 _ Q q => ⟨i, j, rfl, rfl, q H1 (Ex.refl H1)⟩
theorem rule_one : ∀ r ∈ ruleL, r.length = 1 ∧ (!(Builtin.Str.occurrences "abcdefgh" r 0 (Str.length "abcdefgh") 1).isEmpty) = true := by decide +kernel
theorem name_one : ∀ r ∈ nameL, r.length = 1 ∧ (!(Builtin.Str.occurrences "pqrstuvwxyz" r 0 (Str.length "pqrstuvwxyz") 1).isEmpty) = true := by decide +kernel
theorem ok_is_rule {f : Addr} {fd : FuncData} (F : Fun K "is_rule" "is_rule" s_is_rule f fd) (T : Txt P w K mg C SZ SY) : FnOk P w K mg base CX0 1 f fd ["value"] (sp_letter ruleL) := by
  refine F.ok sc_is_rule (fun vs H Q E h => ?_) (fun cdv A outer s H vs Q E hr h => ?_)
  · obtain ⟨i, _, rfl, _⟩ := h
    rfl
  · obtain ⟨r, hm, rfl, k⟩ := h
    refine ⟨_, (pss_one (ps_ret (pe_and (pe_callB (isiS (K := K) rfl) (by rfl) T.b_isinstance (by decide +kernel) (pa_cons (pv 0) (pa_cons (pe_bltn (v := .ty "str") (u := .type "str") (by rfl) T.b_str (by decide +kernel) rfl) pa_nil))) (pe_and (pe_cmpR op_eq (pe_callB call_len_str (by rfl) T.b_len (by decide +kernel) (pa_cons (pv 0) pa_nil)) pe_int (nomark _)) (pe_one (pe_cmpR op_in_str (pv 0) pe_str (by rfl))))))), ?_⟩
    obtain ⟨h1, h2⟩ := rule_one r hm
    refine s_ret (ev_andV (b := true) (a := true) (ev_isiB (b := true) (ev_var rfl) (fun _ _ => .base (.str r)) (by decide +kernel)) fun _ => ev_andV (a := true) (b := true) (ev_is (ev_op (ev_lenStr (ev_var rfl) (by rw [h1]; decide)) ev_c (rv_eq rfl)) (by rw [h1]; rfl)) fun _ => ev_is (ev_inStr (ev_var rfl) ev_c) (by rw [h2])) fun H1 e => k H1 e
theorem ok_is_name {f : Addr} {fd : FuncData} (F : Fun K "is_name" "is_name" s_is_name f fd) (T : Txt P w K mg C SZ SY) : FnOk P w K mg base CX0 1 f fd ["value"] (sp_letter nameL) := by
  refine F.ok sc_is_name (fun vs H Q E h => ?_) (fun cdv A outer s H vs Q E hr h => ?_)
  · obtain ⟨i, _, rfl, _⟩ := h
    rfl
  · obtain ⟨r, hm, rfl, k⟩ := h
    refine ⟨_, (pss_one (ps_ret (pe_and (pe_callB (isiS (K := K) rfl) (by rfl) T.b_isinstance (by decide +kernel) (pa_cons (pv 0) (pa_cons (pe_bltn (v := .ty "str") (u := .type "str") (by rfl) T.b_str (by decide +kernel) rfl) pa_nil))) (pe_and (pe_cmpR op_eq (pe_callB call_len_str (by rfl) T.b_len (by decide +kernel) (pa_cons (pv 0) pa_nil)) pe_int (nomark _)) (pe_one (pe_cmpR op_in_str (pv 0) pe_str (by rfl))))))), ?_⟩
    obtain ⟨h1, h2⟩ := name_one r hm
    refine s_ret (ev_andV (b := true) (a := true) (ev_isiB (b := true) (ev_var rfl) (fun _ _ => .base (.str r)) (by decide +kernel)) fun _ => ev_andV (a := true) (b := true) (ev_is (ev_op (ev_lenStr (ev_var rfl) (by rw [h1]; decide)) ev_c (rv_eq rfl)) (by rw [h1]; rfl)) fun _ => ev_is (ev_inStr (ev_var rfl) ev_c) (by rw [h2])) fun H1 e => k H1 e
theorem ok_is_day {f : Addr} {fd : FuncData} (F : Fun K "is_day" "is_day" s_is_day f fd) (T : Txt P w K mg C SZ SY) : FnOk P w K mg base CX0 1 f fd ["value"] sp_is_day := by
  refine F.ok sc_is_day (fun vs H Q E h => ?_) (fun cdv A outer s H vs Q E hr h => ?_)
  · obtain ⟨i, rfl, _⟩ := h
    rfl
  · obtain ⟨i, rfl, k⟩ := h
    refine ⟨_, (pss_one (ps_ret (pe_and (pe_callB (isiS (K := K) rfl) (by rfl) T.b_isinstance (by decide +kernel) (pa_cons (pv 0) (pa_cons (pe_bltn (v := .ty "int") (u := .type "int") (by rfl) T.b_int (by decide +kernel) rfl) pa_nil))) (pe_one (pe_not (pe_callB (isiS (K := K) rfl) (by rfl) T.b_isinstance (by decide +kernel) (pa_cons (pv 0) (pa_cons (pe_bltn (v := .ty "bool") (u := .type "bool") (by rfl) T.b_bool (by decide +kernel) rfl) pa_nil)))))))), ?_⟩
    refine s_ret (ev_andV (b := true) (ev_isiB (b := true) (ev_var rfl) (fun _ _ => .base (.int i)) (by decide +kernel)) fun _ => ev_notV (a := false) (ev_isiB (b := false) (ev_var rfl) (fun _ _ => .base (.int i)) (by decide +kernel))) fun H1 e => k H1 e
/-! ### names and rules in -/
theorem IsF.nice : ∀ {t : Td}, IsF t → NiceD t
  | .lf w v, h => fun u hu => by
    cases List.mem_singleton.mp hu
    refine ⟨fun _ => ?_, fun z => ?_⟩
    · rcases h with ⟨_, n, _, rfl⟩ | ⟨e, _⟩
      · exact ⟨n, rfl⟩
      · subst e; rename_i z; exact absurd (show decide (("num" : Str) = "day") = true from z) (by decide)
    · change decide (w ∈ (["on", "by", "til"] : List Str)) = true at z
      rcases h with ⟨e, _⟩ | ⟨e, _⟩ <;> (subst e; exact absurd z (by decide))
  | .ov w v t, ⟨h, k⟩ => fun u hu => by
    rcases List.mem_cons.mp hu with e | hu
    · subst e
      refine ⟨fun z => ?_, fun z => ?_⟩
      · change decide (w = "day") = true at z
        rcases h with ⟨h, _⟩ | ⟨h, _⟩
        · rcases turn_cases h with e | e | e <;> (subst e; exact absurd z (by decide))
        · subst h; exact absurd z (by decide)
      · change decide (w ∈ (["on", "by", "til"] : List Str)) = true at z
        rcases h with ⟨_, r, _, rfl⟩ | ⟨h, _⟩
        · exact ⟨r, rfl⟩
        · subst h; exact absurd z (by decide)
    · exact IsF.nice k u hu
  | .nt _, h => h.elim
  | .bi w t u', ⟨h, k, l⟩ => fun u hu => by
    rcases List.mem_cons.mp hu with e | hu
    · subst e
      refine ⟨fun z => ?_, fun z => ?_⟩
      · change decide (w = "day") = true at z
        rcases h with e | e <;> (subst e; exact absurd z (by decide))
      · change decide (w ∈ (["on", "by", "til"] : List Str)) = true at z
        rcases h with e | e <;> (subst e; exact absurd z (by decide))
    · rcases List.mem_append.mp hu with e | e
      · exact IsF.nice k u e
      · exact IsF.nice l u e
theorem IsS.nice : ∀ {t : Td}, IsS t → NiceD t
  | .lf _ _, h => h.elim
  | .ov _ _ _, h => h.elim
  | .nt t, h => fun u hu => by
    rcases List.mem_cons.mp hu with e | hu
    · subst e
      exact ⟨fun z => absurd (show decide (("not" : Str) = "day") = true from z) (by decide), fun z => absurd (show decide (("not" : Str) ∈ (["on", "by", "til"] : List Str)) = true from z) (by decide)⟩
    · exact IsS.nice (t := t) h u hu
  | .bi w t u', h => fun u hu => by
    have hw : w = "le" ∨ w = "and" ∨ w = "or" := by
      rcases h with ⟨h, _⟩ | ⟨h, _⟩
      · exact .inl h
      · exact .inr h
    rcases List.mem_cons.mp hu with e | hu
    · subst e
      refine ⟨fun z => ?_, fun z => ?_⟩
      · change decide (w = "day") = true at z
        rcases hw with e | e | e <;> (subst e; exact absurd z (by decide))
      · change decide (w ∈ (["on", "by", "til"] : List Str)) = true at z
        rcases hw with e | e | e <;> (subst e; exact absurd z (by decide))
    · rcases h with ⟨_, k, l⟩ | ⟨_, k, l⟩
      · rcases List.mem_append.mp hu with e | e
        · exact IsF.nice k u e
        · exact IsF.nice l u e
      · rcases List.mem_append.mp hu with e | e
        · exact IsS.nice k u e
        · exact IsS.nice l u e
theorem el_eq {te : TE} {σ : L2.St} {H : Hp} {xs ys : List V} (h : EvL te σ H xs) (e : xs = ys) : EvL te σ H ys := e ▸ h
theorem dec_str (a b : Str) : decide (V.str a = V.str b) = decide (a = b) := by
  rw [Bool.eq_iff_iff, decide_eq_true_iff, decide_eq_true_iff]
  exact ⟨fun h => V.str.inj h, fun h => h ▸ rfl⟩
theorem nms_eq {t : Td} (h : NiceD t) : ((pcs t).filter isNm).map ownV = (nmsOf t).map V.str := by
  unfold nmsOf
  rw [List.map_map]
  refine List.map_congr_left fun u hu => ?_
  obtain ⟨h1, h2⟩ := List.mem_filter.mp hu
  obtain ⟨n, hn⟩ := (h u h1).1 h2
  unfold ownV
  show (own u).getD 0 .non = V.str (ownS u)
  unfold ownS
  rw [hn] <;> rfl
theorem rls_eq {t : Td} (h : NiceD t) : ((pcs t).filter isRl).map ownV = (rlsOf t).map V.str := by
  unfold rlsOf
  rw [List.map_map]
  refine List.map_congr_left fun u hu => ?_
  obtain ⟨h1, h2⟩ := List.mem_filter.mp hu
  obtain ⟨n, hn⟩ := (h u h1).2 h2
  unfold ownV
  show (own u).getD 0 .non = V.str (ownS u)
  unfold ownS
  rw [hn] <;> rfl
theorem nms_len (t : Td) : (nmsOf t).length ≤ (pcs t).length := by unfold nmsOf; rw [List.length_map]; exact List.length_filter_le _ _
theorem rls_len (t : Td) : (rlsOf t).length ≤ (pcs t).length := by unfold rlsOf; rw [List.length_map]; exact List.length_filter_le _ _
/-- u[0], u[1] of what is told -/
theorem ev_wordA {σ : L2.St} {H : Hp} {te : TE} {x : V} {u : Td} (h : Ev te σ H x) (k : At H x u) : Ev (tOp (rIxT K) te (tC (.int 0))) σ H (.str (word u)) := by
  obtain ⟨a, ys, rfl, ha, _⟩ := k.open
  exact ev_at0 (v := .non) h ha
theorem ev_ownA {σ : L2.St} {H : Hp} {te : TE} {x v : V} {u : Td} (h : Ev te σ H x) (k : At H x u) (ho : own u = [v]) : Ev (tOp (rIxT K) te (tC (.int 1))) σ H v := by
  obtain ⟨a, ys, rfl, ha, _⟩ := k.open
  rw [ho] at ha
  exact ev_at1 h ha
theorem ok_names_in {f f1 : Addr} {fd fd1 : FuncData} (F : Fun K "names_in" "names_in" s_names_in f fd) (T : Txt P w K mg C SZ SY) (c_all_pieces : Cal P w K mg base "all_pieces" f1 fd1 ["told"] 2 sp_all_pieces) : FnOk P w K mg base CX0 3 f fd ["told"] sp_names_in := by
  refine F.ok sc_names_in (fun vs H Q E h => ?_) (fun cdv A outer s H vs Q E hr h => ?_)
  · obtain ⟨x, t, rfl, _⟩ := h
    rfl
  · obtain ⟨x, t, rfl, ht, ok, nc, hz, k⟩ := h
    refine ⟨_, (pss_one (ps_ret (pe_callB (SX.cr_sorted rfl hr.units) (by rfl) T.b_sorted (by decide +kernel) (pa_cons (pe_callTy (SX.cr_set rfl) (by rfl) T.b_set (by decide +kernel) (pa_cons (pe_lc (own := [("piece", 1)]) (g := (gName 1)) (by rfl) sc_names_in.nd (piL (K := K) rfl (pe_call c_all_pieces.ok (hr.mono (by decide)) (by rfl) c_all_pieces.mgx c_all_pieces.kp c_all_pieces.bd .nil pass0 (pa_cons (pv 0) pa_nil))) (blkOk_by (own := [("piece", 1)]) (N := ["told", "piece"]) (sc := defScope s_names_in) (by decide +kernel)) (fun _ _ _ _ _ => (pg_name (i := 1) sc_names_in.nd rfl (Or.inl rfl))) (fun _ _ _ _ _ => (pts_one (pt_cmpR op_eq (pe_ix (ixT (K := K) rfl) (pv 1) pe_int (fun _ _ => rfl)) pe_str (nomark _)))) (fun _ _ _ _ _ => (pe_ix (ixT (K := K) rfl) (pv 1) pe_int (fun _ _ => rfl)))) pa_nil)) pa_nil)))), ?_⟩
    refine s_retL (el_sortedSet (el_eq (el_lcLs (K := K) (j := 1) (vs := [1]) isNm ownV (els_call (ea_cons (ev_var (i := 0) (σ := [some x, none]) rfl) ea_nil) (spl_all_pieces ht ok (by omega))) (by omega) (fun _ => rfl) (fun y u H1 e1 hy hu => et_test (ev_is (ev_op (ev_wordA (K := K) (ev_var (i := 1) rfl) hy) ev_c (rv_eq rfl)) (by rw [dec_str]; rfl))) (fun y u H1 e1 hy hu hf => by
      obtain ⟨n, hn⟩ := (nc u hu).1 hf
      have e : ownV u = .str n := by unfold ownV; rw [hn] <;> rfl
      rw [e]
      exact ev_ownA (K := K) (ev_var (i := 1) rfl) hy hn)) (nms_eq nc)) (by have := nms_len t; omega)) fun p H1 hp e h1 => k p H1 hp e h1
theorem ok_rules_in {f f1 : Addr} {fd fd1 : FuncData} (F : Fun K "rules_in" "rules_in" s_rules_in f fd) (T : Txt P w K mg C SZ SY) (c_all_pieces : Cal P w K mg base "all_pieces" f1 fd1 ["told"] 2 sp_all_pieces) : FnOk P w K mg base CX0 3 f fd ["told"] sp_rules_in := by
  refine F.ok sc_rules_in (fun vs H Q E h => ?_) (fun cdv A outer s H vs Q E hr h => ?_)
  · obtain ⟨x, t, rfl, _⟩ := h
    rfl
  · obtain ⟨x, t, rfl, ht, ok, nc, hz, k⟩ := h
    refine ⟨_, (pss_one (ps_ret (pe_callB (SX.cr_sorted rfl hr.units) (by rfl) T.b_sorted (by decide +kernel) (pa_cons (pe_callTy (SX.cr_set rfl) (by rfl) T.b_set (by decide +kernel) (pa_cons (pe_lc (own := [("piece", 1)]) (g := (gName 1)) (by rfl) sc_rules_in.nd (piL (K := K) rfl (pe_call c_all_pieces.ok (hr.mono (by decide)) (by rfl) c_all_pieces.mgx c_all_pieces.kp c_all_pieces.bd .nil pass0 (pa_cons (pv 0) pa_nil))) (blkOk_by (own := [("piece", 1)]) (N := ["told", "piece"]) (sc := defScope s_rules_in) (by decide +kernel)) (fun _ _ _ _ _ => (pg_name (i := 1) sc_rules_in.nd rfl (Or.inl rfl))) (fun _ _ _ _ _ => (pts_one (pt_cmpR (inS (K := K) rfl) (pe_ix (ixT (K := K) rfl) (pv 1) pe_int (fun _ _ => rfl)) (pe_tup (pa_cons pe_str (pa_cons pe_str (pa_cons pe_str pa_nil)))) (by rfl)))) (fun _ _ _ _ _ => (pe_ix (ixT (K := K) rfl) (pv 1) pe_int (fun _ _ => rfl)))) pa_nil)) pa_nil)))), ?_⟩
    refine s_retL (el_sortedSet (el_eq (el_lcLs (K := K) (j := 1) (vs := [1]) isRl ownV (els_call (ea_cons (ev_var (i := 0) (σ := [some x, none]) rfl) ea_nil) (spl_all_pieces ht ok (by omega))) (by omega) (fun _ => rfl) (fun y u H1 e1 hy hu => et_test (ev_inW (K := K) ["on", "by", "til"] (ev_wordA (K := K) (ev_var (i := 1) rfl) hy) (ea_cons ev_c (ea_cons ev_c (ea_cons ev_c ea_nil))) (by decide))) (fun y u H1 e1 hy hu hf => by
      obtain ⟨n, hn⟩ := (nc u hu).2 hf
      have e : ownV u = .str n := by unfold ownV; rw [hn] <;> rfl
      rw [e]
      exact ev_ownA (K := K) (ev_var (i := 1) rfl) hy hn)) (rls_eq nc)) (by have := rls_len t; omega)) fun p H1 hp e h1 => k p H1 hp e h1
end
end K22
end
section
set_option maxHeartbeats 4000000
namespace K22
open PySem L2 Evl G TM TD
/-! ### which are formulas, which sayings -/
/-- a formula's piece, its parts not looked at -/
def TopF : Td → Prop
  | .lf w v => (w = "day" ∧ ∃ n, n ∈ nameL ∧ v = .str n) ∨ (w = "num" ∧ ∃ i, v = .int i)
  | .ov w v _ => (w ∈ turnL ∧ ∃ r, r ∈ ruleL ∧ v = .str r) ∨ (w = "add" ∧ ∃ i, v = .int i)
  | .nt _ => False
  | .bi w _ _ => w = "late" ∨ w = "soon"
/-- a saying's tuple, its parts not looked at -/
def TopS : Td → Prop
  | .nt _ => True
  | .bi w _ _ => w = "le" ∨ w = "and" ∨ w = "or"
  | _ => False
theorem isF_top {t : Td} (h : IsF t) : TopF t ∧ ∀ u ∈ kids t, IsF u := by
  cases t with
  | lf w v => exact ⟨h, fun u hu => by cases hu⟩
  | ov w v t => exact ⟨h.1, fun u hu => by cases List.mem_singleton.mp hu; exact h.2⟩
  | nt t => exact h.elim
  | bi w t u' => exact ⟨h.1, fun u hu => by
      rcases List.mem_cons.mp hu with e | e
      · subst e; exact h.2.1
      · cases List.mem_singleton.mp e; exact h.2.2⟩
theorem isS_top {t : Td} (h : IsS t) : TopS t ∧ ((word t = "le" ∧ ∀ u ∈ kids t, IsF u) ∨ (word t ≠ "le" ∧ ∀ u ∈ kids t, IsS u)) := by
  cases t with
  | lf w v => exact h.elim
  | ov w v t => exact h.elim
  | nt t => exact ⟨True.intro, .inr ⟨by show ("not" : Str) ≠ "le"; decide, fun u hu => by cases List.mem_singleton.mp hu; exact h⟩⟩
  | bi w t u' =>
    rcases h with ⟨e, a, b⟩ | ⟨e, a, b⟩
    · exact ⟨.inl e, .inl ⟨e, fun u hu => by
        rcases List.mem_cons.mp hu with e | e
        · subst e; exact a
        · cases List.mem_singleton.mp e; exact b⟩⟩
    · refine ⟨.inr e, .inr ⟨?_, fun u hu => ?_⟩⟩
      · show w ≠ "le"
        rcases e with e | e <;> (subst e; decide)
      · rcases List.mem_cons.mp hu with e | e
        · subst e; exact a
        · cases List.mem_singleton.mp e; exact b
theorem topF_ok {t : Td} (h : TopF t) : Ok t := by
  cases t with
  | lf w v => exact h.imp (·.1) (·.1)
  | ov w v t =>
    rcases h with ⟨h, _⟩ | ⟨h, _⟩
    · rcases turn_cases h with e | e | e
      · exact .inl e
      · exact .inr (.inl e)
      · exact .inr (.inr (.inl e))
    · exact .inr (.inr (.inr h))
  | nt t => exact h.elim
  | bi w t u => exact h.imp id .inl
theorem topS_ok {t : Td} (h : TopS t) : Ok t := by
  cases t with
  | lf w v => exact h.elim
  | ov w v t => exact h.elim
  | nt t => exact True.intro
  | bi w t u => exact .inr (.inr h)
theorem topS_word {t : Td} (h : TopS t) : word t ∈ wordS := by
  cases t with
  | lf w v => exact h.elim
  | ov w v t => exact h.elim
  | nt t => show ("not" : Str) ∈ wordS; decide
  | bi w t u => show w ∈ wordS; rcases h with e | e | e <;> (subst e; decide)
def lenT (t : Td) : Nat := 1 + ((own t).length + (kids t).length)
theorem topF_size {t : Td} (h : TopF t) : (word t, (lenT t : Int)) ∈ sizeF := by
  cases t with
  | lf w v => show (w, (2 : Int)) ∈ sizeF; rcases h with ⟨e, _⟩ | ⟨e, _⟩ <;> (subst e; decide)
  | ov w v t =>
    show (w, (3 : Int)) ∈ sizeF
    rcases h with ⟨h, _⟩ | ⟨h, _⟩
    · rcases turn_cases h with e | e | e <;> (subst e; decide)
    · subst h; decide
  | nt t => exact h.elim
  | bi w t u => show (w, (3 : Int)) ∈ sizeF; rcases h with e | e <;> (subst e; decide)
theorem topS_size {t : Td} (h : TopS t) : (word t, (lenT t : Int)) ∈ sizeS := by
  cases t with
  | lf w v => exact h.elim
  | ov w v t => exact h.elim
  | nt t => show (("not" : Str), (2 : Int)) ∈ sizeS; decide
  | bi w t u => show (w, (3 : Int)) ∈ sizeS; rcases h with e | e | e <;> (subst e; decide)
def sp__is_piece : Sp := fun vs H Q _ => ∃ x t, vs = [x] ∧ At H x t ∧ ((TopF t ∧ RetV (.bl true) H Q) ∨ (TopS t ∧ RetV (.bl false) H Q))
theorem spv_is_piece {x : V} {t : Td} {H : Hp} (h : At H x t) (k : TopF t) : SpV sp__is_piece ([x] ++ []) H (.bl true) := fun H1 e Q q E => ⟨x, t, rfl, h.mono (Tu.ex e), .inl ⟨k, q⟩⟩
theorem spv_no_piece {x : V} {t : Td} {H : Hp} (h : At H x t) (k : TopS t) : SpV sp__is_piece ([x] ++ []) H (.bl false) := fun H1 e Q q E => ⟨x, t, rfl, h.mono (Tu.ex e), .inr ⟨k, q⟩⟩
def sp_is_formula : Sp := fun vs H Q _ => ∃ x t, vs = [x] ∧ At H x t ∧ (pcs t).length ≤ 1000 ∧ ((IsF t ∧ RetV (.bl true) H Q) ∨ (TopS t ∧ RetV (.bl false) H Q))
theorem spv_is_formula {x : V} {t : Td} {H : Hp} (h : At H x t) (z : (pcs t).length ≤ 1000) (k : IsF t) : SpV sp_is_formula ([x] ++ []) H (.bl true) := fun H1 e Q q E => ⟨x, t, rfl, h.mono (Tu.ex e), z, .inl ⟨k, q⟩⟩
theorem spv_no_formula {x : V} {t : Td} {H : Hp} (h : At H x t) (z : (pcs t).length ≤ 1000) (k : TopS t) : SpV sp_is_formula ([x] ++ []) H (.bl false) := fun H1 e Q q E => ⟨x, t, rfl, h.mono (Tu.ex e), z, .inr ⟨k, q⟩⟩
def sp__is_tuple_of_saying : Sp := fun vs H Q _ => ∃ x t, vs = [x] ∧ At H x t ∧ TopS t ∧ RetV (.bl true) H Q
theorem spv_is_tos {x : V} {t : Td} {H : Hp} (h : At H x t) (k : TopS t) : SpV sp__is_tuple_of_saying ([x] ++ []) H (.bl true) := fun H1 e Q q E => ⟨x, t, rfl, h.mono (Tu.ex e), k, q⟩
def sp_is_saying : Sp := fun vs H Q _ => ∃ x t, vs = [x] ∧ At H x t ∧ (pcs t).length ≤ 1000 ∧ IsS t ∧ RetV (.bl true) H Q
theorem spv_is_saying {x : V} {t : Td} {H : Hp} (h : At H x t) (z : (pcs t).length ≤ 1000) (k : IsS t) : SpV sp_is_saying ([x] ++ []) H (.bl true) := fun H1 e Q q E => ⟨x, t, rfl, h.mono (Tu.ex e), z, k, q⟩
section
variable {P : Program} {w : World} {K : PySem.W.Frag} {mg : Str → Option Value} {base : Heap} {C SZ SY : Addr}
theorem ev_niKD {σ : L2.St} {H : Hp} {ta tb : TE} {d : Addr} {z : Str} {r : Option Value} (h : Ev ta σ H (.str z)) (k : Ev tb σ H (.ref d)) (e : PySem.W.nsIn K d z = some r) :
    Ev (tOp (fun x y H Q => ∃ (z : Str) (r : Option Value), x = .str z ∧ y = .ref d ∧ PySem.W.nsIn K d z = some r ∧ Q (.bl (!r.isSome)) H) ta tb) σ H (.bl (!r.isSome)) := ev_op h k fun H1 _ Q q => ⟨z, r, rfl, rfl, e, q H1 (Ex.refl H1)⟩
theorem ev_inKD {σ : L2.St} {H : Hp} {ta tb : TE} {d : Addr} {z : Str} {r : Option Value} (h : Ev ta σ H (.str z)) (k : Ev tb σ H (.ref d)) (e : PySem.W.nsIn K d z = some r) :
    Ev (tOp (fun x y H Q => ∃ (z : Str) (r : Option Value), x = .str z ∧ y = .ref d ∧ PySem.W.nsIn K d z = some r ∧ Q (.bl r.isSome) H) ta tb) σ H (.bl r.isSome) := ev_op h k fun H1 _ Q q => ⟨z, r, rfl, rfl, e, q H1 (Ex.refl H1)⟩
theorem ev_ixKD {σ : L2.St} {H : Hp} {ta tb : TE} {d : Addr} {z : Str} {v : V} (h : Ev ta σ H (.ref d)) (k : Ev tb σ H (.str z)) (e : KDct K w d z v) : Ev (tOp (rIxD K w) ta tb) σ H v := ev_op h k fun H1 _ Q q => ⟨d, z, v, rfl, rfl, e, q H1 (Ex.refl H1)⟩
theorem ev_lenT {σ : L2.St} {H : Hp} {te : TE} {x : V} {t : Td} (h : Ev te σ H x) (k : At H x t) : Ev (tCB (fun xs H Q => ∃ p ys, xs = [.ref p] ∧ (SqL K H p ys ∨ SqT K H p ys) ∧ Q (.int (ys.length : Int)) H) (tCons te tNil)) σ H (.int (lenT t : Int)) := by
  obtain ⟨a, ys, rfl, ha, hk⟩ := k.open
  refine ev_cb (ea_cons h ea_nil) (rc_len (.inr (st_of ha)) ?_)
  rw [List.length_cons, List.length_append, hk.len]
  unfold lenT
  omega
/-- the test that a told thing's form begins with -/
theorem et_head {σ : L2.St} {H : Hp} {te : TE} {x : V} {t : Td} (h : Ev te σ H x) (k : At H x t) :
    EvT (tOr (tNot (tB (tCB (rIsi K) (tCons te (tCons (tC (.ty "tuple")) tNil))))) (tOr (tTest (tOp rEq (tCB (fun xs H Q => ∃ p ys, xs = [.ref p] ∧ (SqL K H p ys ∨ SqT K H p ys) ∧ Q (.int (ys.length : Int)) H) (tCons te tNil)) (tC (.int 0))))
      (tNot (tB (tCB (rIsi K) (tCons (tOp (rIxT K) te (tC (.int 0))) (tCons (tC (.ty "str")) tNil))))))) σ H false := by
  obtain ⟨a, ys, rfl, ha, hk⟩ := id k.open
  have e0 : decide ((V.int (lenT t : Int)) = V.int 0) = false := decide_eq_false fun z => by
    have := V.int.inj z
    unfold lenT at this
    omega
  exact et_or (a := false) (b := false) (et_not (a := true) (et_B (ev_isiB (b := true) h (fun H1 e => .base (.tup (e a _ ha))) (by decide +kernel)))) fun _ =>
    et_or (a := false) (b := false) (et_is (et_test (ev_op (ev_lenT (K := K) h k) ev_c (rv_eq rfl))) e0) fun _ => et_not (a := true) (et_B (ev_isiB (b := true) (ev_wordA (K := K) h k) (fun H1 e => .base (.str _)) (by decide +kernel)))
theorem ok__is_piece {f f1 f2 f3 : Addr} {fd fd1 fd2 fd3 : FuncData} (F : Fun K "_is_piece" "_is_piece" s__is_piece f fd) (T : Txt P w K mg C SZ SY) (c_is_name : Cal P w K mg base "is_name" f1 fd1 ["value"] 1 (sp_letter nameL)) (c_is_day : Cal P w K mg base "is_day" f2 fd2 ["value"] 1 sp_is_day) (c_is_rule : Cal P w K mg base "is_rule" f3 fd3 ["value"] 1 (sp_letter ruleL)) :
    FnOk P w K mg base CX0 2 f fd ["value"] sp__is_piece := by
  refine F.ok sc__is_piece (fun vs H Q E h => ?_) (fun cdv A outer s H vs Q E hr h => ?_)
  · obtain ⟨x, t, rfl, _⟩ := h
    rfl
  · obtain ⟨x, t, rfl, ht, h⟩ := h
    refine ⟨_, (pss_cons (ps_if (PW.pt (pw_or (pt_not (pt_val (pe_callB (isiS (K := K) rfl) (by rfl) T.b_isinstance (by decide +kernel) (pa_cons (pv 0) (pa_cons (pe_bltn (v := .ty "tuple") (u := .type "tuple") (by rfl) T.b_tuple (by decide +kernel) rfl) pa_nil))))) (pw_or (pt_cmpR op_eq (pe_callB (lenS (K := K) rfl) (by rfl) T.b_len (by decide +kernel) (pa_cons (pv 0) pa_nil)) pe_int (nomark _)) (pw_or1 (pt_not (pt_val (pe_callB (isiS (K := K) rfl) (by rfl) T.b_isinstance (by decide +kernel) (pa_cons (pe_ix (ixT (K := K) rfl) (pv 0) pe_int (fun _ _ => rfl)) (pa_cons (pe_bltn (v := .ty "str") (u := .type "str") (by rfl) T.b_str (by decide +kernel) rfl) pa_nil))))))))) (pss_one (ps_ret pe_bl)) pss_nil) (pss_cons (ps_set (i := 1) sc__is_piece.nd rfl (Or.inl rfl) (pe_ix (ixT (K := K) rfl) (pv 0) pe_int (fun _ _ => rfl))) (pss_cons (ps_if (PW.pt (pw_or (pt_cmpR (op_notIn_kd T.z.kd.choose_spec.choose_spec) (pv 1) (pe_glob (v := .ref SZ) rfl T.mg_SIZES rfl) (by rfl)) (pw_or1 (pt_cmpR op_ne (pe_callB (lenS (K := K) rfl) (by rfl) T.b_len (by decide +kernel) (pa_cons (pv 0) pa_nil)) (pe_ix ix_kdict (pe_glob (v := .ref SZ) rfl T.mg_SIZES rfl) (pv 1) (fun _ _ => rfl)) (nomark _))))) (pss_one (ps_ret pe_bl)) pss_nil) (pss_cons (ps_if (pt_cmpR op_eq (pv 1) pe_str (nomark _)) (pss_one (ps_ret (pe_call c_is_name.ok (hr.mono (by decide)) (by rfl) c_is_name.mgx c_is_name.kp c_is_name.bd .nil pass0 (pa_cons (pe_ix (ixT (K := K) rfl) (pv 0) pe_int (fun _ _ => rfl)) pa_nil)))) pss_nil) (pss_cons (ps_if (pt_cmpR (inS (K := K) rfl) (pv 1) (pe_tup (pa_cons pe_str (pa_cons pe_str pa_nil))) (by rfl)) (pss_one (ps_ret (pe_call c_is_day.ok (hr.mono (by decide)) (by rfl) c_is_day.mgx c_is_day.kp c_is_day.bd .nil pass0 (pa_cons (pe_ix (ixT (K := K) rfl) (pv 0) pe_int (fun _ _ => rfl)) pa_nil)))) pss_nil) (pss_one (ps_ret (pe_or (pe_cmpR (inS (K := K) rfl) (pv 1) (pe_tup (pa_cons pe_str (pa_cons pe_str pa_nil))) (by rfl)) (pe_one (pe_call c_is_rule.ok (hr.mono (by decide)) (by rfl) c_is_rule.mgx c_is_rule.kp c_is_rule.bd .nil pass0 (pa_cons (pe_ix (ixT (K := K) rfl) (pv 0) pe_int (fun _ _ => rfl)) pa_nil))))))))))), ?_⟩
    refine q_when (et_head (K := K) (ev_var rfl) ht) (fun z => by cases z) fun _ H1 e1 => ?_
    refine q_asg (ev_wordA (K := K) (ev_var rfl) (ht.mono (Tu.ex e1))) fun H2 e2 => ?_
    have a2 : At H2 x t := ht.mono (Tu.ex (e1.trans e2))
    rcases h with ⟨top, k⟩ | ⟨top, k⟩
    · obtain ⟨kd, u, hu⟩ := T.z.there _ (topF_size top)
      refine q_when (b := false) (et_or (a := false) (b := false) (et_test (ev_niKD (r := some u) (ev_var rfl) ev_c hu)) fun _ => et_is (et_test (ev_op (ev_lenT (K := K) (ev_var rfl) a2) (ev_ixKD ev_c (ev_var rfl) kd) (rv_ne rfl))) (by simp)) (fun z => by cases z) fun _ H3 e3 => ?_
      have a3 : At H3 x t := a2.mono (Tu.ex e3)
      cases t with
      | lf w v =>
        rcases top with ⟨e, n, hn, rfl⟩ | ⟨e, i, rfl⟩
        · subst e
          refine q_when (b := true) (et_test (ev_op (ev_var rfl) ev_c (rv_eq rfl))) (fun _ H4 e4 => ?_) (fun z => by cases z)
          exact s_ret (ev_call (ea_cons (ev_ownA (K := K) (ev_var rfl) (a3.mono (Tu.ex e4)) rfl) ea_nil) (spv_letter hn)) fun H5 e5 => k H5 ((((e1.trans e2).trans e3).trans e4).trans e5)
        · subst e
          refine q_when (b := false) (et_test (ev_op (ev_var rfl) ev_c (rv_eq rfl))) (fun z => by cases z) (fun _ H4 e4 => ?_)
          refine q_when (b := true) (et_test (ev_inW (K := K) (x := "num") ["num", "add"] (ev_var rfl) (ea_cons ev_c (ea_cons ev_c ea_nil)) (by decide))) (fun _ H5 e5 => ?_) (fun z => by cases z)
          exact s_ret (ev_call (ea_cons (ev_ownA (K := K) (ev_var rfl) (a3.mono (Tu.ex (e4.trans e5))) rfl) ea_nil) spv_is_day) fun H6 e6 => k H6 (((((e1.trans e2).trans e3).trans e4).trans e5).trans e6)
      | ov w v t =>
        rcases top with ⟨e, r, hr', rfl⟩ | ⟨e, i, rfl⟩
        · have hd : decide ((V.str w) = V.str "day") = false := by rw [dec_str]; rcases turn_cases e with e | e | e <;> (subst e; decide)
          have hn : decide (w ∈ (["num", "add"] : List Str)) = false := by rcases turn_cases e with e | e | e <;> (subst e; decide)
          have hl : decide (w ∈ (["late", "soon"] : List Str)) = false := by rcases turn_cases e with e | e | e <;> (subst e; decide)
          refine q_when (b := false) (et_is (et_test (ev_op (ev_var rfl) ev_c (rv_eq rfl))) hd) (fun z => by cases z) (fun _ H4 e4 => ?_)
          refine q_when (b := false) (et_is (et_test (ev_inW (K := K) (x := w) ["num", "add"] (ev_var rfl) (ea_cons ev_c (ea_cons ev_c ea_nil)) (by decide))) hn) (fun z => by cases z) (fun _ H5 e5 => ?_)
          refine s_ret (ev_orV (a := false) (b := true) (ev_is (ev_inW (K := K) (x := w) ["late", "soon"] (ev_var rfl) (ea_cons ev_c (ea_cons ev_c ea_nil)) (by decide)) (by rw [hl])) fun _ => ev_call (ea_cons (ev_ownA (K := K) (ev_var rfl) (a3.mono (Tu.ex (e4.trans e5))) rfl) ea_nil) (spv_letter hr')) fun H6 e6 => k H6 (((((e1.trans e2).trans e3).trans e4).trans e5).trans e6)
        · subst e
          refine q_when (b := false) (et_test (ev_op (ev_var rfl) ev_c (rv_eq rfl))) (fun z => by cases z) (fun _ H4 e4 => ?_)
          refine q_when (b := true) (et_test (ev_inW (K := K) (x := "add") ["num", "add"] (ev_var rfl) (ea_cons ev_c (ea_cons ev_c ea_nil)) (by decide))) (fun _ H5 e5 => ?_) (fun z => by cases z)
          exact s_ret (ev_call (ea_cons (ev_ownA (K := K) (ev_var rfl) (a3.mono (Tu.ex (e4.trans e5))) rfl) ea_nil) spv_is_day) fun H6 e6 => k H6 (((((e1.trans e2).trans e3).trans e4).trans e5).trans e6)
      | nt t => exact top.elim
      | bi w t u' =>
        have hd : decide ((V.str w) = V.str "day") = false := by rw [dec_str]; rcases top with e | e <;> (subst e; decide)
        have hn : decide (w ∈ (["num", "add"] : List Str)) = false := by rcases top with e | e <;> (subst e; decide)
        have hl : decide (w ∈ (["late", "soon"] : List Str)) = true := by rcases top with e | e <;> (subst e; decide)
        refine q_when (b := false) (et_is (et_test (ev_op (ev_var rfl) ev_c (rv_eq rfl))) hd) (fun z => by cases z) (fun _ H4 e4 => ?_)
        refine q_when (b := false) (et_is (et_test (ev_inW (K := K) (x := w) ["num", "add"] (ev_var rfl) (ea_cons ev_c (ea_cons ev_c ea_nil)) (by decide))) hn) (fun z => by cases z) (fun _ H5 e5 => ?_)
        refine s_ret (ev_orV (a := true) (b := true) (ev_is (ev_inW (K := K) (x := w) ["late", "soon"] (ev_var rfl) (ea_cons ev_c (ea_cons ev_c ea_nil)) (by decide)) (by rw [hl])) fun z => by cases z) fun H6 e6 => k H6 (((((e1.trans e2).trans e3).trans e4).trans e5).trans e6)
    · refine q_when (b := true) (et_or (a := true) (b := true) (et_test (ev_niKD (r := none) (ev_var rfl) ev_c (T.z.miss _ (topS_word top)))) fun z => by cases z) (fun _ H3 e3 => ?_) fun z => by cases z
      exact s_ret ev_c fun H4 e4 => k H4 (((e1.trans e2).trans e3).trans e4)
end
end K22
end
section
set_option maxHeartbeats 4000000
namespace K22
open PySem L2 Evl G TM TD
theorem sizes_kids_lt (t : Td) : sizes (kids t) < (pcs t).length := by rw [size_kids]; omega
theorem sizes_snoc (ws : List Td) (u : Td) : sizes (ws ++ [u]) = sizes ws + (pcs u).length := by rw [sizes_app, sizes_cons]; rfl
def sp_need_formula : Sp := fun vs H Q _ => ∃ x t, vs = [x] ∧ At H x t ∧ (pcs t).length ≤ 1000 ∧ IsF t ∧ RetV .non H Q
theorem spv_need_formula {x : V} {t : Td} {H : Hp} (h : At H x t) (z : (pcs t).length ≤ 1000) (k : IsF t) : SpV sp_need_formula ([x] ++ []) H .non := fun H1 e Q q E => ⟨x, t, rfl, h.mono (Tu.ex e), z, k, q⟩
def sp_need_saying : Sp := fun vs H Q _ => ∃ x t, vs = [x] ∧ At H x t ∧ (pcs t).length ≤ 1000 ∧ IsS t ∧ RetV .non H Q
theorem spv_need_saying {x : V} {t : Td} {H : Hp} (h : At H x t) (z : (pcs t).length ≤ 1000) (k : IsS t) : SpV sp_need_saying ([x] ++ []) H .non := fun H1 e Q q E => ⟨x, t, rfl, h.mono (Tu.ex e), z, k, q⟩
def sp_need_told : Sp := fun vs H Q _ => ∃ x t, vs = [x] ∧ At H x t ∧ (pcs t).length ≤ 1000 ∧ (IsF t ∨ IsS t) ∧ RetV .non H Q
theorem spv_need_told {x : V} {t : Td} {H : Hp} (h : At H x t) (z : (pcs t).length ≤ 1000) (k : IsF t ∨ IsS t) : SpV sp_need_told ([x] ++ []) H .non := fun H1 e Q q E => ⟨x, t, rfl, h.mono (Tu.ex e), z, k, q⟩
theorem told_ok {t : Td} (h : IsF t ∨ IsS t) : OkD t := h.elim IsF.okD IsS.okD
theorem told_nice {t : Td} (h : IsF t ∨ IsS t) : NiceD t := h.elim IsF.nice IsS.nice
def sp_pieces : Sp := fun vs H Q _ => ∃ x t, vs = [x] ∧ At H x t ∧ (pcs t).length ≤ 1000 ∧ (IsF t ∨ IsS t) ∧ RetV (.int ((pcs t).length : Int)) H Q
theorem spv_pieces {x : V} {t : Td} {H : Hp} (h : At H x t) (z : (pcs t).length ≤ 1000) (k : IsF t ∨ IsS t) : SpV sp_pieces ([x] ++ []) H (.int ((pcs t).length : Int)) := fun H1 e Q q E => ⟨x, t, rfl, h.mono (Tu.ex e), z, k, q⟩
def sp_names_of : Sp := fun vs H Q _ => ∃ x t, vs = [x] ∧ At H x t ∧ (pcs t).length ≤ 63 ∧ (IsF t ∨ IsS t) ∧ RetL ((nrm (nmsOf t)).map V.str) H Q
theorem spl_names_of {x : V} {t : Td} {H : Hp} (h : At H x t) (z : (pcs t).length ≤ 63) (k : IsF t ∨ IsS t) : SpL sp_names_of ([x] ++ []) H ((nrm (nmsOf t)).map V.str) := fun H1 e Q q E => ⟨x, t, rfl, h.mono (Tu.ex e), z, k, q⟩
def sp_rules_of : Sp := fun vs H Q _ => ∃ x t, vs = [x] ∧ At H x t ∧ (pcs t).length ≤ 63 ∧ (IsF t ∨ IsS t) ∧ RetL ((nrm (rlsOf t)).map V.str) H Q
theorem spl_rules_of {x : V} {t : Td} {H : Hp} (h : At H x t) (z : (pcs t).length ≤ 63) (k : IsF t ∨ IsS t) : SpL sp_rules_of ([x] ++ []) H ((nrm (rlsOf t)).map V.str) := fun H1 e Q q E => ⟨x, t, rfl, h.mono (Tu.ex e), z, k, q⟩
section
variable {P : Program} {w : World} {K : PySem.W.Frag} {mg : Str → Option Value} {base : Heap} {C SZ SY : Addr}
theorem ok_is_formula {f f1 f2 : Addr} {fd fd1 fd2 : FuncData} (F : Fun K "is_formula" "is_formula" s_is_formula f fd) (T : Txt P w K mg C SZ SY) (c__is_piece : Cal P w K mg base "_is_piece" f1 fd1 ["value"] 2 sp__is_piece) (c_parts_of : Cal P w K mg base "parts_of" f2 fd2 ["told"] 1 sp_parts_of) :
    FnOk P w K mg base CX0 3 f fd ["value"] sp_is_formula := by
  refine F.ok sc_is_formula (fun vs H Q E h => ?_) (fun cdv A outer s H vs Q E hr h => ?_)
  · obtain ⟨x, t, rfl, _⟩ := h
    rfl
  · obtain ⟨x, t, rfl, ht, hz, h⟩ := h
    refine ⟨_, (pss_cons (ps_set (i := 1) sc_is_formula.nd rfl (Or.inl rfl) (pe_lst (pa_cons (pv 0) pa_nil))) (pss_cons (ps_while PassesOwn.never (pt_truth (pv 1) (fun _ => rfl)) (pss_cons (ps_set (i := 2) sc_is_formula.nd rfl (Or.inl rfl) (pe_bm0 PySem.F.plainAttrs_list PySem.F.slot_list_pop PySem.F.type_list_pop mt_pop (pv 1))) (pss_cons (ps_if (pt_not (pt_val (pe_call c__is_piece.ok (hr.mono (by decide)) (by rfl) c__is_piece.mgx c__is_piece.kp c__is_piece.bd .nil pass0 (pa_cons (pv 2) pa_nil)))) (pss_one (ps_ret pe_bl)) pss_nil) (pss_one (ps_expr (pe_bm PySem.F.plainAttrs_list PySem.F.slot_list_extend PySem.F.type_list_extend (SX.mt_extT (K := K) rfl) (pv 1) (pa_cons (pe_call c_parts_of.ok (hr.mono (by decide)) (by rfl) c_parts_of.mgx c_parts_of.kp c_parts_of.bd .nil pass0 (pa_cons (pv 2) pa_nil)) pa_nil))))))) (pss_one (ps_ret pe_bl)))), ?_⟩
    refine q_asgL (el_lst (ea_cons (ev_var rfl) ea_nil) (by show 1 ≤ 100000; decide)) fun wa H1 hw e1 h1 => ?_
    refine q_while (fun m σ' H' => ∃ (ws : List Td) (ys : List V) (y0 : Option V), σ' = [some x, some (.ref wa), y0] ∧ Ex H H' ∧ H' wa = some (.lst ys) ∧ Ats H' ys ws ∧ m = sizes ws ∧ sizes ws ≤ 1000 ∧ ((IsF t ∧ RetV (.bl true) H Q ∧ ∀ u ∈ ws, IsF u) ∨ (TopS t ∧ RetV (.bl false) H Q ∧ ws = [t]))) (sizes [t])
      ⟨[t], [x], none, rfl, e1, h1, .one (ht.mono (Tu.ex e1)), rfl, by rw [sizes_cons]; show (pcs t).length + 0 ≤ 1000; omega, ?_⟩ ?_
    · rcases h with ⟨a, b⟩ | ⟨a, b⟩
      · exact .inl ⟨a, b, fun u hu => by cases List.mem_singleton.mp hu; exact a⟩
      · exact .inr ⟨a, b, rfl⟩
    rintro m σ' H' ⟨ws, ys, y0, rfl, e0, hwa, hys, rfl, hsz, hg⟩
    refine ⟨_, et_full rfl (ev_var rfl) hwa, fun hb H3 e3 => ?_, fun hb H3 e3 => ?_⟩
    · have hys0 : ys ≠ [] := fun z => by rw [z] at hb; cases hb
      have hws0 : ws ≠ [] := fun z => by subst z; cases hys; exact hys0 rfl
      obtain ⟨ws', u, rfl⟩ : ∃ ws' u, ws = ws' ++ [u] := ⟨ws.dropLast, ws.getLast hws0, (List.dropLast_concat_getLast hws0).symm⟩
      obtain ⟨ys', y, rfl, k1, k2⟩ := hys.last
      have hs1 := sizes_snoc ws' u
      have hs2 := sizes_kids_lt u
      refine ⟨fun σ2 H4 => ∃ m', m' < sizes (ws' ++ [u]) ∧ ∃ (ws : List Td) (ys : List V) (y0 : Option V), σ2 = [some x, some (.ref wa), y0] ∧ Ex H H4 ∧ H4 wa = some (.lst ys) ∧ Ats H4 ys ws ∧ m' = sizes ws ∧ sizes ws ≤ 1000 ∧ ((IsF t ∧ RetV (.bl true) H Q ∧ ∀ u ∈ ws, IsF u) ∨ (TopS t ∧ RetV (.bl false) H Q ∧ ws = [t])), fun _ _ z => z, ?_⟩
      refine q_pop (e3 wa _ hwa) (ev_var rfl) fun H4 e4 => ?_
      have t4 : Tu H' (upd H4 wa (.lst ys')) := (Tu.ex (e3.trans e4)).trans (Tu.lst (e4 wa _ (e3 wa _ hwa)))
      have x4 : Ex H (upd H4 wa (.lst ys')) := ((e0.trans e3).trans e4).mut hw
      rcases hg with ⟨hF, kk, hall⟩ | ⟨hS, kk, heq⟩
      · obtain ⟨tu, hkids⟩ := isF_top (hall u (by simp))
        refine q_when (b := false) (et_not (a := true) (et_B (ev_call (ea_cons (ev_var rfl) ea_nil) (spv_is_piece (k2.mono t4) tu)))) (fun z => by cases z) fun _ H5 e5 => ?_
        have w5 : H5 wa = some (.lst ys') := e5 wa _ upd_same
        have t5 : Tu H' H5 := t4.trans (Tu.ex e5)
        have hl1 := sizes_len (kids u)
        have hl2 := sizes_len ws'
        refine s_extK w5 (ev_var rfl) (eks_call (ea_cons (ev_var rfl) ea_nil) (spk_parts_of (k2.mono t5) (topF_ok tu))) (by rw [k1.len]; omega) fun H6 zs e6 kz => ?_
        have t6 : Tu H' (upd H6 wa (.lst (ys' ++ zs))) := (t5.trans (Tu.ex e6)).trans (Tu.lst (e6 wa _ w5))
        refine ⟨sizes (ws' ++ kids u), by rw [sizes_app]; omega, ws' ++ kids u, ys' ++ zs, some y, rfl, ((x4.trans e5).trans e6).mut hw, upd_same, (k1.mono t6).app (kz.mono (Tu.lst (e6 wa _ w5))), rfl, by rw [sizes_app]; omega, .inl ⟨hF, kk, fun v hv => ?_⟩⟩
        rcases List.mem_append.mp hv with z | z
        · exact hall v (List.mem_append.mpr (.inl z))
        · exact hkids v z
      · have hu : u = t := by
          have := congrArg List.getLast? heq
          simpa using this
        subst hu
        refine q_when (b := true) (et_not (a := false) (et_B (ev_call (ea_cons (ev_var rfl) ea_nil) (spv_no_piece (k2.mono t4) hS)))) (fun _ H5 e5 => ?_) fun z => by cases z
        exact s_ret ev_c fun H6 e6 => kk H6 ((x4.trans e5).trans e6)
    · have hys0 : ys = [] := by cases ys with | nil => rfl | cons _ _ => cases hb
      subst hys0
      cases hys
      rcases hg with ⟨_, kk, _⟩ | ⟨_, _, heq⟩
      · exact s_ret ev_c fun H4 e4 => kk H4 ((e0.trans e3).trans e4)
      · cases heq
theorem ok_need_formula {f f1 : Addr} {fd fd1 : FuncData} (F : Fun K "need_formula" "need_formula" s_need_formula f fd) (T : Txt P w K mg C SZ SY) (c_is_formula : Cal P w K mg base "is_formula" f1 fd1 ["value"] 3 sp_is_formula) : FnOk P w K mg base CX0 4 f fd ["value"] sp_need_formula := by
  refine F.ok sc_need_formula (fun vs H Q E h => ?_) (fun cdv A outer s H vs Q E hr h => ?_)
  · obtain ⟨x, t, rfl, _⟩ := h
    rfl
  · obtain ⟨x, t, rfl, ht, hz, hF, k⟩ := h
    refine ⟨_, (pss_one (ps_if (pt_not (pt_val (pe_call c_is_formula.ok (hr.mono (by decide)) (by rfl) c_is_formula.mgx c_is_formula.kp c_is_formula.bd .nil pass0 (pa_cons (pv 0) pa_nil)))) (pss_one ps_never) pss_nil)), ?_⟩
    exact s_when (b := false) (et_not (a := true) (et_B (ev_call (ea_cons (ev_var rfl) ea_nil) (spv_is_formula ht hz hF)))) (fun h => by cases h) fun _ H1 e => k H1 e
theorem ok__is_tuple_of_saying {f : Addr} {fd : FuncData} (F : Fun K "_is_tuple_of_saying" "_is_tuple_of_saying" s__is_tuple_of_saying f fd) (T : Txt P w K mg C SZ SY) : FnOk P w K mg base CX0 1 f fd ["value"] sp__is_tuple_of_saying := by
  refine F.ok sc__is_tuple_of_saying (fun vs H Q E h => ?_) (fun cdv A outer s H vs Q E hr h => ?_)
  · obtain ⟨x, t, rfl, _⟩ := h
    rfl
  · obtain ⟨x, t, rfl, ht, top, k⟩ := h
    refine ⟨_, (pss_cons (ps_if (PW.pt (pw_or (pt_not (pt_val (pe_callB (isiS (K := K) rfl) (by rfl) T.b_isinstance (by decide +kernel) (pa_cons (pv 0) (pa_cons (pe_bltn (v := .ty "tuple") (u := .type "tuple") (by rfl) T.b_tuple (by decide +kernel) rfl) pa_nil))))) (pw_or (pt_cmpR op_eq (pe_callB (lenS (K := K) rfl) (by rfl) T.b_len (by decide +kernel) (pa_cons (pv 0) pa_nil)) pe_int (nomark _)) (pw_or1 (pt_not (pt_val (pe_callB (isiS (K := K) rfl) (by rfl) T.b_isinstance (by decide +kernel) (pa_cons (pe_ix (ixT (K := K) rfl) (pv 0) pe_int (fun _ _ => rfl)) (pa_cons (pe_bltn (v := .ty "str") (u := .type "str") (by rfl) T.b_str (by decide +kernel) rfl) pa_nil))))))))) (pss_one (ps_ret pe_bl)) pss_nil) (pss_one (ps_ret (pe_and (pe_cmpR (op_in_kd T.y.kd.choose_spec.choose_spec) (pe_ix (ixT (K := K) rfl) (pv 0) pe_int (fun _ _ => rfl)) (pe_glob (v := .ref SY) rfl T.mg_SIZES_OF_SAYINGS rfl) (by rfl)) (pe_one (pe_cmpR op_eq (pe_callB (lenS (K := K) rfl) (by rfl) T.b_len (by decide +kernel) (pa_cons (pv 0) pa_nil)) (pe_ix ix_kdict (pe_glob (v := .ref SY) rfl T.mg_SIZES_OF_SAYINGS rfl) (pe_ix (ixT (K := K) rfl) (pv 0) pe_int (fun _ _ => rfl)) (fun _ _ => rfl)) (nomark _))))))), ?_⟩
    refine q_when (et_head (K := K) (ev_var rfl) ht) (fun z => by cases z) fun _ H1 e1 => ?_
    have a1 : At H1 x t := ht.mono (Tu.ex e1)
    obtain ⟨kd, u, hu⟩ := T.y.there _ (topS_size top)
    refine s_ret (ev_andV (a := true) (b := true) (ev_inKD (r := some u) (ev_wordA (K := K) (ev_var rfl) a1) ev_c hu) fun _ => ev_is (ev_op (ev_lenT (K := K) (ev_var rfl) a1) (ev_ixKD ev_c (ev_wordA (K := K) (ev_var rfl) a1) kd) (rv_eq rfl)) (by simp)) fun H2 e2 => k H2 (e1.trans e2)
end
end K22
end
section
set_option maxHeartbeats 4000000
namespace K22
open PySem L2 Evl G TM TD
section
variable {P : Program} {w : World} {K : PySem.W.Frag} {mg : Str → Option Value} {base : Heap} {C SZ SY : Addr}
theorem ok_is_saying {f f1 f2 f3 : Addr} {fd fd1 fd2 fd3 : FuncData} (F : Fun K "is_saying" "is_saying" s_is_saying f fd) (T : Txt P w K mg C SZ SY) (c__is_tuple_of_saying : Cal P w K mg base "_is_tuple_of_saying" f1 fd1 ["value"] 1 sp__is_tuple_of_saying) (c_parts_of : Cal P w K mg base "parts_of" f2 fd2 ["told"] 1 sp_parts_of) (c_is_formula : Cal P w K mg base "is_formula" f3 fd3 ["value"] 3 sp_is_formula) :
    FnOk P w K mg base CX0 4 f fd ["value"] sp_is_saying := by
  refine F.ok sc_is_saying (fun vs H Q E h => ?_) (fun cdv A outer s H vs Q E hr h => ?_)
  · obtain ⟨x, t, rfl, _⟩ := h
    rfl
  · obtain ⟨x, t, rfl, ht, hz, hS, k⟩ := h
    refine ⟨_, (pss_cons (ps_set (i := 1) sc_is_saying.nd rfl (Or.inl rfl) (pe_lst (pa_cons (pv 0) pa_nil))) (pss_cons (ps_while PassesOwn.never (pt_truth (pv 1) (fun _ => rfl)) (pss_cons (ps_set (i := 2) sc_is_saying.nd rfl (Or.inl rfl) (pe_bm0 PySem.F.plainAttrs_list PySem.F.slot_list_pop PySem.F.type_list_pop mt_pop (pv 1))) (pss_cons (ps_if (pt_not (pt_val (pe_call c__is_tuple_of_saying.ok (hr.mono (by decide)) (by rfl) c__is_tuple_of_saying.mgx c__is_tuple_of_saying.kp c__is_tuple_of_saying.bd .nil pass0 (pa_cons (pv 2) pa_nil)))) (pss_one (ps_ret pe_bl)) pss_nil) (pss_one (ps_if (pt_cmpR op_ne (pe_ix (ixT (K := K) rfl) (pv 2) pe_int (fun _ _ => rfl)) pe_str (nomark _)) (pss_one (ps_expr (pe_bm PySem.F.plainAttrs_list PySem.F.slot_list_extend PySem.F.type_list_extend (SX.mt_extT (K := K) rfl) (pv 1) (pa_cons (pe_call c_parts_of.ok (hr.mono (by decide)) (by rfl) c_parts_of.mgx c_parts_of.kp c_parts_of.bd .nil pass0 (pa_cons (pv 2) pa_nil)) pa_nil)))) (pss_one (ps_if (PW.pt (pw_or (pt_not (pt_val (pe_call c_is_formula.ok (hr.mono (by decide)) (by rfl) c_is_formula.mgx c_is_formula.kp c_is_formula.bd .nil pass0 (pa_cons (pe_ix (ixT (K := K) rfl) (pv 2) pe_int (fun _ _ => rfl)) pa_nil)))) (pw_or1 (pt_not (pt_val (pe_call c_is_formula.ok (hr.mono (by decide)) (by rfl) c_is_formula.mgx c_is_formula.kp c_is_formula.bd .nil pass0 (pa_cons (pe_ix (ixT (K := K) rfl) (pv 2) pe_int (fun _ _ => rfl)) pa_nil))))))) (pss_one (ps_ret pe_bl)) pss_nil))))))) (pss_one (ps_ret pe_bl)))), ?_⟩
    refine q_asgL (el_lst (ea_cons (ev_var rfl) ea_nil) (by show 1 ≤ 100000; decide)) fun wa H1 hw e1 h1 => ?_
    refine q_while (fun m σ' H' => ∃ (ws : List Td) (ys : List V) (y0 : Option V), σ' = [some x, some (.ref wa), y0] ∧ Ex H H' ∧ H' wa = some (.lst ys) ∧ Ats H' ys ws ∧ m = sizes ws ∧ sizes ws ≤ 1000 ∧ ∀ u ∈ ws, IsS u) (sizes [t])
      ⟨[t], [x], none, rfl, e1, h1, .one (ht.mono (Tu.ex e1)), rfl, by rw [sizes_cons]; show (pcs t).length + 0 ≤ 1000; omega, fun u hu => by cases List.mem_singleton.mp hu; exact hS⟩ ?_
    rintro m σ' H' ⟨ws, ys, y0, rfl, e0, hwa, hys, rfl, hsz, hall⟩
    refine ⟨_, et_full rfl (ev_var rfl) hwa, fun hb H3 e3 => ?_, fun hb H3 e3 => ?_⟩
    · have hys0 : ys ≠ [] := fun z => by rw [z] at hb; cases hb
      have hws0 : ws ≠ [] := fun z => by subst z; cases hys; exact hys0 rfl
      obtain ⟨ws', u, rfl⟩ : ∃ ws' u, ws = ws' ++ [u] := ⟨ws.dropLast, ws.getLast hws0, (List.dropLast_concat_getLast hws0).symm⟩
      obtain ⟨ys', y, rfl, k1, k2⟩ := hys.last
      have hs1 := sizes_snoc ws' u
      have hs2 := sizes_kids_lt u
      refine ⟨fun σ2 H4 => ∃ m', m' < sizes (ws' ++ [u]) ∧ ∃ (ws : List Td) (ys : List V) (y0 : Option V), σ2 = [some x, some (.ref wa), y0] ∧ Ex H H4 ∧ H4 wa = some (.lst ys) ∧ Ats H4 ys ws ∧ m' = sizes ws ∧ sizes ws ≤ 1000 ∧ ∀ u ∈ ws, IsS u, fun _ _ z => z, ?_⟩
      refine q_pop (e3 wa _ hwa) (ev_var rfl) fun H4 e4 => ?_
      have t4 : Tu H' (upd H4 wa (.lst ys')) := (Tu.ex (e3.trans e4)).trans (Tu.lst (e4 wa _ (e3 wa _ hwa)))
      have x4 : Ex H (upd H4 wa (.lst ys')) := ((e0.trans e3).trans e4).mut hw
      obtain ⟨tu, hkids⟩ := isS_top (hall u (by simp))
      refine q_when (b := false) (et_not (a := true) (et_B (ev_call (ea_cons (ev_var rfl) ea_nil) (spv_is_tos (k2.mono t4) tu)))) (fun z => by cases z) fun _ H5 e5 => ?_
      have w5 : H5 wa = some (.lst ys') := e5 wa _ upd_same
      have t5 : Tu H' H5 := t4.trans (Tu.ex e5)
      have hl1 := sizes_len (kids u)
      have hl2 := sizes_len ws'
      refine s_if (b := !decide (word u = "le")) (et_is (et_test (ev_op (ev_wordA (K := K) (ev_var rfl) (k2.mono t5)) ev_c (rv_ne rfl))) (by rw [dec_str])) (fun hne H6 e6 => ?_) fun heq H6 e6 => ?_
      · have hne' : word u ≠ "le" := fun z => by rw [z] at hne; cases hne
        have hk : ∀ v ∈ kids u, IsS v := (hkids.resolve_left fun z => hne' z.1).2
        have t6' : Tu H' H6 := t5.trans (Tu.ex e6)
        refine s_extK (e6 wa _ w5) (ev_var rfl) (eks_call (ea_cons (ev_var rfl) ea_nil) (spk_parts_of (k2.mono t6') (topS_ok tu))) (by rw [k1.len]; omega) fun H7 zs e7 kz => ?_
        have t7 : Tu H' (upd H7 wa (.lst (ys' ++ zs))) := (t6'.trans (Tu.ex e7)).trans (Tu.lst (e7 wa _ (e6 wa _ w5)))
        refine ⟨sizes (ws' ++ kids u), by rw [sizes_app]; omega, ws' ++ kids u, ys' ++ zs, some y, rfl, (((x4.trans e5).trans e6).trans e7).mut hw, upd_same, (k1.mono t7).app (kz.mono (Tu.lst (e7 wa _ (e6 wa _ w5)))), rfl, by rw [sizes_app]; omega, fun v hv => ?_⟩
        rcases List.mem_append.mp hv with z | z
        · exact hall v (List.mem_append.mpr (.inl z))
        · exact hk v z
      · have hle : word u = "le" := by
          refine Classical.byContradiction fun z => ?_
          rw [decide_eq_false z] at heq
          cases heq
        have hk : ∀ v ∈ kids u, IsF v := (hkids.resolve_right fun z => z.1 hle).2
        cases u with
        | lf _ _ => exact tu.elim
        | ov _ _ _ => exact tu.elim
        | nt _ => exact absurd hle (by show ("not" : Str) ≠ "le"; decide)
        | bi w1 t1 t2 =>
          obtain ⟨a, y1, y2, rfl, ha, g1, g2⟩ := k2.mono (t5.trans (Tu.ex e6))
          have p1 : (pcs t1).length ≤ 1000 := by
            have : (pcs (Td.bi w1 t1 t2)).length = 1 + ((pcs t1).length + (pcs t2).length) := by show (_ :: (pcs t1 ++ pcs t2)).length = _; rw [List.length_cons, List.length_append]; omega
            omega
          have p2 : (pcs t2).length ≤ 1000 := by
            have : (pcs (Td.bi w1 t1 t2)).length = 1 + ((pcs t1).length + (pcs t2).length) := by show (_ :: (pcs t1 ++ pcs t2)).length = _; rw [List.length_cons, List.length_append]; omega
            omega
          refine s_when (b := false) (et_or (a := false) (b := false) (et_not (a := true) (et_B (ev_call (ea_cons (ev_at1 (K := K) (ev_var rfl) ha) ea_nil) (spv_is_formula g1 p1 (hk t1 (by simp [kids])))))) fun _ => et_not (a := true) (et_B (ev_call (ea_cons (ev_at2 (K := K) (ev_var rfl) ha) ea_nil) (spv_is_formula g2 p2 (hk t2 (by simp [kids])))))) (fun z => by cases z) fun _ H7 e7 => ?_
          refine ⟨sizes ws', by omega, ws', ys', some (.ref a), rfl, ((x4.trans e5).trans e6).trans e7, e7 wa _ (e6 wa _ w5), k1.mono (t5.trans (Tu.ex (e6.trans e7))), rfl, by omega, fun v hv => hall v (List.mem_append.mpr (.inl hv))⟩
    · have hys0 : ys = [] := by cases ys with | nil => rfl | cons _ _ => cases hb
      subst hys0
      exact s_ret ev_c fun H4 e4 => k H4 ((e0.trans e3).trans e4)
theorem ok_need_saying {f f1 : Addr} {fd fd1 : FuncData} (F : Fun K "need_saying" "need_saying" s_need_saying f fd) (T : Txt P w K mg C SZ SY) (c_is_saying : Cal P w K mg base "is_saying" f1 fd1 ["value"] 4 sp_is_saying) : FnOk P w K mg base CX0 5 f fd ["value"] sp_need_saying := by
  refine F.ok sc_need_saying (fun vs H Q E h => ?_) (fun cdv A outer s H vs Q E hr h => ?_)
  · obtain ⟨x, t, rfl, _⟩ := h
    rfl
  · obtain ⟨x, t, rfl, ht, hz, hF, k⟩ := h
    refine ⟨_, (pss_one (ps_if (pt_not (pt_val (pe_call c_is_saying.ok (hr.mono (by decide)) (by rfl) c_is_saying.mgx c_is_saying.kp c_is_saying.bd .nil pass0 (pa_cons (pv 0) pa_nil)))) (pss_one ps_never) pss_nil)), ?_⟩
    exact s_when (b := false) (et_not (a := true) (et_B (ev_call (ea_cons (ev_var rfl) ea_nil) (spv_is_saying ht hz hF)))) (fun h => by cases h) fun _ H1 e => k H1 e
theorem ok_need_told {f f1 f2 : Addr} {fd fd1 fd2 : FuncData} (F : Fun K "need_told" "need_told" s_need_told f fd) (T : Txt P w K mg C SZ SY) (c_is_formula : Cal P w K mg base "is_formula" f1 fd1 ["value"] 3 sp_is_formula) (c_is_saying : Cal P w K mg base "is_saying" f2 fd2 ["value"] 4 sp_is_saying) : FnOk P w K mg base CX0 5 f fd ["value"] sp_need_told := by
  refine F.ok sc_need_told (fun vs H Q E h => ?_) (fun cdv A outer s H vs Q E hr h => ?_)
  · obtain ⟨x, t, rfl, _⟩ := h
    rfl
  · obtain ⟨x, t, rfl, ht, hz, hk, k⟩ := h
    refine ⟨_, (pss_one (ps_if (PW.pt (pw_and (pt_not (pt_val (pe_call c_is_formula.ok (hr.mono (by decide)) (by rfl) c_is_formula.mgx c_is_formula.kp c_is_formula.bd .nil pass0 (pa_cons (pv 0) pa_nil)))) (pw_and1 (pt_not (pt_val (pe_call c_is_saying.ok (hr.mono (by decide)) (by rfl) c_is_saying.mgx c_is_saying.kp c_is_saying.bd .nil pass0 (pa_cons (pv 0) pa_nil))))))) (pss_one ps_never) pss_nil)), ?_⟩
    rcases hk with hF | hS
    · exact s_when (b := false) (et_and (a := false) (b := false) (et_not (a := true) (et_B (ev_call (ea_cons (ev_var rfl) ea_nil) (spv_is_formula ht hz hF)))) fun z => by cases z) (fun h => by cases h) fun _ H1 e => k H1 e
    · exact s_when (b := false) (et_and (a := true) (b := false) (et_not (a := false) (et_B (ev_call (ea_cons (ev_var rfl) ea_nil) (spv_no_formula ht hz (isS_top hS).1)))) fun _ => et_not (a := true) (et_B (ev_call (ea_cons (ev_var rfl) ea_nil) (spv_is_saying ht hz hS)))) (fun h => by cases h) fun _ H1 e => k H1 e
theorem ok_pieces {f f1 f2 : Addr} {fd fd1 fd2 : FuncData} (F : Fun K "pieces" "pieces" s_pieces f fd) (T : Txt P w K mg C SZ SY) (c_need_told : Cal P w K mg base "need_told" f1 fd1 ["value"] 5 sp_need_told) (c_all_pieces : Cal P w K mg base "all_pieces" f2 fd2 ["told"] 2 sp_all_pieces) : FnOk P w K mg base CX0 6 f fd ["told"] sp_pieces := by
  refine F.ok sc_pieces (fun vs H Q E h => ?_) (fun cdv A outer s H vs Q E hr h => ?_)
  · obtain ⟨x, t, rfl, _⟩ := h
    rfl
  · obtain ⟨x, t, rfl, ht, hz, hk, k⟩ := h
    refine ⟨_, (pss_cons (ps_expr (pe_call c_need_told.ok (hr.mono (by decide)) (by rfl) c_need_told.mgx c_need_told.kp c_need_told.bd .nil pass0 (pa_cons (pv 0) pa_nil))) (pss_one (ps_ret (pe_callB (lenS (K := K) rfl) (by rfl) T.b_len (by decide +kernel) (pa_cons (pe_call c_all_pieces.ok (hr.mono (by decide)) (by rfl) c_all_pieces.mgx c_all_pieces.kp c_all_pieces.bd .nil pass0 (pa_cons (pv 0) pa_nil)) pa_nil))))), ?_⟩
    refine q_drop (ev_call (ea_cons (ev_var rfl) ea_nil) (spv_need_told ht hz hk)) fun H1 e1 => ?_
    exact s_ret (ev_lenLs (els_call (ea_cons (ev_var rfl) ea_nil) (spl_all_pieces (ht.mono (Tu.ex e1)) (told_ok hk) hz))) fun H2 e2 => k H2 (e1.trans e2)
theorem ok_names_of {f f1 f2 : Addr} {fd fd1 fd2 : FuncData} (F : Fun K "names_of" "names_of" s_names_of f fd) (T : Txt P w K mg C SZ SY) (c_need_told : Cal P w K mg base "need_told" f1 fd1 ["value"] 5 sp_need_told) (c_names_in : Cal P w K mg base "names_in" f2 fd2 ["told"] 3 sp_names_in) : FnOk P w K mg base CX0 6 f fd ["told"] sp_names_of := by
  refine F.ok sc_names_of (fun vs H Q E h => ?_) (fun cdv A outer s H vs Q E hr h => ?_)
  · obtain ⟨x, t, rfl, _⟩ := h
    rfl
  · obtain ⟨x, t, rfl, ht, hz, hk, k⟩ := h
    refine ⟨_, (pss_cons (ps_expr (pe_call c_need_told.ok (hr.mono (by decide)) (by rfl) c_need_told.mgx c_need_told.kp c_need_told.bd .nil pass0 (pa_cons (pv 0) pa_nil))) (pss_one (ps_ret (pe_call c_names_in.ok (hr.mono (by decide)) (by rfl) c_names_in.mgx c_names_in.kp c_names_in.bd .nil pass0 (pa_cons (pv 0) pa_nil))))), ?_⟩
    refine q_drop (ev_call (ea_cons (ev_var rfl) ea_nil) (spv_need_told ht (by omega) hk)) fun H1 e1 => ?_
    exact s_retL (el_call (ea_cons (ev_var rfl) ea_nil) (spl_names_in (ht.mono (Tu.ex e1)) (told_ok hk) (told_nice hk) hz)) fun p H2 hp e2 h2 => k p H2 (fresh_back e1 hp) (e1.trans e2) h2
theorem ok_rules_of {f f1 f2 : Addr} {fd fd1 fd2 : FuncData} (F : Fun K "rules_of" "rules_of" s_rules_of f fd) (T : Txt P w K mg C SZ SY) (c_need_told : Cal P w K mg base "need_told" f1 fd1 ["value"] 5 sp_need_told) (c_rules_in : Cal P w K mg base "rules_in" f2 fd2 ["told"] 3 sp_rules_in) : FnOk P w K mg base CX0 6 f fd ["told"] sp_rules_of := by
  refine F.ok sc_rules_of (fun vs H Q E h => ?_) (fun cdv A outer s H vs Q E hr h => ?_)
  · obtain ⟨x, t, rfl, _⟩ := h
    rfl
  · obtain ⟨x, t, rfl, ht, hz, hk, k⟩ := h
    refine ⟨_, (pss_cons (ps_expr (pe_call c_need_told.ok (hr.mono (by decide)) (by rfl) c_need_told.mgx c_need_told.kp c_need_told.bd .nil pass0 (pa_cons (pv 0) pa_nil))) (pss_one (ps_ret (pe_call c_rules_in.ok (hr.mono (by decide)) (by rfl) c_rules_in.mgx c_rules_in.kp c_rules_in.bd .nil pass0 (pa_cons (pv 0) pa_nil))))), ?_⟩
    refine q_drop (ev_call (ea_cons (ev_var rfl) ea_nil) (spv_need_told ht (by omega) hk)) fun H1 e1 => ?_
    exact s_retL (el_call (ea_cons (ev_var rfl) ea_nil) (spl_rules_in (ht.mono (Tu.ex e1)) (told_ok hk) (told_nice hk) hz)) fun p H2 hp e2 h2 => k p H2 (fresh_back e1 hp) (e1.trans e2) h2
end
end K22
end
section
set_option maxHeartbeats 4000000
namespace K22
open PySem L2 Evl G TM TD
/-! ### dicts of days, worlds -/
def kS (x : Str) : Key := Sum.inr x
/-- the thing of a key in a list of pairs -/
def look {α : Type} (ds : List (Str × α)) (x : Str) : Option α := (ds.find? fun p => decide (p.1 = x)).map (·.2)
def keyed {α : Type} (g : α → V) (ds : List (Str × α)) : List (Key × V) := ds.map fun p => (kS p.1, g p.2)
theorem valV_keyed {α : Type} (g : α → V) (x : Str) : ∀ ds : List (Str × α), valV (keyed g ds) (kS x) = (look ds x).map g
  | [] => rfl
  | p :: ds => by
    unfold keyed look
    rw [List.map_cons, List.find?_cons]
    by_cases h : p.1 = x
    · rw [valV_pos (by rw [h])]
      simp [h]
    · rw [valV_neg (fun z => h (Sum.inr.inj z)), decide_eq_false h]
      exact valV_keyed g x ds
theorem look_some {α : Type} {ds : List (Str × α)} {x : Str} (h : x ∈ ds.map (·.1)) : ∃ v, look ds x = some v ∧ (x, v) ∈ ds := by
  obtain ⟨p, hp, e⟩ := List.mem_map.mp h
  unfold look
  cases hf : ds.find? (fun p => decide (p.1 = x)) with
  | none => exact absurd (List.find?_eq_none.mp hf p hp) (by simp [e])
  | some q =>
    have h1 := List.find?_some hf
    have h2 := List.mem_of_find?_eq_some hf
    have h3 : q.1 = x := of_decide_eq_true h1
    exact ⟨q.2, rfl, by rw [← h3]; exact h2⟩
/-- a dict of days -/
abbrev Ds := List (Str × Int)
def DaysAt (H : Hp) (d : Addr) (ds : Ds) : Prop := H d = some (.dK (keyed V.int ds)) ∧ (∀ p ∈ ds, p.1 ∈ nameL) ∧ ds.length ≤ 1000
theorem DaysAt.mono {H H' : Hp} {d : Addr} {ds : Ds} (e : Ex H H') (h : DaysAt H d ds) : DaysAt H' d ds := ⟨e d _ h.1, h.2⟩
noncomputable def dnOf (ds : Ds) (x : Str) : Int := (look ds x).getD 0
def Tab (K : PySem.W.Frag) (C : Addr) (H : Hp) (p : Addr) (ns : List Int) : Prop := ∃ dx l, H p = some (.ins C dx [("_days", .ref l)]) ∧ SqL K H l (ns.map V.int)
theorem Tab.mono {K : PySem.W.Frag} {C p : Addr} {H H' : Hp} {ns : List Int} (e : Ex H H') (h : Tab K C H p ns) : Tab K C H' p ns := let ⟨dx, l, h1, h2⟩ := h; ⟨dx, l, e p _ h1, ex_l e h2⟩
/-- a world: its rules, each one's Table and list -/
abbrev Ws := List (Str × (Addr × List Int))
def wV (q : Addr × List Int) : V := .ref q.1
def WorldAt (K : PySem.W.Frag) (C : Addr) (H : Hp) (d : Addr) (ws : Ws) : Prop := H d = some (.dK (keyed wV ws)) ∧ (∀ p ∈ ws, p.1 ∈ ruleL ∧ Good p.2.2 ∧ Tab K C H p.2.1 p.2.2) ∧ ws.length ≤ 1000
theorem WorldAt.mono {K : PySem.W.Frag} {C : Addr} {H H' : Hp} {d : Addr} {ws : Ws} (e : Ex H H') (h : WorldAt K C H d ws) : WorldAt K C H' d ws := ⟨e d _ h.1, fun p hp => let ⟨a, b, c⟩ := h.2.1 p hp; ⟨a, b, c.mono e⟩, h.2.2⟩
noncomputable def wdOf (ws : Ws) (x : Str) : List Int := ((look ws x).map (·.2)).getD [0]
def sp_need_few_pieces : Sp := fun vs H Q _ => ∃ a xs ts, vs = [.ref a] ∧ H a = some (.lst xs) ∧ Ats H xs ts ∧ (∀ t ∈ ts, OkD t ∧ (pcs t).length ≤ 1000) ∧ ts.length ≤ 1000 ∧ (ts.map fun t => ((pcs t).length : Int)).sum ≤ 60 ∧ RetV .non H Q
def sp_need_rules : Sp := fun vs H Q _ => ∃ x t d kvs, vs = [x, .ref d] ∧ At H x t ∧ OkD t ∧ NiceD t ∧ (pcs t).length ≤ 63 ∧ H d = some (.dK kvs) ∧ (∀ r ∈ rlsOf t, (valV kvs (kS r)).isSome = true) ∧ RetV .non H Q
def sp_need_names : Sp := fun vs H Q _ => ∃ x t d kvs, vs = [x, .ref d] ∧ At H x t ∧ OkD t ∧ NiceD t ∧ (pcs t).length ≤ 63 ∧ H d = some (.dK kvs) ∧ (∀ r ∈ nmsOf t, (valV kvs (kS r)).isSome = true) ∧ RetV .non H Q
def sp_need_known : Sp := fun vs H Q _ => ∃ x t d kvs d' kvs', vs = [x, .ref d, .ref d'] ∧ At H x t ∧ OkD t ∧ NiceD t ∧ (pcs t).length ≤ 60 ∧ H d = some (.dK kvs) ∧ (∀ r ∈ nmsOf t, (valV kvs (kS r)).isSome = true) ∧ H d' = some (.dK kvs') ∧ (∀ r ∈ rlsOf t, (valV kvs' (kS r)).isSome = true) ∧ RetV .non H Q
def sp_is_days : Sp := fun vs H Q _ => ∃ d ds, vs = [.ref d] ∧ DaysAt H d ds ∧ RetV (.bl true) H Q
def sp_need_days : Sp := fun vs H Q _ => ∃ d ds, vs = [.ref d] ∧ DaysAt H d ds ∧ RetV .non H Q
def sp_is_world (K : PySem.W.Frag) (C : Addr) : Sp := fun vs H Q _ => ∃ d ws, vs = [.ref d] ∧ WorldAt K C H d ws ∧ RetV (.bl true) H Q
def sp_need_world (K : PySem.W.Frag) (C : Addr) : Sp := fun vs H Q _ => ∃ d ws, vs = [.ref d] ∧ WorldAt K C H d ws ∧ RetV .non H Q
theorem spv_is_days {d : Addr} {ds : Ds} {H : Hp} (h : DaysAt H d ds) : SpV sp_is_days ([.ref d] ++ []) H (.bl true) := fun H1 e Q q E => ⟨d, ds, rfl, h.mono e, q⟩
theorem spv_need_days {d : Addr} {ds : Ds} {H : Hp} (h : DaysAt H d ds) : SpV sp_need_days ([.ref d] ++ []) H .non := fun H1 e Q q E => ⟨d, ds, rfl, h.mono e, q⟩
theorem spv_is_world {K : PySem.W.Frag} {C : Addr} {d : Addr} {ws : Ws} {H : Hp} (h : WorldAt K C H d ws) : SpV (sp_is_world K C) ([.ref d] ++ []) H (.bl true) := fun H1 e Q q E => ⟨d, ws, rfl, h.mono e, q⟩
theorem spv_need_world {K : PySem.W.Frag} {C : Addr} {d : Addr} {ws : Ws} {H : Hp} (h : WorldAt K C H d ws) : SpV (sp_need_world K C) ([.ref d] ++ []) H .non := fun H1 e Q q E => ⟨d, ws, rfl, h.mono e, q⟩
theorem spv_need_rules {x : V} {t : Td} {d : Addr} {kvs : List (Key × V)} {H : Hp} (h : At H x t) (o : OkD t) (n : NiceD t) (z : (pcs t).length ≤ 63) (hd : H d = some (.dK kvs)) (hr : ∀ r ∈ rlsOf t, (valV kvs (kS r)).isSome = true) : SpV sp_need_rules ([x, .ref d] ++ []) H .non := fun H1 e Q q E => ⟨x, t, d, kvs, rfl, h.mono (Tu.ex e), o, n, z, e d _ hd, hr, q⟩
theorem spv_need_names {x : V} {t : Td} {d : Addr} {kvs : List (Key × V)} {H : Hp} (h : At H x t) (o : OkD t) (n : NiceD t) (z : (pcs t).length ≤ 63) (hd : H d = some (.dK kvs)) (hr : ∀ r ∈ nmsOf t, (valV kvs (kS r)).isSome = true) : SpV sp_need_names ([x, .ref d] ++ []) H .non := fun H1 e Q q E => ⟨x, t, d, kvs, rfl, h.mono (Tu.ex e), o, n, z, e d _ hd, hr, q⟩
theorem spv_need_known {x : V} {t : Td} {d d' : Addr} {kvs kvs' : List (Key × V)} {H : Hp} (h : At H x t) (o : OkD t) (n : NiceD t) (z : (pcs t).length ≤ 60) (hd : H d = some (.dK kvs)) (hr : ∀ r ∈ nmsOf t, (valV kvs (kS r)).isSome = true) (hd' : H d' = some (.dK kvs')) (hr' : ∀ r ∈ rlsOf t, (valV kvs' (kS r)).isSome = true) :
    SpV sp_need_known ([x, .ref d, .ref d'] ++ []) H .non := fun H1 e Q q E => ⟨x, t, d, kvs, d', kvs', rfl, h.mono (Tu.ex e), o, n, z, e d _ hd, hr, e d' _ hd', hr', q⟩
theorem all_replicate {α : Type} (l : List α) : (l.map fun _ => V.bl true) = (List.replicate l.length true).map V.bl := by
  rw [List.map_replicate]
  induction l with
  | nil => rfl
  | cons _ l ih => rw [List.map_cons, List.length_cons, List.replicate_succ, ih]
section
variable {P : Program} {w : World} {K : PySem.W.Frag} {mg : Str → Option Value} {base : Heap} {C SZ SY : Addr}
theorem ev_allYes {σ : L2.St} {H : Hp} {te : TE} {α : Type} {l : List α} (h : EvL te σ H (l.map fun _ => V.bl true)) : Ev (tCB (rAll K) (tCons te tNil)) σ H (.bl true) := ev_cbL h fun p H1 e h1 => by
  have := rc_all (K := K) (H := H1) (p := p) (bs := List.replicate l.length true) (sq_of (by rw [← all_replicate]; exact h1))
  have e2 : (List.replicate l.length true).all id = true := by simp
  rw [e2] at this
  exact this
theorem ok_is_days {f f1 f2 : Addr} {fd fd1 fd2 : FuncData} (F : Fun K "is_days" "is_days" s_is_days f fd) (T : Txt P w K mg C SZ SY) (c_is_name : Cal P w K mg base "is_name" f1 fd1 ["value"] 1 (sp_letter nameL)) (c_is_day : Cal P w K mg base "is_day" f2 fd2 ["value"] 1 sp_is_day) : FnOk P w K mg base CX0 2 f fd ["value"] sp_is_days := by
  refine F.ok sc_is_days (fun vs H Q E h => ?_) (fun cdv A outer s H vs Q E hr h => ?_)
  · obtain ⟨d, ds, rfl, _⟩ := h
    rfl
  · obtain ⟨d, ds, rfl, ⟨hd, hn, hz⟩, k⟩ := h
    refine ⟨_, (pss_one (ps_ret (pe_and (pe_callB (isiS (K := K) rfl) (by rfl) T.b_isinstance (by decide +kernel) (pa_cons (pv 0) (pa_cons (pe_bltn (v := .ty "dict") (u := .type "dict") (by rfl) T.b_dict (by decide +kernel) rfl) pa_nil))) (pe_one (pe_callB (allL (K := K) rfl rfl) (by rfl) T.b_all (by decide +kernel) (pa_cons (pe_lock (pe_lc (own := [("name", 1), ("day", 2)]) (g := (gTup K 2 (gCons (gName 1) (gCons (gName 2) gNil)))) (by rfl) sc_is_days.nd (pi_items (pv 0)) (blkOk_by (own := [("name", 1), ("day", 2)]) (N := ["value", "name", "day"]) (sc := defScope s_is_days) (by decide +kernel)) (fun _ _ _ _ _ => (pg_tup (by rfl) (pgs_cons (pg_name (i := 1) sc_is_days.nd rfl (Or.inl rfl)) (pgs_cons (pg_name (i := 2) sc_is_days.nd rfl (Or.inl rfl)) pgs_nil)))) (fun _ _ _ _ _ => pts_nil) (fun _ _ _ _ _ => (pe_and (pe_call c_is_name.ok (hr.mono (by decide)) (by rfl) c_is_name.mgx c_is_name.kp c_is_name.bd .nil pass0 (pa_cons (pv 1) pa_nil)) (pe_one (pe_call c_is_day.ok (hr.mono (by decide)) (by rfl) c_is_day.mgx c_is_day.kp c_is_day.bd .nil pass0 (pa_cons (pv 2) pa_nil))))))) pa_nil)))))), ?_⟩
    refine s_ret (ev_andV (a := true) (b := true) (ev_isiB (b := true) (ev_var rfl) (fun H1 e => .base (.dK (e d _ hd))) (by decide +kernel)) fun _ => ev_allYes (K := K) (el_lcItems (K := K) (i := 1) (j := 2) (vs := [1, 2]) (fun _ => V.bl true) (fun H1 => ev_var rfl) hd (by unfold keyed; rw [List.length_map]; omega) (fun _ _ => rfl) fun k v H1 off hkv => ?_)) fun H1 e => k H1 e
    obtain ⟨p, hp, e⟩ := List.mem_map.mp hkv
    cases e
    exact ev_andV (a := true) (b := true) (ev_call (ea_cons (ev_var (i := 1) rfl) ea_nil) (spv_letter (hn p hp))) fun _ => ev_call (ea_cons (ev_var (i := 2) rfl) ea_nil) spv_is_day
theorem ok_need_days {f f1 : Addr} {fd fd1 : FuncData} (F : Fun K "need_days" "need_days" s_need_days f fd) (T : Txt P w K mg C SZ SY) (c_is_days : Cal P w K mg base "is_days" f1 fd1 ["value"] 2 sp_is_days) : FnOk P w K mg base CX0 3 f fd ["value"] sp_need_days := by
  refine F.ok sc_need_days (fun vs H Q E h => ?_) (fun cdv A outer s H vs Q E hr h => ?_)
  · obtain ⟨d, ds, rfl, _⟩ := h
    rfl
  · obtain ⟨d, ds, rfl, hd, k⟩ := h
    refine ⟨_, (pss_one (ps_if (pt_not (pt_val (pe_call c_is_days.ok (hr.mono (by decide)) (by rfl) c_is_days.mgx c_is_days.kp c_is_days.bd .nil pass0 (pa_cons (pv 0) pa_nil)))) (pss_one ps_never) pss_nil)), ?_⟩
    exact s_when (b := false) (et_not (a := true) (et_B (ev_call (ea_cons (ev_var rfl) ea_nil) (spv_is_days hd)))) (fun h => by cases h) fun _ H1 e => k H1 e
theorem ok_is_world {f f1 : Addr} {fd fd1 : FuncData} (F : Fun K "is_world" "is_world" s_is_world f fd) (T : Txt P w K mg C SZ SY) (c_is_rule : Cal P w K mg base "is_rule" f1 fd1 ["value"] 1 (sp_letter ruleL)) : FnOk P w K mg base CX0 2 f fd ["value"] (sp_is_world K C) := by
  refine F.ok sc_is_world (fun vs H Q E h => ?_) (fun cdv A outer s H vs Q E hr h => ?_)
  · obtain ⟨d, ds, rfl, _⟩ := h
    rfl
  · obtain ⟨d, ws, rfl, ⟨hd, hn, hz⟩, k⟩ := h
    refine ⟨_, (pss_one (ps_ret (pe_and (pe_callB (isiS (K := K) rfl) (by rfl) T.b_isinstance (by decide +kernel) (pa_cons (pv 0) (pa_cons (pe_bltn (v := .ty "dict") (u := .type "dict") (by rfl) T.b_dict (by decide +kernel) rfl) pa_nil))) (pe_one (pe_callB (allL (K := K) rfl rfl) (by rfl) T.b_all (by decide +kernel) (pa_cons (pe_lock (pe_lc (own := [("rule", 1), ("table", 2)]) (g := (gTup K 2 (gCons (gName 1) (gCons (gName 2) gNil)))) (by rfl) sc_is_world.nd (pi_items (pv 0)) (blkOk_by (own := [("rule", 1), ("table", 2)]) (N := ["value", "rule", "table"]) (sc := defScope s_is_world) (by decide +kernel)) (fun _ _ _ _ _ => (pg_tup (by rfl) (pgs_cons (pg_name (i := 1) sc_is_world.nd rfl (Or.inl rfl)) (pgs_cons (pg_name (i := 2) sc_is_world.nd rfl (Or.inl rfl)) pgs_nil)))) (fun _ _ _ _ _ => pts_nil) (fun _ _ _ _ _ => (pe_and (pe_call c_is_rule.ok (hr.mono (by decide)) (by rfl) c_is_rule.mgx c_is_rule.kp c_is_rule.bd .nil pass0 (pa_cons (pv 1) pa_nil)) (pe_one (pe_callB (isiS (K := K) rfl) (by rfl) T.b_isinstance (by decide +kernel) (pa_cons (pv 2) (pa_cons (pe_glob (v := .ref C) rfl T.mg_Table rfl) pa_nil)))))))) pa_nil)))))), ?_⟩
    refine s_ret (ev_andV (a := true) (b := true) (ev_isiB (b := true) (ev_var rfl) (fun H1 e => .base (.dK (e d _ hd))) (by decide +kernel)) fun _ => ev_allYes (K := K) (el_lcItems (K := K) (i := 1) (j := 2) (vs := [1, 2]) (fun _ => V.bl true) (fun H1 => ev_var rfl) hd (by unfold keyed; rw [List.length_map]; omega) (fun _ _ => rfl) fun k v H1 off hkv => ?_)) fun H1 e => k H1 e
    obtain ⟨p, hp, e⟩ := List.mem_map.mp hkv
    cases e
    obtain ⟨hr1, hg, dx, l, hp1, _⟩ := hn p hp
    refine ev_andV (a := true) (b := true) (ev_call (ea_cons (ev_var (i := 1) rfl) ea_nil) (spv_letter hr1)) fun _ => ?_
    have hpd : p.2.1 ≠ d := fun z => by rw [z, hd] at hp1; cases hp1
    exact ev_cb (ea_cons (ev_var (i := 2) rfl) (ea_cons ev_c ea_nil)) (rc_isi (.own C) (fun H2 e2 => .base (T.tyC H2 p.2.1 dx _ (e2 _ _ (off _ _ hpd hp1)))) (by unfold PySem.W.kitOne; rw [if_pos (by simp)]))
theorem ok_need_world {f f1 : Addr} {fd fd1 : FuncData} (F : Fun K "need_world" "need_world" s_need_world f fd) (T : Txt P w K mg C SZ SY) (c_is_world : Cal P w K mg base "is_world" f1 fd1 ["value"] 2 (sp_is_world K C)) : FnOk P w K mg base CX0 3 f fd ["value"] (sp_need_world K C) := by
  refine F.ok sc_need_world (fun vs H Q E h => ?_) (fun cdv A outer s H vs Q E hr h => ?_)
  · obtain ⟨d, ds, rfl, _⟩ := h
    rfl
  · obtain ⟨d, ds, rfl, hd, k⟩ := h
    refine ⟨_, (pss_one (ps_if (pt_not (pt_val (pe_call c_is_world.ok (hr.mono (by decide)) (by rfl) c_is_world.mgx c_is_world.kp c_is_world.bd .nil pass0 (pa_cons (pv 0) pa_nil)))) (pss_one ps_never) pss_nil)), ?_⟩
    exact s_when (b := false) (et_not (a := true) (et_B (ev_call (ea_cons (ev_var rfl) ea_nil) (spv_is_world hd)))) (fun h => by cases h) fun _ H1 e => k H1 e
end
end K22
end
section
set_option maxHeartbeats 4000000
namespace K22
open PySem L2 Evl G TM TD
theorem spv_few {a : Addr} {xs : List V} {ts : List Td} {H : Hp} (ha : H a = some (.lst xs)) (k : Ats H xs ts) (o : ∀ t ∈ ts, OkD t ∧ (pcs t).length ≤ 1000) (z : ts.length ≤ 1000) (hs : (ts.map fun t => ((pcs t).length : Int)).sum ≤ 60) :
    SpV sp_need_few_pieces ([.ref a] ++ []) H .non := fun H1 e Q q E => ⟨a, xs, ts, rfl, e a _ ha, k.mono (Tu.ex e), o, z, hs, q⟩
theorem isSome_nrm {kvs : List (Key × V)} {ks : List Str} (h : ∀ r ∈ ks, (valV kvs (kS r)).isSome = true) {x : V} {i : Nat} (hx : ((nrm ks).map V.str)[i]? = some x) : ∃ r, x = .str r ∧ (valV kvs (kS r)).isSome = true := by
  rw [List.getElem?_map] at hx
  obtain ⟨r, hr, rfl⟩ := Option.map_eq_some_iff.mp hx
  refine ⟨r, rfl, h r ?_⟩
  have hm := List.mem_of_getElem? hr
  by_cases hN : ∃ ys, IsNrm ks ys
  · obtain ⟨ys, hy⟩ := hN
    rw [nrm_eq hy] at hm
    exact (hy.2.2 r).mp hm
  · unfold nrm at hm
    rw [dif_neg hN] at hm
    cases hm
theorem ev_callLs {sp : Sp} {dvs : List V} {E : XK} {te : TE} {σ : L2.St} {H : Hp} {ts : List Td} {z : V} (h : EvLs te σ H ts) (hs : ∀ p ys H1, Ex H H1 → H1 p = some (.lst ys) → Ats H1 ys ts → SpV sp ([.ref p] ++ dvs) H1 z) : Ev (tCall sp dvs E (tCons te tNil)) σ H z := fun H1 e Q q =>
  h H1 e _ fun p ys H2 hp e2 h2 k => hs p ys H2 (e.trans e2) h2 k H2 (Ex.refl _) Q (fun H3 e3 => q H3 (e2.trans e3)) _
section
variable {P : Program} {w : World} {K : PySem.W.Frag} {mg : Str → Option Value} {base : Heap} {C SZ SY : Addr}
theorem ok_need_few_pieces {f f1 : Addr} {fd fd1 : FuncData} (F : Fun K "need_few_pieces" "need_few_pieces" s_need_few_pieces f fd) (T : Txt P w K mg C SZ SY) (c_all_pieces : Cal P w K mg base "all_pieces" f1 fd1 ["told"] 2 sp_all_pieces) : FnOk P w K mg base CX0 3 f fd ["tolds"] sp_need_few_pieces := by
  refine F.ok sc_need_few_pieces (fun vs H Q E h => ?_) (fun cdv A outer s H vs Q E hr h => ?_)
  · obtain ⟨a, xs, ts, rfl, _⟩ := h
    rfl
  · obtain ⟨a, xs, ts, rfl, ha, hk, ho, hz, hs, k⟩ := h
    refine ⟨_, (pss_one (ps_if (pt_cmpR op_gt (pe_callB (sumL (K := K) rfl rfl) (by rfl) T.b_sum (by decide +kernel) (pa_cons (pe_lc (own := [("told", 1)]) (g := (gName 1)) (by rfl) sc_need_few_pieces.nd (piL (K := K) rfl (pv 0)) (blkOk_by (own := [("told", 1)]) (N := ["tolds", "told"]) (sc := defScope s_need_few_pieces) (by decide +kernel)) (fun _ _ _ _ _ => (pg_name (i := 1) sc_need_few_pieces.nd rfl (Or.inl rfl))) (fun _ _ _ _ _ => pts_nil) (fun _ _ _ _ _ => (pe_callB (lenS (K := K) rfl) (by rfl) T.b_len (by decide +kernel) (pa_cons (pe_call c_all_pieces.ok (hr.mono (by decide)) (by rfl) c_all_pieces.mgx c_all_pieces.kp c_all_pieces.bd .nil pass0 (pa_cons (pv 1) pa_nil)) pa_nil)))) pa_nil)) (pe_glob (v := .int 60) rfl T.mg_MOST_PIECES.choose_spec ⟨_, rfl⟩) (nomark _)) (pss_one ps_never) pss_nil)), ?_⟩
    have eqn : (ts.filter fun _ => true).map (fun t => V.int ((pcs t).length : Int)) = (ts.map fun t => ((pcs t).length : Int)).map V.int := by
      rw [filter_yes, List.map_map] <;> rfl
    refine s_when (b := decide (((ts.map fun t => ((pcs t).length : Int)).sum : Int) > 60)) (et_test (ev_op (ev_cbL (el_eq (el_lcLv (K := K) (j := 1) (vs := [1]) (fun _ => true) (fun t => V.int ((pcs t).length : Int)) (ev_var rfl) ha hk (by omega) (fun _ => rfl) (fun _ _ _ _ _ _ => lc_yes) (fun y u H1 e1 hy hu _ => ev_lenLs (els_call (ea_cons (ev_var (i := 1) rfl) ea_nil) (spl_all_pieces hy (ho u hu).1 (ho u hu).2)))) eqn) fun p H1 e h1 => rc_sum (sq_of h1)) ev_c rv_I0)) (fun z => ?_) fun _ H1 e => k H1 e
    exact absurd (of_decide_eq_true z) (by omega)
theorem ok_need_rules {f f1 : Addr} {fd fd1 : FuncData} (F : Fun K "need_rules" "need_rules" s_need_rules f fd) (T : Txt P w K mg C SZ SY) (c_rules_in : Cal P w K mg base "rules_in" f1 fd1 ["told"] 3 sp_rules_in) : FnOk P w K mg base CX0 4 f fd ["told", "world"] sp_need_rules := by
  refine F.ok sc_need_rules (fun vs H Q E h => ?_) (fun cdv A outer s H vs Q E hr h => ?_)
  · obtain ⟨x, t, d, kvs, rfl, _⟩ := h
    rfl
  · obtain ⟨x, t, d, kvs, rfl, ht, ok, nc, hz, hd, hin, k⟩ := h
    refine ⟨_, (pss_one (ps_for PassesOwn.never rfl (piL (K := K) rfl (pe_call c_rules_in.ok (hr.mono (by decide)) (by rfl) c_rules_in.mgx c_rules_in.kp c_rules_in.bd .nil pass0 (pa_cons (pv 0) pa_nil))) (pg_name (i := 2) sc_need_rules.nd rfl (Or.inl rfl)) (pss_one (ps_if (pt_cmp (pc_dniR hr.units (pv 2) (pv 1))) (pss_one ps_never) pss_nil)))), ?_⟩
    refine s_forNL (el_call (ea_cons (ev_var rfl) ea_nil) (spl_rules_in ht ok nc hz)) (fun p i σ' H' => ∃ y0, σ' = [some x, some (.ref d), y0] ∧ Ex H H' ∧ H' p = some (.lst ((nrm (rlsOf t)).map V.str))) (fun p H1 hp e h1 => ⟨none, rfl, e, h1⟩) (fun p i σ' H' _ h => by obtain ⟨_, _, _, h1⟩ := h; exact sq_of h1) (fun p i y σ' H' hi h => ?_) (fun p σ' H' h => ?_)
    · obtain ⟨y0, rfl, e, h1⟩ := h
      obtain ⟨r, rfl, hr1⟩ := isSome_nrm hin hi
      refine s_when (b := false) (et_is (et_B (ev_dni (k := kS r) (ev_var (i := 2) rfl) (ev_var rfl) (e d _ hd))) (by rw [hr1] <;> rfl)) (fun z => by cases z) fun _ H2 e2 => ⟨some (.str r), rfl, e.trans e2, e2 p _ h1⟩
    · obtain ⟨_, _, e, _⟩ := h
      exact k H' e
theorem ok_need_names {f f1 : Addr} {fd fd1 : FuncData} (F : Fun K "need_names" "need_names" s_need_names f fd) (T : Txt P w K mg C SZ SY) (c_names_in : Cal P w K mg base "names_in" f1 fd1 ["told"] 3 sp_names_in) : FnOk P w K mg base CX0 4 f fd ["told", "days"] sp_need_names := by
  refine F.ok sc_need_names (fun vs H Q E h => ?_) (fun cdv A outer s H vs Q E hr h => ?_)
  · obtain ⟨x, t, d, kvs, rfl, _⟩ := h
    rfl
  · obtain ⟨x, t, d, kvs, rfl, ht, ok, nc, hz, hd, hin, k⟩ := h
    refine ⟨_, (pss_one (ps_for PassesOwn.never rfl (piL (K := K) rfl (pe_call c_names_in.ok (hr.mono (by decide)) (by rfl) c_names_in.mgx c_names_in.kp c_names_in.bd .nil pass0 (pa_cons (pv 0) pa_nil))) (pg_name (i := 2) sc_need_names.nd rfl (Or.inl rfl)) (pss_one (ps_if (pt_cmp (pc_dniR hr.units (pv 2) (pv 1))) (pss_one ps_never) pss_nil)))), ?_⟩
    refine s_forNL (el_call (ea_cons (ev_var rfl) ea_nil) (spl_names_in ht ok nc hz)) (fun p i σ' H' => ∃ y0, σ' = [some x, some (.ref d), y0] ∧ Ex H H' ∧ H' p = some (.lst ((nrm (nmsOf t)).map V.str))) (fun p H1 hp e h1 => ⟨none, rfl, e, h1⟩) (fun p i σ' H' _ h => by obtain ⟨_, _, _, h1⟩ := h; exact sq_of h1) (fun p i y σ' H' hi h => ?_) (fun p σ' H' h => ?_)
    · obtain ⟨y0, rfl, e, h1⟩ := h
      obtain ⟨r, rfl, hr1⟩ := isSome_nrm hin hi
      refine s_when (b := false) (et_is (et_B (ev_dni (k := kS r) (ev_var (i := 2) rfl) (ev_var rfl) (e d _ hd))) (by rw [hr1] <;> rfl)) (fun z => by cases z) fun _ H2 e2 => ⟨some (.str r), rfl, e.trans e2, e2 p _ h1⟩
    · obtain ⟨_, _, e, _⟩ := h
      exact k H' e
theorem ok_need_known {f f1 f2 f3 : Addr} {fd fd1 fd2 fd3 : FuncData} (F : Fun K "need_known" "need_known" s_need_known f fd) (T : Txt P w K mg C SZ SY) (c_need_rules : Cal P w K mg base "need_rules" f1 fd1 ["told", "world"] 4 sp_need_rules) (c_need_names : Cal P w K mg base "need_names" f2 fd2 ["told", "days"] 4 sp_need_names) (c_need_few_pieces : Cal P w K mg base "need_few_pieces" f3 fd3 ["tolds"] 3 sp_need_few_pieces) : FnOk P w K mg base CX0 5 f fd ["told", "days", "world"] sp_need_known := by
  refine F.ok sc_need_known (fun vs H Q E h => ?_) (fun cdv A outer s H vs Q E hr h => ?_)
  · obtain ⟨x, t, d, kvs, d', kvs', rfl, _⟩ := h
    rfl
  · obtain ⟨x, t, d, kvs, d', kvs', rfl, ht, ok, nc, hz, hd, hn, hd', hr', k⟩ := h
    refine ⟨_, (pss_cons (ps_expr (pe_call c_need_rules.ok (hr.mono (by decide)) (by rfl) c_need_rules.mgx c_need_rules.kp c_need_rules.bd .nil pass0 (pa_cons (pv 0) (pa_cons (pv 2) pa_nil)))) (pss_cons (ps_expr (pe_call c_need_names.ok (hr.mono (by decide)) (by rfl) c_need_names.mgx c_need_names.kp c_need_names.bd .nil pass0 (pa_cons (pv 0) (pa_cons (pv 1) pa_nil)))) (pss_one (ps_expr (pe_call c_need_few_pieces.ok (hr.mono (by decide)) (by rfl) c_need_few_pieces.mgx c_need_few_pieces.kp c_need_few_pieces.bd .nil pass0 (pa_cons (pe_lst (pa_cons (pv 0) pa_nil)) pa_nil)))))), ?_⟩
    refine q_drop (ev_call (ea_cons (ev_var rfl) (ea_cons (ev_var rfl) ea_nil)) (spv_need_rules ht ok nc (by omega) hd' hr')) fun H1 e1 => ?_
    refine q_drop (ev_call (ea_cons (ev_var rfl) (ea_cons (ev_var rfl) ea_nil)) (spv_need_names (ht.mono (Tu.ex e1)) ok nc (by omega) (e1 d _ hd) hn)) fun H2 e2 => ?_
    have h2 : At H2 x t := ht.mono (Tu.ex (e1.trans e2))
    exact s_drop (ev_callLs (els_one (etd_ref (ev_var rfl) h2)) fun p ys H4 e4 h4 k4 => spv_few h4 k4 (fun u hu => by cases List.mem_singleton.mp hu; exact ⟨ok, by omega⟩) (by show 1 ≤ 1000; decide) (by show ((pcs t).length : Int) + 0 ≤ 60; omega)) fun H3 e3 => k H3 ((e1.trans e2).trans e3)
end
end K22
end
section
set_option maxHeartbeats 4000000
namespace K22
open PySem L2 Evl G TM TD
structure CalG (P : Program) (w : World) (K : PySem.W.Frag) (mg : Str → Option Value) (base : Heap) (x : Str) (f : Addr) (fd : FuncData) (ps : List Str) (k : Nat) (sp : Sp) : Prop where
  ok : FnG P w K mg base CX0 k f fd ps sp
  mgx : mg x = some (.ref f)
  kp : PySem.W.keepIn K (.ref f) = true
  bd : Binds K fd ps []
structure Met (P : Program) (w : World) (K : PySem.W.Frag) (mg : Str → Option Value) (base : Heap) (C : Addr) (m : Str) (f : Addr) (fd : FuncData) (ps : List Str) (k : Nat) (sp : Sp) : Prop where
  ok : FnOk P w K mg base CX0 k f fd ps sp
  me : Meth K C m f
  bd : Binds K fd ps []
structure Prp (P : Program) (w : World) (K : PySem.W.Frag) (mg : Str → Option Value) (base : Heap) (C : Addr) (m : Str) (p f : Addr) (fd : FuncData) (ps : List Str) (k : Nat) (sp : Sp) : Prop where
  ok : FnOk P w K mg base CX0 k f fd ps sp
  pr : PropOf K C m p f
  bd : Binds K fd ps []
structure MetG (P : Program) (w : World) (K : PySem.W.Frag) (mg : Str → Option Value) (base : Heap) (C : Addr) (m : Str) (f : Addr) (fd : FuncData) (ps : List Str) (k : Nat) (sp : Sp) : Prop where
  ok : FnG P w K mg base CX0 k f fd ps sp
  at_ : PySem.W.findIn K (.ref C) m = some (some (.ref f))
  fn : PySem.W.isFn K (.ref f) = true
  bd : Binds K fd ps []
def sp_need_day : Sp := fun vs H Q _ => ∃ i, vs = [.int i] ∧ RetV .non H Q
theorem spv_need_day {i : Int} {H : Hp} : SpV sp_need_day ([.int i] ++ []) H .non := fun H1 _ Q q E => ⟨i, rfl, q⟩
section
variable {P : Program} {w : World} {K : PySem.W.Frag} {mg : Str → Option Value} {base : Heap} {C SZ SY : Addr}
theorem ok_need_day {f f1 : Addr} {fd fd1 : FuncData} (F : Fun K "need_day" "need_day" s_need_day f fd) (T : Txt P w K mg C SZ SY) (c_is_day : Cal P w K mg base "is_day" f1 fd1 ["value"] 1 sp_is_day) : FnOk P w K mg base CX0 2 f fd ["value"] sp_need_day := by
  refine F.ok sc_need_day (fun vs H Q E h => ?_) (fun cdv A outer s H vs Q E hr h => ?_)
  · obtain ⟨i, rfl, _⟩ := h
    rfl
  · obtain ⟨i, rfl, k⟩ := h
    refine ⟨_, (pss_one (ps_if (pt_not (pt_val (pe_call c_is_day.ok (hr.mono (by decide)) (by rfl) c_is_day.mgx c_is_day.kp c_is_day.bd .nil pass0 (pa_cons (pv 0) pa_nil)))) (pss_one ps_never) pss_nil)), ?_⟩
    exact s_when (et_not (et_B (ev_call (ea_cons (ev_var rfl) ea_nil) spv_is_day))) (fun h => by cases h) fun _ H1 e => k H1 e
end
def Seq (K : PySem.W.Frag) (H : Hp) (p : Addr) (xs : List V) : Prop := SqL K H p xs ∨ SqT K H p xs
/-- a list or tuple that is tracked as itself (its type is known) -/
def SeqT (K : PySem.W.Frag) (H : Hp) (p : Addr) (xs : List V) : Prop := H p = some (.lst xs) ∨ H p = some (.tup xs)
theorem SeqT.seq {K : PySem.W.Frag} {H : Hp} {p : Addr} {xs : List V} (h : SeqT K H p xs) : Seq K H p xs := h.imp sq_of st_of
theorem SeqT.mono {K : PySem.W.Frag} {H H' : Hp} {p : Addr} {xs : List V} (e : Ex H H') (h : SeqT K H p xs) : SeqT K H' p xs := h.imp (e p _) (e p _)
def sp_is_list (K : PySem.W.Frag) : Sp := fun vs H Q _ => ∃ p xs, vs = [.ref p] ∧ SeqT K H p xs ∧ RetV (.bl true) H Q
theorem spv_is_list {K : PySem.W.Frag} {p : Addr} {xs : List V} {H : Hp} (h : SeqT K H p xs) : SpV (sp_is_list K) ([.ref p] ++ []) H (.bl true) := fun H1 e Q q E => ⟨p, xs, rfl, h.mono e, q⟩
def sp_is_table (K : PySem.W.Frag) : Sp := fun vs H Q _ => ∃ p ns, vs = [.ref p] ∧ SeqT K H p (ns.map V.int) ∧ Good ns ∧ RetV (.bl true) H Q
theorem spv_is_table {K : PySem.W.Frag} {p : Addr} {ns : List Int} {H : Hp} (h : SeqT K H p (ns.map V.int)) (g : Good ns) : SpV (sp_is_table K) ([.ref p] ++ []) H (.bl true) := fun H1 e Q q E => ⟨p, ns, rfl, h.mono e, g, q⟩
def sp_init (K : PySem.W.Frag) (C : Addr) : Sp := fun vs H Q _ => ∃ x dx p ns, vs = [.ref x, .ref p] ∧ H x = some (.ins C dx []) ∧ SeqT K H p (ns.map V.int) ∧ Good ns ∧
  ∀ l H', (∀ b o, H b = some o → b ≠ x → H' b = some o) → H' x = some (.ins C dx [("_days", .ref l)]) → H' l = some (.lst (ns.map V.int)) → H l = none → Q .non H'
structure Ini (P : Program) (w : World) (K : PySem.W.Frag) (mg : Str → Option Value) (base : Heap) (C : Addr) (f : Addr) (fd : FuncData) : Prop where
  ok : FnOk P w K mg base CX0 3 f fd ["self", "days"] (sp_init K C)
  bd : Binds K fd ["self", "days"] []
theorem getI {ns : List Int} {i : Nat} (h : i < ns.length) : (ns.map V.int)[i]? = some (.int (ns.getD i 0)) := by
  rw [List.getElem?_map, List.getElem?_eq_getElem h, List.getD_eq_getElem?_getD, List.getElem?_eq_getElem h] <;> rfl
theorem atI_get {xs : List V} {i : Nat} {v : V} (h : xs[i]? = some v) : atI xs (i : Int) = some v := atI_nat h
theorem atI_int {ns : List Int} {i : Int} (h0 : 0 ≤ i) (h : i < (ns.length : Int)) : atI (ns.map V.int) i = some (.int (ns.getD i.toNat 0)) := by
  obtain ⟨k, rfl⟩ : ∃ k : Nat, i = (k : Int) := ⟨i.toNat, by omega⟩
  rw [Int.toNat_natCast]
  exact atI_nat (getI (by omega))
theorem atI_m1 {ns : List Int} (h : 1 ≤ ns.length) : atI (ns.map V.int) (-1) = some (.int (ns.getD (ns.length - 1) 0)) := by
  have e : ns.map V.int = (ns.dropLast).map V.int ++ [.int (ns.getD (ns.length - 1) 0)] := by
    have hne : ns ≠ [] := by intro q; subst q; simp at h
    conv => lhs; rw [← List.dropLast_concat_getLast hne]
    rw [List.map_append, List.getLast_eq_getElem, List.getD_eq_getElem?_getD, List.getElem?_eq_getElem (by omega)] <;> rfl
  rw [e]
  exact atI_last _ _
section
variable {P : Program} {w : World} {K : PySem.W.Frag} {mg : Str → Option Value} {base : Heap} {C SZ SY : Addr}
theorem ok_is_list {f : Addr} {fd : FuncData} (F : Fun K "is_list" "is_list" s_is_list f fd) (T : Txt P w K mg C SZ SY) : FnOk P w K mg base CX0 1 f fd ["value"] (sp_is_list K) := by
  refine F.ok sc_is_list (fun vs H Q E h => ?_) (fun cdv A outer s H vs Q E hr h => ?_)
  · obtain ⟨p, xs, rfl, _⟩ := h
    rfl
  · obtain ⟨p, xs, rfl, hs, k⟩ := h
    refine ⟨_, (pss_one (ps_ret (pe_callB call_isiT (by rfl) T.b_isinstance (by decide +kernel) (pa_cons (pv 0) (pa_cons (pe_tup (pa_cons (pe_bltn (v := .ty "list") (u := .type "list") (by rfl) T.b_list (by decide +kernel) rfl) (pa_cons (pe_bltn (v := .ty "tuple") (u := .type "tuple") (by rfl) T.b_tuple (by decide +kernel) rfl) pa_nil))) pa_nil))))), ?_⟩
    rcases hs with hs | hs
    · refine ⟨_, rfl, by decide, fun t ht => ?_⟩
      refine ⟨.ref p, t, [.ty "list", .ty "tuple"], .type "list", [.type "list", .type "tuple"], true, rfl, upd_same, .cons (.ty _) (.cons (.ty _) .nil), .base (.lst (by rw [upd_ne (ne_of_none hs ht)]; exact hs)), kitAny_cons (b := true) (kit_ty (by decide +kernel)) (fun h => nomatch h) (fun _ => rfl), k _ (Ex.new ht)⟩
    · refine ⟨_, rfl, by decide, fun t ht => ?_⟩
      refine ⟨.ref p, t, [.ty "list", .ty "tuple"], .type "tuple", [.type "list", .type "tuple"], true, rfl, upd_same, .cons (.ty _) (.cons (.ty _) .nil), .base (.tup (by rw [upd_ne (ne_of_none hs ht)]; exact hs)), kitAny_cons (b := false) (kit_ty (by decide +kernel)) (fun _ => kitAny_cons (b := true) (kit_ty (by decide +kernel)) (fun h => nomatch h) (fun _ => rfl)) (fun h => nomatch h), k _ (Ex.new ht)⟩
/-- range(n) of a comprehension that keeps all -/
theorem given_all {n : Nat} {v : Nat → V} : given n (fun _ => true) v = (List.range n).map v := by
  unfold given
  rw [List.filter_eq_self.mpr (fun _ _ => rfl)]
theorem lc_true {σ : L2.St} {H : Hp} : EvT tYes σ H true := fun H1 _ _ q => q H1 (Ex.refl _)
theorem all_map_true {n : Nat} {f : Nat → Bool} (h : ∀ i, i < n → f i = true) : ((List.range n).map f).all id = true := by
  rw [List.all_map, List.all_eq_true]
  exact fun i hi => h i (List.mem_range.mp hi)
theorem rv_res {r : R2} {x y z z' : V} {H : Hp} (h : RV r x y H z) (e : z = z') : RV r x y H z' := e ▸ h
theorem ev_glob {σ : L2.St} {H : Hp} {v : V} : Ev (tC v) σ H v := ev_c
theorem ev_const {σ : L2.St} {H : Hp} {mc : Value} {f : Str} {v : V} {u : Value} {te : TE} (h : Ev te σ H (.ref C)) (r : ClX.CRead K C mc) (k : ClX.CVal K C mc f v u) : Ev (ClX.tCVal K te f) σ H v := fun H1 e Q q =>
  h H1 e _ fun H2 e2 => ⟨C, mc, v, u, rfl, r, k, q H2 e2⟩
theorem ok_is_table {f f1 f2 : Addr} {fd fd1 fd2 : FuncData} (F : Fun K "is_table" "is_table" s_is_table f fd) (T : Txt P w K mg C SZ SY) (c_is_list : Cal P w K mg base "is_list" f1 fd1 ["value"] 1 (sp_is_list K)) (c_is_day : Cal P w K mg base "is_day" f2 fd2 ["value"] 1 sp_is_day) :
    FnOk P w K mg base CX0 2 f fd ["value"] (sp_is_table K) := by
  refine F.ok sc_is_table (fun vs H Q E h => ?_) (fun cdv A outer s H vs Q E hr h => ?_)
  · obtain ⟨p, ns, rfl, _⟩ := h
    rfl
  · obtain ⟨p, ns, rfl, hs, g, k⟩ := h
    obtain ⟨mc, tkq, rd, cv⟩ := T.cM
    have hgp := g.pos
    have hgm := g.most
    rcases hs with hs | hs
    · have hq := sq_of (K := K) hs
      refine ⟨_, (pss_cons (ps_if (PW.pt (pw_or (pt_not (pt_val (pe_call c_is_list.ok (hr.mono (by decide)) (by rfl) c_is_list.mgx c_is_list.kp c_is_list.bd .nil pass0 (pa_cons (pv 0) pa_nil)))) (pw_or1 (pt_not (pt_chain op_le op_le pe_int (pe_callB (lenS (K := K) rfl) (by rfl) T.b_len (by decide +kernel) (pa_cons (pv 0) pa_nil)) (ClX.pe_cval (pe_glob (v := .ref C) rfl T.mg_Table rfl))))))) (pss_one (ps_ret pe_bl)) pss_nil) (pss_cons (ps_if (pt_not (pt_val (pe_callB (allL (K := K) rfl rfl) (by rfl) T.b_all (by decide +kernel) (pa_cons (pe_lc (own := [("day", 2)]) (g := (gName 2)) (by rfl) sc_is_table.nd (piL (K := K) rfl (pv 0)) (blkOk_by (own := [("day", 2)]) (N := ["value", "rises", "day", "place"]) (sc := defScope s_is_table) (by decide +kernel)) (fun _ _ _ _ _ => (pg_name (i := 2) sc_is_table.nd rfl (Or.inl rfl))) (fun _ _ _ _ _ => pts_nil) (fun _ _ _ _ _ => (pe_call c_is_day.ok (hr.mono (by decide)) (by rfl) c_is_day.mgx c_is_day.kp c_is_day.bd .nil pass0 (pa_cons (pv 2) pa_nil)))) pa_nil)))) (pss_one (ps_ret pe_bl)) pss_nil) (pss_cons (ps_set (i := 1) sc_is_table.nd rfl (Or.inl rfl) (pe_callB (allL (K := K) rfl rfl) (by rfl) T.b_all (by decide +kernel) (pa_cons (pe_lc (own := [("place", 3)]) (g := (gName 3)) (by rfl) sc_is_table.nd (pi_range1 (by rfl) T.b_range (pa_cons (pe_op op_sub (pe_callB (lenS (K := K) rfl) (by rfl) T.b_len (by decide +kernel) (pa_cons (pv 0) pa_nil)) pe_int) pa_nil)) (blkOk_by (own := [("place", 3)]) (N := ["value", "rises", "day", "place"]) (sc := defScope s_is_table) (by decide +kernel)) (fun _ _ _ _ _ => (pg_name (i := 3) sc_is_table.nd rfl (Or.inl rfl))) (fun _ _ _ _ _ => pts_nil) (fun _ _ _ _ _ => (pe_cmpR op_le (pe_ix (ixL (K := K) rfl) (pv 0) (pv 3) (fun _ _ => rfl)) (pe_ix (ixL (K := K) rfl) (pv 0) (pe_op op_add (pv 3) pe_int) (fun _ _ => rfl)) (nomark _)))) pa_nil))) (pss_one (ps_ret (pe_and (pv 1) (pe_one (pe_cmpR op_le (pe_op op_sub (pe_ix (ixL (K := K) rfl) (pv 0) (pe_un un_neg pe_int) (fun _ _ => rfl)) (pe_ix (ixL (K := K) rfl) (pv 0) pe_int (fun _ _ => rfl))) (pe_callB (lenS (K := K) rfl) (by rfl) T.b_len (by decide +kernel) (pa_cons (pv 0) pa_nil)) (nomark _))))))))), ?_⟩
      refine q_when (b := false) (et_or (a := false) (b := false) (et_not (a := true) (et_B (ev_call (ea_cons (ev_var rfl) ea_nil) (spv_is_list (.inl hs))))) fun _ => et_not (a := true) (et_test (ev_chain (y := .int (ns.length : Int)) (ev_c (v := .int 1)) (ev_cb (ea_cons (ev_var rfl) ea_nil) (rc_len (.inl hq) (by rw [List.length_map]))) (rv_res rv_I0 (by simp; omega)) (ev_const ev_glob rd cv) (rv_res rv_I0 (by simp; omega))))) (fun q => nomatch q) fun _ H1 e1 => ?_
      refine q_when (b := false) (et_not (a := true) (et_B (ev_allT (n := ns.length) (by
        have e0 : (ns.map V.int).length = ns.length := List.length_map ..
        rw [← e0]
        refine el_lcL (fun _ => true) (fun _ => V.bl true) (ev_var rfl) (ex_l e1 hq) (by rw [e0]; omega) (fun _ => rfl) (fun _ _ _ _ _ => lc_yes) (fun i x H2 e2 hi _ => ?_)
        rw [List.getElem?_map] at hi
        obtain ⟨n, _, rfl⟩ := Option.map_eq_some_iff.mp hi
        exact ev_call (ea_cons (ev_var rfl) ea_nil) spv_is_day)))) (fun q => nomatch q) fun _ H2 e2 => ?_
      refine q_asg (v := .bl true) (ev_allT (n := ((ns.length : Int) - 1).toNat) (el_lcR1 (fun _ => true) (fun _ => V.bl true) (ea_cons (ev_op (ev_cb (ea_cons (ev_var rfl) ea_nil) (rc_len (.inl (ex_l (e1.trans e2) hq)) (by rw [List.length_map]))) ev_c rv_I0) ea_nil) (by omega) (fun _ => rfl) (fun _ _ _ _ => lc_yes) (fun i H3 e3 hi _ => ?_))) fun H3 e3 => ?_
      · have hi' : i + 1 < ns.length := by omega
        have hu := g.up i (i + 1) (by omega) hi'
        refine ev_is (ev_op (ev_op (ev_var rfl) (ev_var rfl) (rv_ixL (ex_l ((e1.trans e2).trans e3) hq) (atI_nat (getI (by omega : i < ns.length))))) (ev_op (ev_var rfl) (ev_is (ev_op (ev_var rfl) ev_c rv_I0) (by congr 1 : V.int ((i : Int) + 1) = V.int ((i + 1 : Nat) : Int))) (rv_ixL (ex_l ((e1.trans e2).trans e3) hq) (atI_nat (getI hi')))) rv_I0) (congrArg V.bl (decide_eq_true hu))
      · have hsp := g.span
        refine s_ret (ev_is (ev_andV (a := true) (ev_var rfl) fun _ => ev_op (ev_op (ev_op (ev_var rfl) (ev_un ev_c ru_neg) (rv_ixL (ex_l ((e1.trans e2).trans e3) hq) (atI_m1 hgp))) (ev_op (ev_var rfl) ev_c (rv_ixL (ex_l ((e1.trans e2).trans e3) hq) (atI_int (by decide) (by omega)))) rv_I0) (ev_cb (ea_cons (ev_var rfl) ea_nil) (rc_len (.inl (ex_l ((e1.trans e2).trans e3) hq)) (by rw [List.length_map]))) rv_I0) (congrArg V.bl (decide_eq_true hsp))) fun H4 e4 => k H4 (((e1.trans e2).trans e3).trans e4)
    · have hq := st_of (K := K) hs
      refine ⟨_, (pss_cons (ps_if (PW.pt (pw_or (pt_not (pt_val (pe_call c_is_list.ok (hr.mono (by decide)) (by rfl) c_is_list.mgx c_is_list.kp c_is_list.bd .nil pass0 (pa_cons (pv 0) pa_nil)))) (pw_or1 (pt_not (pt_chain op_le op_le pe_int (pe_callB (lenS (K := K) rfl) (by rfl) T.b_len (by decide +kernel) (pa_cons (pv 0) pa_nil)) (ClX.pe_cval (pe_glob (v := .ref C) rfl T.mg_Table rfl))))))) (pss_one (ps_ret pe_bl)) pss_nil) (pss_cons (ps_if (pt_not (pt_val (pe_callB (allL (K := K) rfl rfl) (by rfl) T.b_all (by decide +kernel) (pa_cons (pe_lc (own := [("day", 2)]) (g := (gName 2)) (by rfl) sc_is_table.nd (piT (K := K) rfl (pv 0)) (blkOk_by (own := [("day", 2)]) (N := ["value", "rises", "day", "place"]) (sc := defScope s_is_table) (by decide +kernel)) (fun _ _ _ _ _ => (pg_name (i := 2) sc_is_table.nd rfl (Or.inl rfl))) (fun _ _ _ _ _ => pts_nil) (fun _ _ _ _ _ => (pe_call c_is_day.ok (hr.mono (by decide)) (by rfl) c_is_day.mgx c_is_day.kp c_is_day.bd .nil pass0 (pa_cons (pv 2) pa_nil)))) pa_nil)))) (pss_one (ps_ret pe_bl)) pss_nil) (pss_cons (ps_set (i := 1) sc_is_table.nd rfl (Or.inl rfl) (pe_callB (allL (K := K) rfl rfl) (by rfl) T.b_all (by decide +kernel) (pa_cons (pe_lc (own := [("place", 3)]) (g := (gName 3)) (by rfl) sc_is_table.nd (pi_range1 (by rfl) T.b_range (pa_cons (pe_op op_sub (pe_callB (lenS (K := K) rfl) (by rfl) T.b_len (by decide +kernel) (pa_cons (pv 0) pa_nil)) pe_int) pa_nil)) (blkOk_by (own := [("place", 3)]) (N := ["value", "rises", "day", "place"]) (sc := defScope s_is_table) (by decide +kernel)) (fun _ _ _ _ _ => (pg_name (i := 3) sc_is_table.nd rfl (Or.inl rfl))) (fun _ _ _ _ _ => pts_nil) (fun _ _ _ _ _ => (pe_cmpR op_le (pe_ix (ixT (K := K) rfl) (pv 0) (pv 3) (fun _ _ => rfl)) (pe_ix (ixT (K := K) rfl) (pv 0) (pe_op op_add (pv 3) pe_int) (fun _ _ => rfl)) (nomark _)))) pa_nil))) (pss_one (ps_ret (pe_and (pv 1) (pe_one (pe_cmpR op_le (pe_op op_sub (pe_ix (ixT (K := K) rfl) (pv 0) (pe_un un_neg pe_int) (fun _ _ => rfl)) (pe_ix (ixT (K := K) rfl) (pv 0) pe_int (fun _ _ => rfl))) (pe_callB (lenS (K := K) rfl) (by rfl) T.b_len (by decide +kernel) (pa_cons (pv 0) pa_nil)) (nomark _))))))))), ?_⟩
      refine q_when (b := false) (et_or (a := false) (b := false) (et_not (a := true) (et_B (ev_call (ea_cons (ev_var rfl) ea_nil) (spv_is_list (.inr hs))))) fun _ => et_not (a := true) (et_test (ev_chain (y := .int (ns.length : Int)) (ev_c (v := .int 1)) (ev_cb (ea_cons (ev_var rfl) ea_nil) (rc_len (.inr hq) (by rw [List.length_map]))) (rv_res rv_I0 (by simp; omega)) (ev_const ev_glob rd cv) (rv_res rv_I0 (by simp; omega))))) (fun q => nomatch q) fun _ H1 e1 => ?_
      refine q_when (b := false) (et_not (a := true) (et_B (ev_allT (n := ns.length) (by
        have e0 : (ns.map V.int).length = ns.length := List.length_map ..
        rw [← e0]
        refine el_lcT (fun _ => true) (fun _ => V.bl true) (ev_var rfl) (ex_t e1 hq) (by rw [e0]; omega) (fun _ => rfl) (fun _ _ _ _ _ => lc_yes) (fun i x H2 e2 hi _ => ?_)
        rw [List.getElem?_map] at hi
        obtain ⟨n, _, rfl⟩ := Option.map_eq_some_iff.mp hi
        exact ev_call (ea_cons (ev_var rfl) ea_nil) spv_is_day)))) (fun q => nomatch q) fun _ H2 e2 => ?_
      refine q_asg (v := .bl true) (ev_allT (n := ((ns.length : Int) - 1).toNat) (el_lcR1 (fun _ => true) (fun _ => V.bl true) (ea_cons (ev_op (ev_cb (ea_cons (ev_var rfl) ea_nil) (rc_len (.inr (ex_t (e1.trans e2) hq)) (by rw [List.length_map]))) ev_c rv_I0) ea_nil) (by omega) (fun _ => rfl) (fun _ _ _ _ => lc_yes) (fun i H3 e3 hi _ => ?_))) fun H3 e3 => ?_
      · have hi' : i + 1 < ns.length := by omega
        have hu := g.up i (i + 1) (by omega) hi'
        refine ev_is (ev_op (ev_op (ev_var rfl) (ev_var rfl) (rv_ixT (ex_t ((e1.trans e2).trans e3) hq) (atI_nat (getI (by omega : i < ns.length))))) (ev_op (ev_var rfl) (ev_is (ev_op (ev_var rfl) ev_c rv_I0) (by congr 1 : V.int ((i : Int) + 1) = V.int ((i + 1 : Nat) : Int))) (rv_ixT (ex_t ((e1.trans e2).trans e3) hq) (atI_nat (getI hi')))) rv_I0) (congrArg V.bl (decide_eq_true hu))
      · have hsp := g.span
        refine s_ret (ev_is (ev_andV (a := true) (ev_var rfl) fun _ => ev_op (ev_op (ev_op (ev_var rfl) (ev_un ev_c ru_neg) (rv_ixT (ex_t ((e1.trans e2).trans e3) hq) (atI_m1 hgp))) (ev_op (ev_var rfl) ev_c (rv_ixT (ex_t ((e1.trans e2).trans e3) hq) (atI_int (by decide) (by omega)))) rv_I0) (ev_cb (ea_cons (ev_var rfl) ea_nil) (rc_len (.inr (ex_t ((e1.trans e2).trans e3) hq)) (by rw [List.length_map]))) rv_I0) (congrArg V.bl (decide_eq_true hsp))) fun H4 e4 => k H4 (((e1.trans e2).trans e3).trans e4)
end
def sp_many (K : PySem.W.Frag) : Sp := fun vs H Q _ => ∃ p ns d c, vs = [.ref p, .int d] ∧ SqL K H p (ns.map V.int) ∧ Good ns ∧ IsCnt ns d c ∧ RetV (.int (c : Int)) H Q
theorem spv_many {K : PySem.W.Frag} {p : Addr} {ns : List Int} {d : Int} {c : Nat} {H : Hp} (h : SqL K H p (ns.map V.int)) (g : Good ns) (hc : IsCnt ns d c) : SpV (sp_many K) ([.ref p, .int d] ++ []) H (.int (c : Int)) := fun H1 e Q q E => ⟨p, ns, d, c, rfl, ex_l e h, g, hc, q⟩
section
variable {P : Program} {w : World} {K : PySem.W.Frag} {mg : Str → Option Value} {base : Heap} {C SZ SY : Addr}
theorem ok_many {f : Addr} {fd : FuncData} (F : Fun K "_many_ahead" "_many_ahead" s__many_ahead f fd) (T : Txt P w K mg C SZ SY) : FnOk P w K mg base CX0 1 f fd ["days", "day"] (sp_many K) := by
  refine F.ok sc__many_ahead (fun vs H Q E h => ?_) (fun cdv A outer s H vs Q E hr h => ?_)
  · obtain ⟨p, ns, d, c, rfl, _⟩ := h
    rfl
  · obtain ⟨p, ns, d, c, rfl, hs, g, hc, k⟩ := h
    refine ⟨_, (pss_cons (ps_par (i := 2) (j := 3) (by rfl) sc__many_ahead.nd rfl rfl (by decide) rfl rfl (pa_cons pe_int (pa_cons (pe_callB (lenS (K := K) rfl) (by rfl) T.b_len (by decide +kernel) (pa_cons (pv 0) pa_nil)) pa_nil)) (by rfl)) (pss_cons (ps_while PassesOwn.never (pt_cmpR op_lt (pv 2) (pv 3) (nomark _)) (pss_cons (ps_set (i := 4) sc__many_ahead.nd rfl (Or.inl rfl) (pe_op op_fdivN (pe_op op_add (pv 2) (pv 3)) pe_int)) (pss_one (ps_if (pt_cmpR op_lt (pe_ix (ixL (K := K) rfl) (pv 0) (pv 4) (fun _ _ => rfl)) (pv 1) (nomark _)) (pss_one (ps_set (i := 2) sc__many_ahead.nd rfl (Or.inl rfl) (pe_op op_add (pv 4) pe_int))) (pss_one (ps_set (i := 3) sc__many_ahead.nd rfl (Or.inl rfl) (pv 4))))))) (pss_one (ps_ret (pv 2))))), ?_⟩
    refine q_par (v := .int 0) (w := .int (ns.length : Int)) (ea_cons ev_c (ea_cons (ev_cb (ea_cons (ev_var rfl) ea_nil) (rc_len (.inl hs) (by rw [List.length_map]))) ea_nil)) fun H1 e1 => ?_
    refine q_while (fun m σ' H' => ∃ lo hi : Nat, m = hi - lo ∧ lo ≤ hi ∧ hi ≤ ns.length ∧ Ex H H' ∧ lo ≤ c ∧ c ≤ hi ∧ ∃ mid : Option V, σ' = [some (.ref p), some (.int d), some (.int (lo : Int)), some (.int (hi : Int)), mid]) ns.length ⟨0, ns.length, by omega, by omega, Nat.le_refl _, e1, by omega, hc.1, none, rfl⟩ ?_
    rintro m σ' H' ⟨lo, hi, rfl, h1, h2, e, h3, h4, mid, rfl⟩
    refine ⟨decide ((lo : Int) < (hi : Int)), et_test (ev_op (ev_var rfl) (ev_var rfl) rv_I0), fun ht H2 e2 => ?_, fun ht H2 e2 => ?_⟩
    · have hlt : lo < hi := by have := of_decide_eq_true ht; omega
      have hmid : ((lo : Int) + (hi : Int)).fdiv 2 = (((lo + hi) / 2 : Nat) : Int) := by
        rw [Int.fdiv_eq_ediv_of_nonneg _ (by decide)]; omega
      refine ⟨fun σ2 H3 => ∃ lo' hi' : Nat, hi' - lo' < hi - lo ∧ lo' ≤ hi' ∧ hi' ≤ ns.length ∧ Ex H H3 ∧ lo' ≤ c ∧ c ≤ hi' ∧ ∃ mid : Option V, σ2 = [some (.ref p), some (.int d), some (.int (lo' : Int)), some (.int (hi' : Int)), mid],
        fun σ2 H3 ⟨lo', hi', q1, q2, q3, q4, q5, q6, q7⟩ => ⟨hi' - lo', q1, lo', hi', rfl, q2, q3, q4, q5, q6, q7⟩, ?_⟩
      refine q_asg (v := .int (((lo + hi) / 2 : Nat) : Int)) (ev_is (ev_op (ev_op (ev_var rfl) (ev_var rfl) rv_I0) ev_c (rv_I ⟨by decide, by decide⟩)) (by rw [hmid])) fun H3 e3 => ?_
      have hm1 : lo ≤ (lo + hi) / 2 := by omega
      have hm2 : (lo + hi) / 2 < hi := by omega
      have e4 : Ex H H3 := (e.trans e2).trans e3
      refine s_if (et_test (ev_op (ev_op (ev_var rfl) (ev_var rfl) (rv_ixL (ex_l e4 hs) (atI_nat (getI (by omega : (lo + hi) / 2 < ns.length))))) (ev_var rfl) rv_I0)) (fun hb H4 e5 => ?_) (fun hb H4 e5 => ?_)
      · have hlo : ns.getD ((lo + hi) / 2) 0 < d := of_decide_eq_true hb
        refine s_asg (v := .int (((lo + hi) / 2 + 1 : Nat) : Int)) (ev_is (ev_op (ev_var rfl) ev_c rv_I0) (by congr 1)) fun H5 e6 => ?_
        refine ⟨(lo + hi) / 2 + 1, hi, by omega, by omega, h2, (e4.trans e5).trans e6, ?_, h4, _, rfl⟩
        refine Classical.byContradiction fun q => ?_
        have := hc.2.2 ((lo + hi) / 2) (by omega) (by omega)
        omega
      · have hlo : ¬ ns.getD ((lo + hi) / 2) 0 < d := of_decide_eq_false hb
        refine s_asg (ev_var rfl) fun H5 e6 => ?_
        refine ⟨lo, (lo + hi) / 2, by omega, by omega, by omega, (e4.trans e5).trans e6, h3, ?_, _, rfl⟩
        refine Classical.byContradiction fun q => ?_
        have := hc.2.1 ((lo + hi) / 2) (by omega)
        omega
    · have hge : ¬ (lo : Int) < (hi : Int) := of_decide_eq_false ht
      have e0 : lo = c := by omega
      subst e0
      exact s_ret (ev_var rfl) fun H3 e3 => k H3 ((e.trans e2).trans e3)
end
def RetR (xs : List V) (H : Hp) (Q : VK) : Prop := ∀ (l : Addr) (ts : List Addr) (H2 : Hp), H l = none → Ex H H2 → H2 l = some (.lst (ts.map V.ref)) → ts.length = xs.length → (∀ (j : Nat) (T : Addr) (x : V), ts[j]? = some T → xs[j]? = some x → H2 T = some (.tup [.int (j : Int), x])) → Q (.ref l) H2
/-! ### the promises of a Table's methods -/
def sp_length (K : PySem.W.Frag) (C : Addr) : Sp := fun vs H Q _ => ∃ p ns, vs = [.ref p] ∧ Tab K C H p ns ∧ RetV (.int (ns.length : Int)) H Q
def sp_days (K : PySem.W.Frag) (C : Addr) : Sp := fun vs H Q _ => ∃ p ns, vs = [.ref p] ∧ Tab K C H p ns ∧ RetL (ns.map V.int) H Q
def sp_rows (K : PySem.W.Frag) (C : Addr) : Sp := fun vs H Q _ => ∃ p ns, vs = [.ref p] ∧ Tab K C H p ns ∧ RetR (ns.map V.int) H Q
def sp_on (K : PySem.W.Frag) (C : Addr) : Sp := fun vs H Q _ => ∃ p ns x, vs = [.ref p, .int x] ∧ Tab K C H p ns ∧ Good ns ∧ RetV (.int (onL ns x)) H Q
def sp_by (K : PySem.W.Frag) (C : Addr) : Sp := fun vs H Q _ => ∃ p ns x, vs = [.ref p, .int x] ∧ Tab K C H p ns ∧ Good ns ∧ RetV (.int (byL ns x)) H Q
def sp_til (K : PySem.W.Frag) (C : Addr) : Sp := fun vs H Q _ => ∃ p ns x, vs = [.ref p, .int x] ∧ Tab K C H p ns ∧ Good ns ∧ RetV (.int (byL ns (x + 1) - 1)) H Q
section
variable {K : PySem.W.Frag} {C p : Addr} {H : Hp} {ns : List Int} {x : Int}
theorem spv_length (t : Tab K C H p ns) : SpV (sp_length K C) [.ref p] H (.int (ns.length : Int)) := fun H1 e Q q E => ⟨p, ns, rfl, t.mono e, q⟩
theorem spl_days (t : Tab K C H p ns) : SpL (sp_days K C) [.ref p] H (ns.map V.int) := fun H1 e Q q E => ⟨p, ns, rfl, t.mono e, q⟩
theorem spr_rows (t : Tab K C H p ns) : SpR (sp_rows K C) [.ref p] H (ns.map V.int) := fun H1 e Q q E => ⟨p, ns, rfl, t.mono e, q⟩
theorem spv_on (t : Tab K C H p ns) (g : Good ns) : SpV (sp_on K C) [.ref p, .int x] H (.int (onL ns x)) := fun H1 e Q q E => ⟨p, ns, x, rfl, t.mono e, g, q⟩
theorem spv_by (t : Tab K C H p ns) (g : Good ns) : SpV (sp_by K C) [.ref p, .int x] H (.int (byL ns x)) := fun H1 e Q q E => ⟨p, ns, x, rfl, t.mono e, g, q⟩
theorem spv_til (t : Tab K C H p ns) (g : Good ns) : SpV (sp_til K C) [.ref p, .int x] H (.int (byL ns (x + 1) - 1)) := fun H1 e Q q E => ⟨p, ns, x, rfl, t.mono e, g, q⟩
end
section
variable {P : Program} {w : World} {K : PySem.W.Frag} {mg : Str → Option Value} {base : Heap} {C SZ SY : Addr}
theorem lk_days {l : Addr} : List.lookup ("_days" : Str) [(("_days" : Str), V.ref l)] = some (V.ref l) := by
  rw [List.lookup_cons_self]
theorem ok_init {f f1 : Addr} {fd fd1 : FuncData} (F : Fun K "__init__" "Table.__init__" s_Table___init__ f fd) (T : Txt P w K mg C SZ SY) (c_is_table : Cal P w K mg base "is_table" f1 fd1 ["value"] 2 (sp_is_table K)) : FnOk P w K mg base CX0 3 f fd ["self", "days"] (sp_init K C) := by
  refine F.ok sc_Table___init__ (fun vs H Q E h => ?_) (fun cdv A outer s H vs Q E hr h => ?_)
  · obtain ⟨x, dx, p, ns, rfl, _⟩ := h
    rfl
  · obtain ⟨x, dx, p, ns, rfl, hx, hs, g, k⟩ := h
    refine ⟨_, (pss_cons (ps_if (pt_not (pt_val (pe_call c_is_table.ok (hr.mono (by decide)) (by rfl) c_is_table.mgx c_is_table.kp c_is_table.bd .nil pass0 (pa_cons (pv 1) pa_nil)))) (pss_one ps_never) pss_nil) (pss_one (ps_fld (pv 0) (pe_callTy call_list_of (by rfl) T.b_list (by decide +kernel) (pa_cons (pv 1) pa_nil)) rfl))), ?_⟩
    refine q_when (b := false) (et_not (a := true) (et_B (ev_call (ea_cons (ev_var rfl) ea_nil) (spv_is_table hs g)))) (fun q => nomatch q) fun _ H1 e1 => ?_
    refine (el_cb (ea_cons (ev_var rfl) ea_nil) (rc_list (hs.mono e1).seq)) H1 (Ex.refl H1) _ fun l H2 hl e2 h2 => ?_
    have hx2 := e2 x _ (e1 x _ hx)
    refine ⟨_, rfl, x, C, dx, [], rfl, hx2, T.cl, T.nD, by decide, ?_⟩
    have hne : l ≠ x := (ne_of hx2 h2 (fun q => by cases q)).symm
    exact k l _ (fun b o hb hbx => by rw [upd_ne hbx]; exact e2 b _ (e1 b _ hb)) upd_same (by rw [upd_ne hne]; exact h2) (fresh_back e1 hl)
theorem ok_length {f : Addr} {fd : FuncData} (F : Fun K "length" "Table.length" s_Table_length f fd) (T : Txt P w K mg C SZ SY) : FnOk P w K mg base CX0 1 f fd ["self"] (sp_length K C) := by
  refine F.ok sc_Table_length (fun vs H Q E h => ?_) (fun cdv A outer s H vs Q E hr h => ?_)
  · obtain ⟨p, ns, rfl, _⟩ := h
    rfl
  · obtain ⟨p, ns, rfl, ⟨dx, l, h1, h2⟩, k⟩ := h
    refine ⟨_, (pss_one (ps_ret (pe_callB (lenS (K := K) rfl) (by rfl) T.b_len (by decide +kernel) (pa_cons (pe_fldK (K := K) rfl (pv 0) rfl) pa_nil)))), ?_⟩
    exact s_ret (ev_cb (ea_cons (ev_fld (ev_var rfl) h1 T.cl T.nD lk_days) ea_nil) (rc_len (.inl h2) (by rw [List.length_map]))) k
theorem ok_on {f f1 f2 p2 : Addr} {fd fd1 fd2 : FuncData} (F : Fun K "on" "Table.on" s_Table_on f fd) (T : Txt P w K mg C SZ SY) (c_need_day : Cal P w K mg base "need_day" f1 fd1 ["value"] 2 sp_need_day)
    (m_length : Prp P w K mg base C "length" p2 f2 fd2 ["self"] 1 (sp_length K C)) : FnOk P w K mg base CX0 3 f fd ["self", "day"] (sp_on K C) := by
  refine F.ok sc_Table_on (fun vs H Q E h => ?_) (fun cdv A outer s H vs Q E hr h => ?_)
  · obtain ⟨p, ns, x, rfl, _⟩ := h
    rfl
  · obtain ⟨p, ns, x, rfl, t, g, k⟩ := h
    obtain ⟨dx, l, h1, h2⟩ := id t
    have hp := g.posI
    have hm := g.most
    refine ⟨_, (pss_cons (ps_expr (pe_call c_need_day.ok (hr.mono (by decide)) (by rfl) c_need_day.mgx c_need_day.kp c_need_day.bd .nil pass0 (pa_cons (pv 1) pa_nil))) (pss_cons (ps_asg (pe_callB call_divmod (by rfl) T.b_divmod (by decide +kernel) (pa_cons (pv 1) (pa_cons (pe_prop (pv 0) T.cl m_length.pr m_length.ok (hr.mono (by decide)) m_length.bd .nil pass0 (by rfl)) pa_nil))) (pg_tup (by rfl) (pgs_cons (pg_name (i := 2) sc_Table_on.nd rfl (Or.inl rfl)) (pgs_cons (pg_name (i := 3) sc_Table_on.nd rfl (Or.inl rfl)) pgs_nil)))) (pss_one (ps_ret (pe_op op_add (pe_ix (ixL (K := K) rfl) (pe_fldK (K := K) rfl (pv 0) rfl) (pv 3) (fun _ _ => rfl)) (pe_op op_mul (pv 2) (pe_prop (pv 0) T.cl m_length.pr m_length.ok (hr.mono (by decide)) m_length.bd .nil pass0 (by rfl)))))))), ?_⟩
    refine q_drop (ev_call (ea_cons (ev_var rfl) ea_nil) spv_need_day) fun H1 e1 => ?_
    refine q_asgT2 (eu_divmod (ev_var rfl) (ev_prop (ev_var rfl) (e1 p _ h1) (spv_length (t.mono e1))) hp (by omega)) fun H2 e2 => ?_
    have e3 := e1.trans e2
    have i0 := Int.emod_nonneg x (show (ns.length : Int) ≠ 0 by omega)
    have i1 := Int.emod_lt_of_pos x hp
    exact s_ret (ev_op (ev_op (ev_fld (ev_var rfl) (e3 p _ h1) T.cl T.nD lk_days) (ev_var rfl) (rv_ixL (ex_l e3 h2) (atI_int i0 i1))) (ev_op (ev_var rfl) (ev_prop (ev_var rfl) (e3 p _ h1) (spv_length (t.mono e3))) (rv_I (.inr ⟨by omega, by omega⟩))) rv_I0) fun H3 e4 => k H3 (e3.trans e4)
theorem ok_by {f f1 f2 f3 p2 : Addr} {fd fd1 fd2 fd3 : FuncData} (F : Fun K "by" "Table.by" s_Table_by f fd) (T : Txt P w K mg C SZ SY) (c_need_day : Cal P w K mg base "need_day" f1 fd1 ["value"] 2 sp_need_day)
    (m_length : Prp P w K mg base C "length" p2 f2 fd2 ["self"] 1 (sp_length K C)) (c__many_ahead : Cal P w K mg base "_many_ahead" f3 fd3 ["days", "day"] 1 (sp_many K)) : FnOk P w K mg base CX0 3 f fd ["self", "day"] (sp_by K C) := by
  refine F.ok sc_Table_by (fun vs H Q E h => ?_) (fun cdv A outer s H vs Q E hr h => ?_)
  · obtain ⟨p, ns, x, rfl, _⟩ := h
    rfl
  · obtain ⟨p, ns, x, rfl, t, g, k⟩ := h
    obtain ⟨dx, l, h1, h2⟩ := id t
    have hp := g.posI
    have hm := g.most
    refine ⟨_, (pss_cons (ps_expr (pe_call c_need_day.ok (hr.mono (by decide)) (by rfl) c_need_day.mgx c_need_day.kp c_need_day.bd .nil pass0 (pa_cons (pv 1) pa_nil))) (pss_cons (ps_set (i := 2) sc_Table_by.nd rfl (Or.inl rfl) (pe_op op_fdivN (pe_op op_sub (pe_op op_sub (pv 1) (pe_ix (ixL (K := K) rfl) (pe_fldK (K := K) rfl (pv 0) rfl) pe_int (fun _ _ => rfl))) pe_int) (pe_prop (pv 0) T.cl m_length.pr m_length.ok (hr.mono (by decide)) m_length.bd .nil pass0 (by rfl)))) (pss_one (ps_ret (pe_op op_add (pe_call c__many_ahead.ok (hr.mono (by decide)) (by rfl) c__many_ahead.mgx c__many_ahead.kp c__many_ahead.bd .nil pass0 (pa_cons (pe_fldK (K := K) rfl (pv 0) rfl) (pa_cons (pe_op op_sub (pv 1) (pe_op op_mul (pv 2) (pe_prop (pv 0) T.cl m_length.pr m_length.ok (hr.mono (by decide)) m_length.bd .nil pass0 (by rfl)))) pa_nil))) (pe_op op_mul (pv 2) (pe_prop (pv 0) T.cl m_length.pr m_length.ok (hr.mono (by decide)) m_length.bd .nil pass0 (by rfl)))))))), ?_⟩
    refine q_drop (ev_call (ea_cons (ev_var rfl) ea_nil) spv_need_day) fun H1 e1 => ?_
    refine q_asg (v := .int ((x - ns.getD 0 0 - 1) / (ns.length : Int))) (ev_is (ev_op (ev_op (ev_op (ev_var rfl) (ev_op (ev_fld (ev_var rfl) (e1 p _ h1) T.cl T.nD lk_days) ev_c (rv_ixL (ex_l e1 h2) (atI_int (by decide) (by omega)))) rv_I0) ev_c rv_I0)
      (ev_prop (ev_var rfl) (e1 p _ h1) (spv_length (t.mono e1))) (rv_I ⟨by omega, by omega⟩)) (by rw [Int.fdiv_eq_ediv_of_nonneg _ (by omega)] <;> rfl)) fun H2 e2 => ?_
    have e3 := e1.trans e2
    obtain ⟨c, hc⟩ := cnt_ex g (x - (x - ns.getD 0 0 - 1) / (ns.length : Int) * (ns.length : Int))
    have eb : byL ns x = _ := byL_eq g (isBy_of_cnt g hc)
    rw [eb] at k
    exact s_ret (ev_op (ev_call (ea_cons (ev_fld (ev_var rfl) (e3 p _ h1) T.cl T.nD lk_days) (ea_cons (ev_op (ev_var rfl) (ev_op (ev_var rfl) (ev_prop (ev_var rfl) (e3 p _ h1) (spv_length (t.mono e3))) (rv_I (.inr ⟨by omega, by omega⟩))) rv_I0) ea_nil)) (spv_many (ex_l e3 h2) g hc))
      (ev_op (ev_var rfl) (ev_prop (ev_var rfl) (e3 p _ h1) (spv_length (t.mono e3))) (rv_I (.inr ⟨by omega, by omega⟩))) rv_I0) fun H3 e4 => k H3 (e3.trans e4)
theorem ok_til {f f1 f2 : Addr} {fd fd1 fd2 : FuncData} (F : Fun K "til" "Table.til" s_Table_til f fd) (T : Txt P w K mg C SZ SY) (c_need_day : Cal P w K mg base "need_day" f1 fd1 ["value"] 2 sp_need_day)
    (m_by : Met P w K mg base C "by" f2 fd2 ["self", "day"] 3 (sp_by K C)) : FnOk P w K mg base CX0 4 f fd ["self", "day"] (sp_til K C) := by
  refine F.ok sc_Table_til (fun vs H Q E h => ?_) (fun cdv A outer s H vs Q E hr h => ?_)
  · obtain ⟨p, ns, x, rfl, _⟩ := h
    rfl
  · obtain ⟨p, ns, x, rfl, t, g, k⟩ := h
    obtain ⟨dx, l, h1, h2⟩ := id t
    refine ⟨_, (pss_cons (ps_expr (pe_call c_need_day.ok (hr.mono (by decide)) (by rfl) c_need_day.mgx c_need_day.kp c_need_day.bd .nil pass0 (pa_cons (pv 1) pa_nil))) (pss_one (ps_ret (pe_op op_sub (pe_meth (pv 0) T.cl m_by.me m_by.ok (hr.mono (by decide)) m_by.bd .nil pass0 (pa_cons (pe_op op_add (pv 1) pe_int) pa_nil)) pe_int)))), ?_⟩
    refine q_drop (ev_call (ea_cons (ev_var rfl) ea_nil) spv_need_day) fun H1 e1 => ?_
    exact s_ret (ev_op (ev_meth (ev_var rfl) (e1 p _ h1) rfl (ea_cons (ev_op (ev_var rfl) ev_c rv_I0) ea_nil) (spv_by (t.mono e1) g)) ev_c rv_I0) fun H2 e2 => k H2 (e1.trans e2)
end

end K22
end
section
set_option maxHeartbeats 4000000
namespace K22
open PySem L2 Evl G TM TD
/-! ### days of formulas -/
def depth : Td → Nat
  | .lf _ _ => 0
  | .ov _ _ t => depth t + 1
  | .nt t => depth t + 1
  | .bi _ t u => max (depth t) (depth u) + 1
/-- its names and rules stand in the lists -/
def Has (N R : List Str) : Td → Prop
  | .lf _ v => ∀ n, v = .str n → n ∈ N
  | .ov _ v t => (∀ r, v = .str r → r ∈ R) ∧ Has N R t
  | .nt t => Has N R t
  | .bi _ t u => Has N R t ∧ Has N R u
theorem Has.pcs {N R : List Str} : ∀ {t u : Td}, Has N R t → u ∈ TD.pcs t → Has N R u
  | .lf w v, u, h, hu => by cases List.mem_singleton.mp hu; exact h
  | .ov w v t, u, h, hu => by
    rcases List.mem_cons.mp hu with e | e
    · subst e; exact h
    · exact Has.pcs h.2 e
  | .nt t, u, h, hu => by
    rcases List.mem_cons.mp hu with e | e
    · subst e; exact h
    · exact Has.pcs (t := t) h e
  | .bi w t t2, u, h, hu => by
    rcases List.mem_cons.mp hu with e | e
    · subst e; exact h
    · rcases List.mem_append.mp e with e | e
      · exact Has.pcs h.1 e
      · exact Has.pcs h.2 e
theorem has_nms {N R : List Str} {t : Td} (h : Has N R t) (o : OkD t) (nc : NiceD t) : ∀ n ∈ nmsOf t, n ∈ N := by
  intro n hn
  obtain ⟨u, hu, rfl⟩ := List.mem_map.mp hn
  obtain ⟨h1, h2⟩ := List.mem_filter.mp hu
  obtain ⟨m, hm⟩ := (nc u h1).1 h2
  have hs : ownS u = m := by unfold ownS; rw [hm]
  have hw : word u = "day" := of_decide_eq_true h2
  have hk := (OkD.pcs o h1).ok
  have hh := Has.pcs h h1
  cases u with
  | lf w v =>
    have e : v = .str m := by have : [v] = [V.str m] := hm; simpa using this
    rw [hs]; exact hh m e
  | ov w v t =>
    exfalso
    have hw' : w = "day" := hw
    rcases hk with e | e | e | e <;> (rw [hw'] at e; exact absurd e (by decide))
  | nt t => cases hm
  | bi w t u => cases hm
theorem has_rls {N R : List Str} {t : Td} (h : Has N R t) (o : OkD t) (nc : NiceD t) : ∀ n ∈ rlsOf t, n ∈ R := by
  intro n hn
  obtain ⟨u, hu, rfl⟩ := List.mem_map.mp hn
  obtain ⟨h1, h2⟩ := List.mem_filter.mp hu
  obtain ⟨m, hm⟩ := (nc u h1).2 h2
  have hs : ownS u = m := by unfold ownS; rw [hm]
  have hw : word u ∈ (["on", "by", "til"] : List Str) := of_decide_eq_true h2
  have hk := (OkD.pcs o h1).ok
  have hh := Has.pcs h h1
  cases u with
  | lf w v =>
    exfalso
    have hw' : w ∈ (["on", "by", "til"] : List Str) := hw
    rcases hk with e | e <;> (rw [e] at hw'; exact absurd hw' (by decide))
  | ov w v t =>
    have e : v = .str m := by have : [v] = [V.str m] := hm; simpa using this
    rw [hs]; exact hh.1 m e
  | nt t => cases hm
  | bi w t u => cases hm
theorem valV_days {ds : Ds} {n : Str} (h : n ∈ ds.map (·.1)) : valV (keyed V.int ds) (kS n) = some (.int (dnOf ds n)) := by
  obtain ⟨v, hv, _⟩ := look_some h
  rw [valV_keyed, hv]
  unfold dnOf
  rw [hv] <;> rfl
theorem valV_world {ws : Ws} {r : Str} (h : r ∈ ws.map (·.1)) : ∃ q, (r, q) ∈ ws ∧ valV (keyed wV ws) (kS r) = some (.ref q.1) ∧ wdOf ws r = q.2 := by
  obtain ⟨q, hq, hm⟩ := look_some h
  refine ⟨q, hm, ?_, ?_⟩
  · rw [valV_keyed, hq] <;> rfl
  · unfold wdOf
    rw [hq] <;> rfl
def sp_reckoned (K : PySem.W.Frag) (C : Addr) (n : Nat) : Sp := fun vs H Q _ => ∃ x t d ds r ws, vs = [x, .ref d, .ref r] ∧ At H x t ∧ IsF t ∧ depth t < n ∧ DaysAt H d ds ∧ WorldAt K C H r ws ∧ Has (ds.map (·.1)) (ws.map (·.1)) t ∧ RetV (.int (dayOf (dnOf ds) (wdOf ws) t)) H Q
theorem spv_reckoned {K : PySem.W.Frag} {C : Addr} {n : Nat} {x : V} {t : Td} {d r : Addr} {ds : Ds} {ws : Ws} {H : Hp} (h : At H x t) (k : IsF t) (hd : depth t < n) (a : DaysAt H d ds) (b : WorldAt K C H r ws) (c : Has (ds.map (·.1)) (ws.map (·.1)) t) :
    SpV (sp_reckoned K C n) ([x, .ref d, .ref r] ++ []) H (.int (dayOf (dnOf ds) (wdOf ws) t)) := fun H1 e Q q E => ⟨x, t, d, ds, r, ws, rfl, h.mono (Tu.ex e), k, hd, a.mono e, b.mono e, c, q⟩
/-- what is known of a def's name -/
structure Me (K : PySem.W.Frag) (mg : Str → Option Value) (x : Str) (f : Addr) (fd : FuncData) (ps : List Str) : Prop where
  mgx : mg x = some (.ref f)
  kp : PySem.W.keepIn K (.ref f) = true
  bd : Binds K fd ps []
section
variable {P : Program} {w : World} {K : PySem.W.Frag} {mg : Str → Option Value} {base : Heap} {C SZ SY : Addr}
theorem ok_reckoned {f f1 f2 f3 f4 : Addr} {fd fd1 fd2 fd3 fd4 : FuncData} (F : Fun K "reckoned" "reckoned" s_reckoned f fd) (T : Txt P w K mg C SZ SY) (me : Me K mg "reckoned" f fd ["formula", "days", "rules"]) (c_parts_of : Cal P w K mg base "parts_of" f1 fd1 ["told"] 1 sp_parts_of)
    (m_on : Met P w K mg base C "on" f2 fd2 ["self", "day"] 3 (sp_on K C)) (m_by : Met P w K mg base C "by" f3 fd3 ["self", "day"] 3 (sp_by K C)) (m_til : Met P w K mg base C "til" f4 fd4 ["self", "day"] 4 (sp_til K C)) :
    ∀ n, FnOk P w K mg base CX0 (n + 5) f fd ["formula", "days", "rules"] (sp_reckoned K C n) := by
  intro n
  induction n with
  | zero => exact ⟨fun vs H Q E h => by obtain ⟨x, t, d, ds, r, ws, _, _, _, hd, _⟩ := h; exact absurd hd (Nat.not_lt_zero _), fun A outer s H args us vs Q E _ _ _ _ h => by obtain ⟨x, t, d, ds, r, ws, _, _, _, hd, _⟩ := h; exact absurd hd (Nat.not_lt_zero _)⟩
  | succ n ih =>
  have c_reckoned : Cal P w K mg base "reckoned" f fd ["formula", "days", "rules"] (n + 5) (sp_reckoned K C n) := ⟨ih, me.mgx, me.kp, me.bd⟩
  refine F.ok (k := n + 5) sc_reckoned (fun vs H Q E h => ?_) (fun cdv A outer s H vs Q E hr h => ?_)
  · obtain ⟨x, t, d, ds, r, ws, rfl, _⟩ := h
    rfl
  · obtain ⟨x, t, d, ds, r, ws, rfl, ht, hF, hdep, hds, hws, hh, k⟩ := h
    refine ⟨_, (pss_cons (ps_set (i := 3) sc_reckoned.nd rfl (Or.inl rfl) (pe_ix (ixT (K := K) rfl) (pv 0) pe_int (fun _ _ => rfl))) (pss_cons (ps_if (pt_cmpR op_eq (pv 3) pe_str (nomark _)) (pss_one (ps_ret (pe_dgetR hr.units (pv 1) (pe_ix (ixT (K := K) rfl) (pv 0) pe_int (fun _ _ => rfl)) (fun _ _ => rfl)))) pss_nil) (pss_cons (ps_if (pt_cmpR op_eq (pv 3) pe_str (nomark _)) (pss_one (ps_ret (pe_ix (ixT (K := K) rfl) (pv 0) pe_int (fun _ _ => rfl)))) pss_nil) (pss_cons (ps_setLc (i := 4) (own := [("part", 5)]) (g := (gName 5)) (by rfl) sc_reckoned.nd rfl rfl (sw_true rfl rfl rfl (by decide +kernel)) (piT (K := K) rfl (pe_call c_parts_of.ok (hr.mono (by omega)) (by rfl) c_parts_of.mgx c_parts_of.kp c_parts_of.bd .nil pass0 (pa_cons (pv 0) pa_nil))) (blkOk_by (own := [("part", 5)]) (N := ["formula", "days", "rules", "word", "within", "part"]) (sc := defScope s_reckoned) (by decide +kernel)) (fun _ _ _ _ _ => (pg_name (i := 5) sc_reckoned.nd rfl (Or.inl rfl))) (fun _ _ _ _ _ => pts_nil) (fun _ _ _ _ _ => (pe_call c_reckoned.ok (hr.mono (by omega)) (by rfl) c_reckoned.mgx c_reckoned.kp c_reckoned.bd .nil pass0 (pa_cons (pv 5) (pa_cons (pv 1) (pa_cons (pv 2) pa_nil)))))) (pss_cons (ps_if (pt_cmpR op_eq (pv 3) pe_str (nomark _)) (pss_one (ps_ret (pe_meth (pe_dgetR hr.units (pv 2) (pe_ix (ixT (K := K) rfl) (pv 0) pe_int (fun _ _ => rfl)) (fun _ _ => rfl)) T.cl m_on.me m_on.ok (hr.mono (by omega)) m_on.bd .nil pass0 (pa_cons (pe_ix (ixL (K := K) rfl) (pv 4) pe_int (fun _ _ => rfl)) pa_nil)))) pss_nil) (pss_cons (ps_if (pt_cmpR op_eq (pv 3) pe_str (nomark _)) (pss_one (ps_ret (pe_meth (pe_dgetR hr.units (pv 2) (pe_ix (ixT (K := K) rfl) (pv 0) pe_int (fun _ _ => rfl)) (fun _ _ => rfl)) T.cl m_by.me m_by.ok (hr.mono (by omega)) m_by.bd .nil pass0 (pa_cons (pe_ix (ixL (K := K) rfl) (pv 4) pe_int (fun _ _ => rfl)) pa_nil)))) pss_nil) (pss_cons (ps_if (pt_cmpR op_eq (pv 3) pe_str (nomark _)) (pss_one (ps_ret (pe_meth (pe_dgetR hr.units (pv 2) (pe_ix (ixT (K := K) rfl) (pv 0) pe_int (fun _ _ => rfl)) (fun _ _ => rfl)) T.cl m_til.me m_til.ok (hr.mono (by omega)) m_til.bd .nil pass0 (pa_cons (pe_ix (ixL (K := K) rfl) (pv 4) pe_int (fun _ _ => rfl)) pa_nil)))) pss_nil) (pss_cons (ps_if (pt_cmpR op_eq (pv 3) pe_str (nomark _)) (pss_one (ps_ret (pe_op op_add (pe_ix (ixL (K := K) rfl) (pv 4) pe_int (fun _ _ => rfl)) (pe_ix (ixT (K := K) rfl) (pv 0) pe_int (fun _ _ => rfl))))) pss_nil) (pss_one (ps_ret (pe_ifExp (pt_cmpR op_eq (pv 3) pe_str (nomark _)) (pe_callB (maxL (K := K) rfl rfl) (by rfl) T.b_max (by decide +kernel) (pa_cons (pv 4) pa_nil)) (pe_callB (minL (K := K) rfl rfl) (by rfl) T.b_min (by decide +kernel) (pa_cons (pv 4) pa_nil))))))))))))), ?_⟩
    refine q_asg (ev_wordA (K := K) (ev_var rfl) ht) fun H1 e1 => ?_
    have a1 : At H1 x t := ht.mono (Tu.ex e1)
    have tw : ∀ (σ : L2.St) (H2 : Hp) (z : Str), σ[3]? = some (some (V.str (word t))) → EvT (tTest (tOp rEq (tVar 3) (tC (.str z)))) σ H2 (decide (word t = z)) := fun σ H2 z hv => et_is (et_test (ev_op (ev_var hv) ev_c (rv_eq rfl))) (dec_str _ _)
    cases t with
    | lf w v =>
      rcases hF with ⟨e, m, _, rfl⟩ | ⟨e, i, rfl⟩
      · subst e
        refine q_when (b := true) (tw _ _ _ rfl) (fun _ H2 e2 => ?_) (fun z => by cases z)
        exact s_ret (ev_dget (k := kS m) (ev_var rfl) (ev_ownA (K := K) (ev_var rfl) (a1.mono (Tu.ex e2)) rfl) ((hds.mono (e1.trans e2)).1) (valV_days (hh m rfl))) fun H3 e3 => k H3 ((e1.trans e2).trans e3)
      · subst e
        refine q_when (b := false) (tw _ _ _ rfl) (fun z => by cases z) (fun _ H2 e2 => ?_)
        refine q_when (b := true) (tw _ _ _ rfl) (fun _ H3 e3 => ?_) (fun z => by cases z)
        exact s_ret (ev_ownA (K := K) (ev_var rfl) (a1.mono (Tu.ex (e2.trans e3))) rfl) fun H4 e4 => k H4 (((e1.trans e2).trans e3).trans e4)
    | ov w v t =>
      have hk : IsF t := hF.2
      have hdt : depth t < n := Nat.lt_of_succ_lt_succ hdep
      have n1 : decide (w = "day") = false := by
        rcases hF.1 with ⟨h, _⟩ | ⟨h, _⟩
        · rcases turn_cases h with e | e | e <;> (subst e; decide)
        · subst h; decide
      have n2 : decide (w = "num") = false := by
        rcases hF.1 with ⟨h, _⟩ | ⟨h, _⟩
        · rcases turn_cases h with e | e | e <;> (subst e; decide)
        · subst h; decide
      refine q_when (b := decide (w = "day")) (tw _ _ _ rfl) (fun z => by rw [n1] at z; cases z) (fun _ H2 e2 => ?_)
      refine q_when (b := decide (w = "num")) (tw _ _ _ rfl) (fun z => by rw [n2] at z; cases z) (fun _ H3 e3 => ?_)
      have e03 := (e1.trans e2).trans e3
      have a3 := a1.mono (Tu.ex (e2.trans e3))
      refine q_asgL (xs := [V.int (dayOf (dnOf ds) (wdOf ws) t)]) (el_lcKs (K := K) (ts := [t]) (j := 5) (vs := [5]) (fun _ => true) (fun u => V.int (dayOf (dnOf ds) (wdOf ws) u)) (eks_call (ea_cons (ev_var rfl) ea_nil) (spk_parts_of a3 hF.okD.ok)) (by show 1 ≤ 40000; decide) (fun _ => rfl) (fun _ _ _ _ _ _ => lc_yes) (fun y u H4 e4 hy hu _ => by
        cases List.mem_singleton.mp hu
        exact ev_call (ea_cons (ev_var (i := 5) rfl) (ea_cons (ev_var (i := 1) rfl) (ea_cons (ev_var (i := 2) rfl) ea_nil))) (spv_reckoned hy hk hdt (hds.mono (e03.trans e4)) (hws.mono (e03.trans e4)) hh.2))) fun pl H4 hpl e4 h4 => ?_
      have w0 : ∀ (σ : L2.St) H5, σ[4]? = some (some (.ref pl)) → H5 pl = some (.lst [V.int (dayOf (dnOf ds) (wdOf ws) t)]) → Ev (tOp (rIxL K) (tVar 4) (tC (.int 0))) σ H5 (.int (dayOf (dnOf ds) (wdOf ws) t)) := fun σ H5 hv h5 => ev_op (ev_var hv) ev_c (rv_ixL (sq_of h5) (atI_nat (j := 0) rfl))
      have e04 := e03.trans e4
      have a4 := a3.mono (Tu.ex e4)
      rcases hF.1 with ⟨hw, rl, hrl, rfl⟩ | ⟨hw, i, rfl⟩
      · obtain ⟨q, hq, hv, hwd⟩ := valV_world (hh.1 rl rfl)
        obtain ⟨hr1, hg, htab⟩ := hws.2.1 _ hq
        obtain ⟨dx, l, hp1, _⟩ := id htab
        have sc : dayOf (dnOf ds) (wdOf ws) (.ov w (.str rl) t) = if w = "on" then onL q.2 (dayOf (dnOf ds) (wdOf ws) t) else if w = "by" then byL q.2 (dayOf (dnOf ds) (wdOf ws) t) else tilL q.2 (dayOf (dnOf ds) (wdOf ws) t) := by
          rw [← hwd] <;> rfl
        have ob : ∀ (σ : L2.St) H5, Ex H H5 → At H5 x (.ov w (.str rl) t) → σ[0]? = some (some x) → σ[2]? = some (some (.ref r)) → Ev (tDGet (tVar 2) (tOp (rIxT K) (tVar 0) (tC (.int 1)))) σ H5 (.ref q.1) := fun σ H5 e5 a5 v0 v2 => ev_dget (k := kS rl) (ev_var v2) (ev_ownA (K := K) (ev_var v0) a5 rfl) (hws.mono e5).1 hv
        rw [sc] at k
        rcases turn_cases hw with e | e | e
        · subst e
          refine q_when (b := true) (tw _ _ _ rfl) (fun _ H5 e5 => ?_) (fun z => by cases z)
          exact s_ret (ev_meth (ob _ _ (e04.trans e5) (a4.mono (Tu.ex e5)) rfl rfl) ((e04.trans e5) _ _ hp1) rfl (ea_cons (w0 _ _ rfl (e5 pl _ h4)) ea_nil) (spv_on (htab.mono (e04.trans e5)) hg)) fun H6 e6 => k H6 ((e04.trans e5).trans e6)
        · subst e
          refine q_when (b := false) (tw _ _ _ rfl) (fun z => by cases z) (fun _ H5 e5 => ?_)
          refine q_when (b := true) (tw _ _ _ rfl) (fun _ H6 e6 => ?_) (fun z => by cases z)
          have e06 := (e04.trans e5).trans e6
          exact s_ret (ev_meth (ob _ _ e06 (a4.mono (Tu.ex (e5.trans e6))) rfl rfl) (e06 _ _ hp1) rfl (ea_cons (w0 _ _ rfl ((e5.trans e6) pl _ h4)) ea_nil) (spv_by (htab.mono e06) hg)) fun H7 e7 => k H7 (e06.trans e7)
        · subst e
          refine q_when (b := false) (tw _ _ _ rfl) (fun z => by cases z) (fun _ H5 e5 => ?_)
          refine q_when (b := false) (tw _ _ _ rfl) (fun z => by cases z) (fun _ H6 e6 => ?_)
          refine q_when (b := true) (tw _ _ _ rfl) (fun _ H7 e7 => ?_) (fun z => by cases z)
          have e07 := ((e04.trans e5).trans e6).trans e7
          exact s_ret (ev_meth (ob _ _ e07 (a4.mono (Tu.ex ((e5.trans e6).trans e7))) rfl rfl) (e07 _ _ hp1) rfl (ea_cons (w0 _ _ rfl (((e5.trans e6).trans e7) pl _ h4)) ea_nil) (spv_til (htab.mono e07) hg)) fun H8 e8 => k H8 (e07.trans e8)
      · subst hw
        refine q_when (b := false) (tw _ _ _ rfl) (fun z => by cases z) (fun _ H5 e5 => ?_)
        refine q_when (b := false) (tw _ _ _ rfl) (fun z => by cases z) (fun _ H6 e6 => ?_)
        refine q_when (b := false) (tw _ _ _ rfl) (fun z => by cases z) (fun _ H7 e7 => ?_)
        refine q_when (b := true) (tw _ _ _ rfl) (fun _ H8 e8 => ?_) (fun z => by cases z)
        have e08 := (((e04.trans e5).trans e6).trans e7).trans e8
        exact s_ret (ev_op (w0 _ _ rfl ((((e5.trans e6).trans e7).trans e8) pl _ h4)) (ev_ownA (K := K) (ev_var rfl) (a4.mono (Tu.ex (((e5.trans e6).trans e7).trans e8))) rfl) rv_I0) fun H9 e9 => k H9 (e08.trans e9)
    | nt t => exact hF.elim
    | bi w t u =>
      obtain ⟨hw, hk1, hk2⟩ := hF
      have hd1 : depth t < n := by have := Nat.lt_of_succ_lt_succ hdep; omega
      have hd2 : depth u < n := by have := Nat.lt_of_succ_lt_succ hdep; omega
      have nn : ∀ z : Str, z ∈ (["day", "num", "on", "by", "til", "add"] : List Str) → decide (w = z) = false := fun z hz => decide_eq_false fun q => by
        rw [← q] at hz
        rcases hw with e | e <;> (rw [e] at hz; exact absurd hz (by decide))
      refine q_when (b := decide (w = "day")) (tw _ _ _ rfl) (fun z => by rw [nn _ (by decide)] at z; cases z) (fun _ H2 e2 => ?_)
      refine q_when (b := decide (w = "num")) (tw _ _ _ rfl) (fun z => by rw [nn _ (by decide)] at z; cases z) (fun _ H3 e3 => ?_)
      have e03 := (e1.trans e2).trans e3
      have a3 := a1.mono (Tu.ex (e2.trans e3))
      refine q_asgL (xs := [V.int (dayOf (dnOf ds) (wdOf ws) t), V.int (dayOf (dnOf ds) (wdOf ws) u)]) (el_lcKs (K := K) (ts := [t, u]) (j := 5) (vs := [5]) (fun _ => true) (fun u => V.int (dayOf (dnOf ds) (wdOf ws) u)) (eks_call (ea_cons (ev_var rfl) ea_nil) (spk_parts_of a3 (hw.imp id .inl))) (by show 2 ≤ 40000; decide) (fun _ => rfl) (fun _ _ _ _ _ _ => lc_yes) (fun y v H4 e4 hy hu _ => by
        rcases List.mem_cons.mp hu with e | hu
        · subst e
          exact ev_call (ea_cons (ev_var (i := 5) rfl) (ea_cons (ev_var (i := 1) rfl) (ea_cons (ev_var (i := 2) rfl) ea_nil))) (spv_reckoned hy hk1 hd1 (hds.mono (e03.trans e4)) (hws.mono (e03.trans e4)) hh.1)
        · cases List.mem_singleton.mp hu
          exact ev_call (ea_cons (ev_var (i := 5) rfl) (ea_cons (ev_var (i := 1) rfl) (ea_cons (ev_var (i := 2) rfl) ea_nil))) (spv_reckoned hy hk2 hd2 (hds.mono (e03.trans e4)) (hws.mono (e03.trans e4)) hh.2))) fun pl H4 hpl e4 h4 => ?_
      refine q_when (b := decide (w = "on")) (tw _ _ _ rfl) (fun z => by rw [nn _ (by decide)] at z; cases z) (fun _ H5 e5 => ?_)
      refine q_when (b := decide (w = "by")) (tw _ _ _ rfl) (fun z => by rw [nn _ (by decide)] at z; cases z) (fun _ H6 e6 => ?_)
      refine q_when (b := decide (w = "til")) (tw _ _ _ rfl) (fun z => by rw [nn _ (by decide)] at z; cases z) (fun _ H7 e7 => ?_)
      refine q_when (b := decide (w = "add")) (tw _ _ _ rfl) (fun z => by rw [nn _ (by decide)] at z; cases z) (fun _ H8 e8 => ?_)
      have e48 := ((e5.trans e6).trans e7).trans e8
      have h8 : H8 pl = some (.lst ([dayOf (dnOf ds) (wdOf ws) t, dayOf (dnOf ds) (wdOf ws) u].map V.int)) := e48 pl _ h4
      refine s_ret (v := .int (dayOf (dnOf ds) (wdOf ws) (.bi w t u))) (ev_if (b := decide (w = "late")) (tw _ _ _ rfl) (fun z => ?_) (fun z => ?_)) fun H9 e9 => k H9 (((e03.trans e4).trans e48).trans e9)
      · have e : w = "late" := of_decide_eq_true z
        have sc : dayOf (dnOf ds) (wdOf ws) (.bi w t u) = if dayOf (dnOf ds) (wdOf ws) u > dayOf (dnOf ds) (wdOf ws) t then dayOf (dnOf ds) (wdOf ws) u else dayOf (dnOf ds) (wdOf ws) t := by
          show (if w = "late" then _ else _) = _
          rw [if_pos e]
        rw [sc]
        refine ev_cb (ea_cons (ev_var rfl) ea_nil) (rc_max (sq_of h8) ?_ ?_)
        · split <;> simp
        · intro y hy
          simp only [List.mem_cons, List.not_mem_nil, or_false] at hy
          split <;> omega
      · have e : ¬ w = "late" := of_decide_eq_false z
        have sc : dayOf (dnOf ds) (wdOf ws) (.bi w t u) = if dayOf (dnOf ds) (wdOf ws) u < dayOf (dnOf ds) (wdOf ws) t then dayOf (dnOf ds) (wdOf ws) u else dayOf (dnOf ds) (wdOf ws) t := by
          show (if w = "late" then _ else _) = _
          rw [if_neg e]
        rw [sc]
        refine ev_cb (ea_cons (ev_var rfl) ea_nil) (rc_min (sq_of h8) ?_ ?_)
        · split <;> simp
        · intro y hy
          simp only [List.mem_cons, List.not_mem_nil, or_false] at hy
          split <;> omega
end
end K22
end
section
set_option maxHeartbeats 4000000
namespace K22
open PySem L2 Evl G TM TD
def sp_is_so (K : PySem.W.Frag) (C : Addr) (n : Nat) : Sp := fun vs H Q _ => ∃ x t d ds r ws, vs = [x, .ref d, .ref r] ∧ At H x t ∧ IsS t ∧ depth t < n ∧ depth t < 10 ∧ DaysAt H d ds ∧ WorldAt K C H r ws ∧ Has (ds.map (·.1)) (ws.map (·.1)) t ∧ RetV (.bl (soOf (dnOf ds) (wdOf ws) t)) H Q
theorem spv_is_so {K : PySem.W.Frag} {C : Addr} {n : Nat} {x : V} {t : Td} {d r : Addr} {ds : Ds} {ws : Ws} {H : Hp} (h : At H x t) (k : IsS t) (hd : depth t < n) (h10 : depth t < 10) (a : DaysAt H d ds) (b : WorldAt K C H r ws) (c : Has (ds.map (·.1)) (ws.map (·.1)) t) :
    SpV (sp_is_so K C n) ([x, .ref d, .ref r] ++ []) H (.bl (soOf (dnOf ds) (wdOf ws) t)) := fun H1 e Q q E => ⟨x, t, d, ds, r, ws, rfl, h.mono (Tu.ex e), k, hd, h10, a.mono e, b.mono e, c, q⟩
def sp_day_of (K : PySem.W.Frag) (C : Addr) : Sp := fun vs H Q _ => ∃ x t d ds r ws, vs = [x, .ref d, .ref r] ∧ At H x t ∧ IsF t ∧ depth t < 10 ∧ (pcs t).length ≤ 60 ∧ DaysAt H d ds ∧ WorldAt K C H r ws ∧ Has (ds.map (·.1)) (ws.map (·.1)) t ∧ RetV (.int (dayOf (dnOf ds) (wdOf ws) t)) H Q
theorem spv_day_of {K : PySem.W.Frag} {C : Addr} {x : V} {t : Td} {d r : Addr} {ds : Ds} {ws : Ws} {H : Hp} (h : At H x t) (k : IsF t) (hd : depth t < 10) (hz : (pcs t).length ≤ 60) (a : DaysAt H d ds) (b : WorldAt K C H r ws) (c : Has (ds.map (·.1)) (ws.map (·.1)) t) :
    SpV (sp_day_of K C) ([x, .ref d, .ref r] ++ []) H (.int (dayOf (dnOf ds) (wdOf ws) t)) := fun H1 e Q q E => ⟨x, t, d, ds, r, ws, rfl, h.mono (Tu.ex e), k, hd, hz, a.mono e, b.mono e, c, q⟩
def sp_holds (K : PySem.W.Frag) (C : Addr) : Sp := fun vs H Q _ => ∃ x t d ds r ws, vs = [x, .ref d, .ref r] ∧ At H x t ∧ IsS t ∧ depth t < 10 ∧ (pcs t).length ≤ 60 ∧ DaysAt H d ds ∧ WorldAt K C H r ws ∧ Has (ds.map (·.1)) (ws.map (·.1)) t ∧ RetV (.bl (soOf (dnOf ds) (wdOf ws) t)) H Q
theorem spv_holds {K : PySem.W.Frag} {C : Addr} {x : V} {t : Td} {d r : Addr} {ds : Ds} {ws : Ws} {H : Hp} (h : At H x t) (k : IsS t) (hd : depth t < 10) (hz : (pcs t).length ≤ 60) (a : DaysAt H d ds) (b : WorldAt K C H r ws) (c : Has (ds.map (·.1)) (ws.map (·.1)) t) :
    SpV (sp_holds K C) ([x, .ref d, .ref r] ++ []) H (.bl (soOf (dnOf ds) (wdOf ws) t)) := fun H1 e Q q E => ⟨x, t, d, ds, r, ws, rfl, h.mono (Tu.ex e), k, hd, hz, a.mono e, b.mono e, c, q⟩
theorem some_keyed {α : Type} {g : α → V} {ds : List (Str × α)} {x : Str} (h : x ∈ ds.map (·.1)) : (valV (keyed g ds) (kS x)).isSome = true := by
  obtain ⟨v, hv, _⟩ := look_some h
  rw [valV_keyed, hv]
  rfl
section
variable {P : Program} {w : World} {K : PySem.W.Frag} {mg : Str → Option Value} {base : Heap} {C SZ SY : Addr}
theorem ok_is_so {f f1 : Addr} {fd fd1 : FuncData} (F : Fun K "is_so" "is_so" s_is_so f fd) (T : Txt P w K mg C SZ SY) (me : Me K mg "is_so" f fd ["saying", "days", "rules"]) (c_reckoned : Cal P w K mg base "reckoned" f1 fd1 ["formula", "days", "rules"] 15 (sp_reckoned K C 10)) :
    ∀ n, FnOk P w K mg base CX0 (n + 16) f fd ["saying", "days", "rules"] (sp_is_so K C n) := by
  intro n
  induction n with
  | zero => exact ⟨fun vs H Q E h => by obtain ⟨x, t, d, ds, r, ws, _, _, _, hd, _⟩ := h; exact absurd hd (Nat.not_lt_zero _), fun A outer s H args us vs Q E _ _ _ _ h => by obtain ⟨x, t, d, ds, r, ws, _, _, _, hd, _⟩ := h; exact absurd hd (Nat.not_lt_zero _)⟩
  | succ n ih =>
  have c_is_so : Cal P w K mg base "is_so" f fd ["saying", "days", "rules"] (n + 16) (sp_is_so K C n) := ⟨ih, me.mgx, me.kp, me.bd⟩
  refine F.ok (k := n + 16) sc_is_so (fun vs H Q E h => ?_) (fun cdv A outer s H vs Q E hr h => ?_)
  · obtain ⟨x, t, d, ds, r, ws, rfl, _⟩ := h
    rfl
  · obtain ⟨x, t, d, ds, r, ws, rfl, ht, hS, hdep, h10, hds, hws, hh, k⟩ := h
    refine ⟨_, (pss_cons (ps_set (i := 3) sc_is_so.nd rfl (Or.inl rfl) (pe_ix (ixT (K := K) rfl) (pv 0) pe_int (fun _ _ => rfl))) (pss_cons (ps_if (pt_cmpR op_eq (pv 3) pe_str (nomark _)) (pss_one (ps_ret (pe_cmpR op_le (pe_call c_reckoned.ok (hr.mono (by omega)) (by rfl) c_reckoned.mgx c_reckoned.kp c_reckoned.bd .nil pass0 (pa_cons (pe_ix (ixT (K := K) rfl) (pv 0) pe_int (fun _ _ => rfl)) (pa_cons (pv 1) (pa_cons (pv 2) pa_nil)))) (pe_call c_reckoned.ok (hr.mono (by omega)) (by rfl) c_reckoned.mgx c_reckoned.kp c_reckoned.bd .nil pass0 (pa_cons (pe_ix (ixT (K := K) rfl) (pv 0) pe_int (fun _ _ => rfl)) (pa_cons (pv 1) (pa_cons (pv 2) pa_nil)))) (nomark _)))) pss_nil) (pss_cons (ps_if (pt_cmpR op_eq (pv 3) pe_str (nomark _)) (pss_one (ps_ret (pe_not (pe_call c_is_so.ok (hr.mono (by omega)) (by rfl) c_is_so.mgx c_is_so.kp c_is_so.bd .nil pass0 (pa_cons (pe_ix (ixT (K := K) rfl) (pv 0) pe_int (fun _ _ => rfl)) (pa_cons (pv 1) (pa_cons (pv 2) pa_nil))))))) pss_nil) (pss_cons (ps_if (pt_cmpR op_eq (pv 3) pe_str (nomark _)) (pss_one (ps_ret (pe_and (pe_call c_is_so.ok (hr.mono (by omega)) (by rfl) c_is_so.mgx c_is_so.kp c_is_so.bd .nil pass0 (pa_cons (pe_ix (ixT (K := K) rfl) (pv 0) pe_int (fun _ _ => rfl)) (pa_cons (pv 1) (pa_cons (pv 2) pa_nil)))) (pe_one (pe_call c_is_so.ok (hr.mono (by omega)) (by rfl) c_is_so.mgx c_is_so.kp c_is_so.bd .nil pass0 (pa_cons (pe_ix (ixT (K := K) rfl) (pv 0) pe_int (fun _ _ => rfl)) (pa_cons (pv 1) (pa_cons (pv 2) pa_nil)))))))) pss_nil) (pss_one (ps_ret (pe_or (pe_call c_is_so.ok (hr.mono (by omega)) (by rfl) c_is_so.mgx c_is_so.kp c_is_so.bd .nil pass0 (pa_cons (pe_ix (ixT (K := K) rfl) (pv 0) pe_int (fun _ _ => rfl)) (pa_cons (pv 1) (pa_cons (pv 2) pa_nil)))) (pe_one (pe_call c_is_so.ok (hr.mono (by omega)) (by rfl) c_is_so.mgx c_is_so.kp c_is_so.bd .nil pass0 (pa_cons (pe_ix (ixT (K := K) rfl) (pv 0) pe_int (fun _ _ => rfl)) (pa_cons (pv 1) (pa_cons (pv 2) pa_nil)))))))))))), ?_⟩
    refine q_asg (ev_wordA (K := K) (ev_var rfl) ht) fun H1 e1 => ?_
    have a1 : At H1 x t := ht.mono (Tu.ex e1)
    have tw : ∀ (σ : L2.St) (H2 : Hp) (z : Str), σ[3]? = some (some (V.str (word t))) → EvT (tTest (tOp rEq (tVar 3) (tC (.str z)))) σ H2 (decide (word t = z)) := fun σ H2 z hv => et_is (et_test (ev_op (ev_var hv) ev_c (rv_eq rfl))) (dec_str _ _)
    cases t with
    | lf w v => exact hS.elim
    | ov w v t => exact hS.elim
    | nt t =>
      obtain ⟨a, y, rfl, ha, hy⟩ := a1
      have hdt : depth t < n := Nat.lt_of_succ_lt_succ hdep
      have hdt10 : depth t < 10 := Nat.lt_of_succ_lt h10
      have n1 : decide (("not" : Str) = "le") = false := by decide
      have n2 : decide (("not" : Str) = "not") = true := by decide
      refine q_when (b := decide (("not" : Str) = "le")) (tw _ _ _ rfl) (fun z => by rw [n1] at z; cases z) (fun _ H2 e2 => ?_)
      refine q_when (b := decide (("not" : Str) = "not")) (tw _ _ _ rfl) (fun _ H3 e3 => ?_) (fun z => by rw [n2] at z; cases z)
      have e03 := (e1.trans e2).trans e3
      exact s_ret (ev_notV (ev_call (ea_cons (ev_at1 (K := K) (ev_var rfl) ((e2.trans e3) a _ ha)) (ea_cons (ev_var rfl) (ea_cons (ev_var rfl) ea_nil))) (spv_is_so (hy.mono (Tu.ex (e2.trans e3))) hS hdt hdt10 (hds.mono e03) (hws.mono e03) hh))) fun H4 e4 => k H4 (e03.trans e4)
    | bi w t u =>
      obtain ⟨a, y, z, rfl, ha, hy, hz⟩ := a1
      have hm := Nat.lt_of_succ_lt_succ hdep
      have hm10 : max (depth t) (depth u) + 1 < 10 := h10
      rcases hS with ⟨e, hF1, hF2⟩ | ⟨hw, hS1, hS2⟩
      · subst e
        have n1 : decide (("le" : Str) = "le") = true := by decide
        refine q_when (b := decide (("le" : Str) = "le")) (tw _ _ _ rfl) (fun _ H2 e2 => ?_) (fun z => by rw [n1] at z; cases z)
        have e02 := e1.trans e2
        refine s_ret (ev_is (ev_op (ev_call (ea_cons (ev_at1 (K := K) (ev_var rfl) (e2 a _ ha)) (ea_cons (ev_var rfl) (ea_cons (ev_var rfl) ea_nil))) (spv_reckoned (hy.mono (Tu.ex e2)) hF1 (by omega) (hds.mono e02) (hws.mono e02) hh.1)) (ev_call (ea_cons (ev_at2 (K := K) (ev_var rfl) (e2 a _ ha)) (ea_cons (ev_var rfl) (ea_cons (ev_var rfl) ea_nil))) (spv_reckoned (hz.mono (Tu.ex e2)) hF2 (by omega) (hds.mono e02) (hws.mono e02) hh.2)) rv_I0) (w := .bl (soOf (dnOf ds) (wdOf ws) (.bi "le" t u))) ?_) fun H3 e3 => k H3 (e02.trans e3)
        show V.bl _ = V.bl (if ("le" : Str) = "le" then _ else _)
        rw [if_pos rfl]
      · have n1 : decide (w = "le") = false := by rcases hw with e | e <;> (subst e; decide)
        have n2 : decide (w = "not") = false := by rcases hw with e | e <;> (subst e; decide)
        refine q_when (b := decide (w = "le")) (tw _ _ _ rfl) (fun z => by rw [n1] at z; cases z) (fun _ H2 e2 => ?_)
        refine q_when (b := decide (w = "not")) (tw _ _ _ rfl) (fun z => by rw [n2] at z; cases z) (fun _ H3 e3 => ?_)
        have e03 := (e1.trans e2).trans e3
        have nl : ¬ w = "le" := of_decide_eq_false n1
        have c1 : ∀ H4, Ex H3 H4 → Ev (tCall (sp_is_so K C n) [] E0 (tCons (tOp (rIxT K) (tVar 0) (tC (.int 1))) (tCons (tVar 1) (tCons (tVar 2) tNil)))) [some (.ref a), some (.ref d), some (.ref r), some (.str w)] H4 (.bl (soOf (dnOf ds) (wdOf ws) t)) := fun H4 e4 =>
          ev_call (ea_cons (ev_at1 (K := K) (ev_var rfl) (((e2.trans e3).trans e4) a _ ha)) (ea_cons (ev_var rfl) (ea_cons (ev_var rfl) ea_nil))) (spv_is_so (hy.mono (Tu.ex ((e2.trans e3).trans e4))) hS1 (by omega) (by omega) (hds.mono (e03.trans e4)) (hws.mono (e03.trans e4)) hh.1)
        have c2 : ∀ H4, Ex H3 H4 → Ev (tCall (sp_is_so K C n) [] E0 (tCons (tOp (rIxT K) (tVar 0) (tC (.int 2))) (tCons (tVar 1) (tCons (tVar 2) tNil)))) [some (.ref a), some (.ref d), some (.ref r), some (.str w)] H4 (.bl (soOf (dnOf ds) (wdOf ws) u)) := fun H4 e4 =>
          ev_call (ea_cons (ev_at2 (K := K) (ev_var rfl) (((e2.trans e3).trans e4) a _ ha)) (ea_cons (ev_var rfl) (ea_cons (ev_var rfl) ea_nil))) (spv_is_so (hz.mono (Tu.ex ((e2.trans e3).trans e4))) hS2 (by omega) (by omega) (hds.mono (e03.trans e4)) (hws.mono (e03.trans e4)) hh.2)
        rcases hw with e | e
        · subst e
          have n3 : decide (("and" : Str) = "and") = true := by decide
          refine q_when (b := decide (("and" : Str) = "and")) (tw _ _ _ rfl) (fun _ H4 e4 => ?_) (fun z => by rw [n3] at z; cases z)
          refine s_ret (ev_is (ev_andV (c1 H4 e4) fun _ => c2 H4 e4) (w := .bl (soOf (dnOf ds) (wdOf ws) (.bi "and" t u))) ?_) fun H5 e5 => k H5 ((e03.trans e4).trans e5)
          show V.bl _ = V.bl (if ("and" : Str) = "le" then _ else if ("and" : Str) = "and" then _ else _)
          rw [if_neg nl, if_pos rfl]
        · subst e
          have n3 : decide (("or" : Str) = "and") = false := by decide
          refine q_when (b := decide (("or" : Str) = "and")) (tw _ _ _ rfl) (fun z => by rw [n3] at z; cases z) (fun _ H4 e4 => ?_)
          refine s_ret (ev_is (ev_orV (c1 H4 e4) fun _ => c2 H4 e4) (w := .bl (soOf (dnOf ds) (wdOf ws) (.bi "or" t u))) ?_) fun H5 e5 => k H5 ((e03.trans e4).trans e5)
          show V.bl _ = V.bl (if ("or" : Str) = "le" then _ else if ("or" : Str) = "and" then _ else _)
          rw [if_neg nl, if_neg (of_decide_eq_false n3)]
theorem ok_day_of {f f1 f2 f3 f4 f5 : Addr} {fd fd1 fd2 fd3 fd4 fd5 : FuncData} (F : Fun K "day_of" "day_of" s_day_of f fd) (T : Txt P w K mg C SZ SY) (c_need_formula : Cal P w K mg base "need_formula" f1 fd1 ["value"] 4 sp_need_formula) (c_need_days : Cal P w K mg base "need_days" f2 fd2 ["value"] 3 sp_need_days)
    (c_need_world : Cal P w K mg base "need_world" f3 fd3 ["value"] 3 (sp_need_world K C)) (c_need_known : Cal P w K mg base "need_known" f4 fd4 ["told", "days", "world"] 5 sp_need_known) (c_reckoned : Cal P w K mg base "reckoned" f5 fd5 ["formula", "days", "rules"] 15 (sp_reckoned K C 10)) : FnOk P w K mg base CX0 16 f fd ["formula", "days", "world"] (sp_day_of K C) := by
  refine F.ok sc_day_of (fun vs H Q E h => ?_) (fun cdv A outer s H vs Q E hr h => ?_)
  · obtain ⟨x, t, d, ds, r, ws, rfl, _⟩ := h
    rfl
  · obtain ⟨x, t, d, ds, r, ws, rfl, ht, hF, hdep, hz, hds, hws, hh, k⟩ := h
    refine ⟨_, (pss_cons (ps_expr (pe_call c_need_formula.ok (hr.mono (by decide)) (by rfl) c_need_formula.mgx c_need_formula.kp c_need_formula.bd .nil pass0 (pa_cons (pv 0) pa_nil))) (pss_cons (ps_expr (pe_call c_need_days.ok (hr.mono (by decide)) (by rfl) c_need_days.mgx c_need_days.kp c_need_days.bd .nil pass0 (pa_cons (pv 1) pa_nil))) (pss_cons (ps_expr (pe_call c_need_world.ok (hr.mono (by decide)) (by rfl) c_need_world.mgx c_need_world.kp c_need_world.bd .nil pass0 (pa_cons (pv 2) pa_nil))) (pss_cons (ps_expr (pe_call c_need_known.ok (hr.mono (by decide)) (by rfl) c_need_known.mgx c_need_known.kp c_need_known.bd .nil pass0 (pa_cons (pv 0) (pa_cons (pv 1) (pa_cons (pv 2) pa_nil))))) (pss_one (ps_ret (pe_call c_reckoned.ok (hr.mono (by decide)) (by rfl) c_reckoned.mgx c_reckoned.kp c_reckoned.bd .nil pass0 (pa_cons (pv 0) (pa_cons (pv 1) (pa_cons (pv 2) pa_nil)))))))))), ?_⟩
    refine q_drop (ev_call (ea_cons (ev_var rfl) ea_nil) (spv_need_formula ht (by omega) hF)) fun H1 e1 => ?_
    refine q_drop (ev_call (ea_cons (ev_var rfl) ea_nil) (spv_need_days (hds.mono e1))) fun H2 e2 => ?_
    refine q_drop (ev_call (ea_cons (ev_var rfl) ea_nil) (spv_need_world (hws.mono (e1.trans e2)))) fun H3 e3 => ?_
    have e03 := (e1.trans e2).trans e3
    refine q_drop (ev_call (ea_cons (ev_var rfl) (ea_cons (ev_var rfl) (ea_cons (ev_var rfl) ea_nil))) (spv_need_known (ht.mono (Tu.ex e03)) hF.okD (IsF.nice hF) hz (hds.mono e03).1 (fun n hn => some_keyed (has_nms hh hF.okD (IsF.nice hF) n hn)) (hws.mono e03).1 (fun n hn => some_keyed (has_rls hh hF.okD (IsF.nice hF) n hn)))) fun H4 e4 => ?_
    have e04 := e03.trans e4
    exact s_ret (ev_call (ea_cons (ev_var rfl) (ea_cons (ev_var rfl) (ea_cons (ev_var rfl) ea_nil))) (spv_reckoned (ht.mono (Tu.ex e04)) hF hdep (hds.mono e04) (hws.mono e04) hh)) fun H5 e5 => k H5 (e04.trans e5)
theorem ok_holds {f f1 f2 f3 f4 f5 : Addr} {fd fd1 fd2 fd3 fd4 fd5 : FuncData} (F : Fun K "holds" "holds" s_holds f fd) (T : Txt P w K mg C SZ SY) (c_need_saying : Cal P w K mg base "need_saying" f1 fd1 ["value"] 5 sp_need_saying) (c_need_days : Cal P w K mg base "need_days" f2 fd2 ["value"] 3 sp_need_days)
    (c_need_world : Cal P w K mg base "need_world" f3 fd3 ["value"] 3 (sp_need_world K C)) (c_need_known : Cal P w K mg base "need_known" f4 fd4 ["told", "days", "world"] 5 sp_need_known) (c_is_so : Cal P w K mg base "is_so" f5 fd5 ["saying", "days", "rules"] 26 (sp_is_so K C 10)) : FnOk P w K mg base CX0 27 f fd ["saying", "days", "world"] (sp_holds K C) := by
  refine F.ok sc_holds (fun vs H Q E h => ?_) (fun cdv A outer s H vs Q E hr h => ?_)
  · obtain ⟨x, t, d, ds, r, ws, rfl, _⟩ := h
    rfl
  · obtain ⟨x, t, d, ds, r, ws, rfl, ht, hS, hdep, hz, hds, hws, hh, k⟩ := h
    refine ⟨_, (pss_cons (ps_expr (pe_call c_need_saying.ok (hr.mono (by decide)) (by rfl) c_need_saying.mgx c_need_saying.kp c_need_saying.bd .nil pass0 (pa_cons (pv 0) pa_nil))) (pss_cons (ps_expr (pe_call c_need_days.ok (hr.mono (by decide)) (by rfl) c_need_days.mgx c_need_days.kp c_need_days.bd .nil pass0 (pa_cons (pv 1) pa_nil))) (pss_cons (ps_expr (pe_call c_need_world.ok (hr.mono (by decide)) (by rfl) c_need_world.mgx c_need_world.kp c_need_world.bd .nil pass0 (pa_cons (pv 2) pa_nil))) (pss_cons (ps_expr (pe_call c_need_known.ok (hr.mono (by decide)) (by rfl) c_need_known.mgx c_need_known.kp c_need_known.bd .nil pass0 (pa_cons (pv 0) (pa_cons (pv 1) (pa_cons (pv 2) pa_nil))))) (pss_one (ps_ret (pe_call c_is_so.ok (hr.mono (by decide)) (by rfl) c_is_so.mgx c_is_so.kp c_is_so.bd .nil pass0 (pa_cons (pv 0) (pa_cons (pv 1) (pa_cons (pv 2) pa_nil)))))))))), ?_⟩
    refine q_drop (ev_call (ea_cons (ev_var rfl) ea_nil) (spv_need_saying ht (by omega) hS)) fun H1 e1 => ?_
    refine q_drop (ev_call (ea_cons (ev_var rfl) ea_nil) (spv_need_days (hds.mono e1))) fun H2 e2 => ?_
    refine q_drop (ev_call (ea_cons (ev_var rfl) ea_nil) (spv_need_world (hws.mono (e1.trans e2)))) fun H3 e3 => ?_
    have e03 := (e1.trans e2).trans e3
    refine q_drop (ev_call (ea_cons (ev_var rfl) (ea_cons (ev_var rfl) (ea_cons (ev_var rfl) ea_nil))) (spv_need_known (ht.mono (Tu.ex e03)) hS.okD (IsS.nice hS) hz (hds.mono e03).1 (fun n hn => some_keyed (has_nms hh hS.okD (IsS.nice hS) n hn)) (hws.mono e03).1 (fun n hn => some_keyed (has_rls hh hS.okD (IsS.nice hS) n hn)))) fun H4 e4 => ?_
    have e04 := e03.trans e4
    exact s_ret (ev_call (ea_cons (ev_var rfl) (ea_cons (ev_var rfl) (ea_cons (ev_var rfl) ea_nil))) (spv_is_so (ht.mono (Tu.ex e04)) hS hdep hdep (hds.mono e04) (hws.mono e04) hh)) fun H5 e5 => k H5 (e04.trans e5)
end
end K22
end
section
set_option maxHeartbeats 4000000
namespace K22
open PySem L2 Evl G TM TD
def wo (H : Hp) (p : Addr) : Hp := fun b => if b = p then none else H b
theorem wo_ne {H : Hp} {p b : Addr} (h : b ≠ p) : wo H p b = H b := by unfold wo; rw [if_neg h]
theorem wo_at {H : Hp} {p : Addr} : wo H p p = none := by unfold wo; rw [if_pos rfl]
theorem wo_ex {H : Hp} {p : Addr} : Ex (wo H p) H := fun b o h => by
  by_cases hb : b = p
  · subst hb; rw [wo_at] at h; cases h
  · rwa [wo_ne hb] at h
theorem wo_mono {H H' : Hp} {p : Addr} (e : Ex H H') : Ex (wo H p) (wo H' p) := fun b o h => by
  by_cases hb : b = p
  · subst hb; rw [wo_at] at h; cases h
  · rw [wo_ne hb] at h ⊢; exact e b o h
theorem wo_sub {H H' : Hp} {p : Addr} (e : Ex (wo H p) H') : Ex (wo H p) (wo H' p) := fun b o h => by
  by_cases hb : b = p
  · subst hb; rw [wo_at] at h; cases h
  · have := e b o h
    rwa [wo_ne hb]
theorem wo_upd {H : Hp} {p : Addr} {o : HO} : Ex (wo H p) (upd H p o) := fun b u h => by
  by_cases hb : b = p
  · subst hb; rw [wo_at] at h; cases h
  · rw [upd_ne hb]; rwa [wo_ne hb] at h
theorem wo_fresh {H H' : Hp} {p q : Addr} {o : HO} (hp : H p = some o) (e : Ex (wo H p) H') (h : H' q = none) (hp' : ∃ o, H' p = some o) : H q = none := by
  by_cases hq : q = p
  · subst hq; obtain ⟨o, ho⟩ := hp'; rw [ho] at h; cases h
  · cases hh : H q with
    | none => rfl
    | some u => have := e q u (by rw [wo_ne hq]; exact hh); rw [h] at this; cases this
def PotOk (a b : Int) : Prop := 0 ≤ a ∧ 0 ≤ b ∧ b < 4294967296
def PotAt (H : Hp) (p : Addr) : Prop := ∃ a b, PotOk a b ∧ H p = some (.lst [.int a, .int b])
def sp_pot (K : PySem.W.Frag) : Sp := fun vs H Q _ => ∃ (s : Addr) (ns : List Int) (k : Int), vs = [.ref s, .int k] ∧ SqL K H s (ns.map V.int) ∧ 0 ≤ k ∧ k ≤ 100 ∧ ∀ p H2, H p = none → Ex H H2 → PotAt H2 p → Q (.ref p) H2
def sp_draw : Sp := fun vs H Q _ => ∃ p n, vs = [.ref p, .int n] ∧ PotAt H p ∧ 0 < n ∧ n < 1073741824 ∧ ∀ d H2, 0 ≤ d → d < n → Ex (wo H p) H2 → PotAt H2 p → Q (.int d) H2
def sp_pick (K : PySem.W.Frag) : Sp := fun vs H Q _ => ∃ (p s : Addr) (xs : List V), vs = [.ref p, .ref s] ∧ PotAt H p ∧ SqL K (wo H p) s xs ∧ 0 < xs.length ∧ xs.length ≤ 1000 ∧ ∀ (i : Nat) (v : V) (H2 : Hp), xs[i]? = some v → Ex (wo H p) H2 → PotAt H2 p → Q v H2
theorem fmod_pos {a b : Int} (h : 0 < b) : 0 ≤ a.fmod b ∧ a.fmod b < b := by
  rw [Int.fmod_eq_emod_of_nonneg _ (by omega)]
  exact ⟨Int.emod_nonneg _ (by omega), Int.emod_lt_of_pos _ h⟩
section
variable {P : Program} {w : World} {K : PySem.W.Frag} {mg : Str → Option Value} {base : Heap} {C SZ SY : Addr}
theorem cut_one (ns : List Int) : cutV (ns.map V.int) none (some 1) = (ns.take 1).map V.int := by
  cases ns with
  | nil => rfl
  | cons a l =>
    show ((((a :: l).map V.int).drop 0).take (min 1 ((a :: l).map V.int).length - 0)) = _
    rw [List.length_map, List.length_cons, Nat.min_eq_left (by omega)]
    rfl
theorem ok_pot {f : Addr} {fd : FuncData} (F : Fun K "_law_pot" "_law_pot" s__law_pot f fd) (T : Txt P w K mg C SZ SY) : FnOk P w K mg base CX0 1 f fd ["_law_script", "_law_k"] (sp_pot K) := by
  refine F.ok sc__law_pot (fun vs H Q E h => ?_) (fun cdv A outer s H vs Q E hr h => ?_)
  · obtain ⟨s, ns, k, rfl, _⟩ := h
    rfl
  · obtain ⟨s, ns, k, rfl, hs, hk0, hk1, kq⟩ := h
    refine ⟨_, (pss_cons (ps_set (i := 2) sc__law_pot.nd rfl (Or.inl rfl) (pe_op op_add (pe_op op_add (pe_op op_mul pe_int (pv 1)) pe_int) (pe_op op_modN (pe_callB (sumL (K := K) rfl rfl) (by rfl) T.b_sum (by decide +kernel) (pa_cons (pe_slice sl_list (pv 0) po_none (po_some pe_int)) pa_nil)) pe_int))) (pss_cons (ps_if (pt_cmpR op_lt (pv 1) (pe_callB (lenS (K := K) rfl) (by rfl) T.b_len (by decide +kernel) (pa_cons (pv 0) pa_nil)) (nomark _)) (pss_one (ps_set (i := 2) sc__law_pot.nd rfl (Or.inl rfl) (pe_callB call_abs (by rfl) T.b_abs (by decide +kernel) (pa_cons (pe_ix (ixL (K := K) rfl) (pv 0) (pv 1) (fun _ _ => rfl)) pa_nil)))) pss_nil) (pss_one (ps_ret (pe_lst (pa_cons (pe_callB (call_max2 rfl) (by rfl) T.b_max (by decide +kernel) (pa_cons pe_int (pa_cons (pe_op op_sub (pv 2) (pe_op op_pow pe_int pe_int)) pa_nil))) (pa_cons (pe_op op_add (pe_op op_modN (pe_op op_mul (pe_callTy call_int1 (by rfl) T.b_int (by decide +kernel) (pa_cons (pe_op op_add (pe_op op_modN (pe_callTy call_int1 (by rfl) T.b_int (by decide +kernel) (pa_cons (pv 2) pa_nil)) pe_int) pe_int) pa_nil)) (pe_op op_pow (pe_op op_add (pe_op op_mul pe_int (pv 1)) pe_int) pe_int)) pe_int) pe_int) pa_nil))))))), ?_⟩
    have m0 := fmod_pos (a := (ns.take 1).sum) (show (0 : Int) < 1000003 by decide)
    refine q_asg (v := .int (73 * k + 53 + (ns.take 1).sum.fmod 1000003)) (ev_op (ev_op (ev_op ev_c (ev_var rfl) (rv_I (.inl ⟨by decide, by decide⟩))) ev_c rv_I0) (ev_op (ev_cbL (el_eq (el_sl (ev_var rfl) eo_none (eo_some ev_c) hs) (cut_one ns)) fun p H1 e h1 => rc_sum (sq_of h1)) ev_c (rv_I (by decide))) rv_I0) fun H1 e1 => ?_
    have hcell : ∃ c : Int, 0 ≤ c ∧ ∀ (D : Ends) (tz : TS), (∀ H2, Ex H1 H2 → tz D [some (.ref s), some (.int k), some (.int c)] H2) → tSeq (tIfS (tTest (tOp (rI0 fun i j => .bl (decide (i < j))) (tVar 1) (tCB (fun xs H Q => ∃ p ys, xs = [.ref p] ∧ (SqL K H p ys ∨ SqT K H p ys) ∧ Q (.int (ys.length : Int)) H) (tCons (tVar 0) tNil))))
        (tAsg (tCB (fun xs H Q => ∃ i, xs = [.int i] ∧ Q (.int (if i < 0 then -i else i)) H) (tCons (tOp (rIxL K) (tVar 0) (tVar 1)) tNil)) (gName 2)) tNext) tz D [some (.ref s), some (.int k), some (.int (73 * k + 53 + (ns.take 1).sum.fmod 1000003))] H1 := by
      by_cases hlt : k < (ns.length : Int)
      · refine ⟨if ns.getD k.toNat 0 < 0 then - ns.getD k.toNat 0 else ns.getD k.toNat 0, by split <;> omega, fun D tz kz => ?_⟩
        exact q_ifAsg (b := true) (et_test (ev_op (ev_var rfl) (ev_cb (ea_cons (ev_var rfl) ea_nil) (rc_len (.inl (ex_l e1 hs)) (by rw [List.length_map]))) (rv_res rv_I0 (congrArg V.bl (decide_eq_true hlt))))) (fun _ => ev_cb (ea_cons (ev_op (ev_var rfl) (ev_var rfl) (rv_ixL (ex_l e1 hs) (atI_int hk0 hlt))) ea_nil) rc_abs) (fun q => nomatch q) kz
      · refine ⟨73 * k + 53 + (ns.take 1).sum.fmod 1000003, by omega, fun D tz kz => ?_⟩
        exact q_ifAsg (b := false) (et_test (ev_op (ev_var rfl) (ev_cb (ea_cons (ev_var rfl) ea_nil) (rc_len (.inl (ex_l e1 hs)) (by rw [List.length_map]))) (rv_res rv_I0 (congrArg V.bl (decide_eq_false hlt))))) (fun q => nomatch q) (fun _ => rfl) kz
    obtain ⟨c, hc, ec⟩ := hcell
    refine ec _ _ fun H2 e2 => ?_
    have m1 := fmod_pos (a := c) (show (0 : Int) < 2147483549 by decide)
    have k3 : -(2 ^ 64) < (2 * k + 3) ^ (3 : Int).toNat ∧ (2 * k + 3) ^ (3 : Int).toNat < 2 ^ 64 := by
      have h2 : (2 * k + 3) ^ (3 : Int).toNat = (2 * k + 3) * (2 * k + 3) * (2 * k + 3) := by
        show (2 * k + 3) ^ 3 = _
        rw [Int.pow_succ, Int.pow_succ, Int.pow_succ, Int.pow_zero, Int.one_mul]
      have a1 : 0 ≤ (2 * k + 3) * (2 * k + 3) := Int.mul_nonneg (by omega) (by omega)
      have a2 : (2 * k + 3) * (2 * k + 3) ≤ 203 * 203 := Int.mul_le_mul (by omega) (by omega) (by omega) (by omega)
      have a3 : 0 ≤ (2 * k + 3) * (2 * k + 3) * (2 * k + 3) := Int.mul_nonneg a1 (by omega)
      have a4 : (2 * k + 3) * (2 * k + 3) * (2 * k + 3) ≤ 203 * 203 * 203 := Int.mul_le_mul a2 (by omega) (by omega) (by omega)
      rw [h2]
      omega
    refine s_retL (el_lst (ea_cons (ev_cb (ea_cons ev_c (ea_cons (ev_op (ev_var rfl) (ev_op ev_c ev_c (rv_I ⟨by decide, by decide, by decide⟩)) rv_I0) ea_nil)) rc_max2) (ea_cons (ev_op (ev_op (ev_op (ev_cb (ea_cons (ev_op (ev_op (ev_cb (ea_cons (ev_var rfl) ea_nil) rc_int1) ev_c (rv_I (by decide))) ev_c rv_I0) ea_nil) rc_int1) (ev_op (ev_op (ev_op ev_c (ev_var rfl) (rv_I (.inl ⟨by decide, by decide⟩))) ev_c rv_I0) ev_c (rv_I ⟨by decide, by decide, by omega⟩)) (rv_I (.inr k3))) ev_c (rv_I (by decide))) ev_c rv_I0) ea_nil)) (by show 2 ≤ 100000; decide)) fun p H3 hp e3 h3 => ?_
    refine kq p H3 (fresh_back (e1.trans e2) hp) ((e1.trans e2).trans e3) ⟨_, _, ⟨?_, ?_, ?_⟩, h3⟩
    · split <;> omega
    · have := fmod_pos (a := (c.fmod 2147483549 + 53) * (2 * k + 3) ^ (3 : Int).toNat) (show (0 : Int) < 2147483477 by decide)
      omega
    · have := fmod_pos (a := (c.fmod 2147483549 + 53) * (2 * k + 3) ^ (3 : Int).toNat) (show (0 : Int) < 2147483477 by decide)
      omega
theorem ok_draw {f : Addr} {fd : FuncData} (F : Fun K "_law_draw" "_law_draw" s__law_draw f fd) (T : Txt P w K mg C SZ SY) : FnOk P w K mg base CX0 1 f fd ["_law_pot_here", "_law_many"] sp_draw := by
  refine F.ok sc__law_draw (fun vs H Q E h => ?_) (fun cdv A outer s H vs Q E hr h => ?_)
  · obtain ⟨p, n, rfl, _⟩ := h
    rfl
  · obtain ⟨p, n, rfl, ⟨a, b, ⟨a0, b0, b1⟩, hp⟩, n0, n1, k⟩ := h
    have hq : SqL K H p [.int a, .int b] := sq_of hp
    refine ⟨_, (pss_cons (ps_if (pt_cmpR op_gt (pe_ix (ixL (K := K) rfl) (pv 0) pe_int (fun _ _ => rfl)) pe_int (nomark _)) (pss_cons (ps_asg (pe_callB call_divmod (by rfl) T.b_divmod (by decide +kernel) (pa_cons (pe_ix (ixL (K := K) rfl) (pv 0) pe_int (fun _ _ => rfl)) (pa_cons (pv 1) pa_nil))) (pg_tup (by rfl) (pgs_cons (pg_sub (pv 0) pe_int set_list) (pgs_cons (pg_name (i := 2) sc__law_draw.nd rfl (Or.inl rfl)) pgs_nil)))) (pss_one (ps_ret (pv 2)))) pss_nil) (pss_cons (ps_asg (pe_op op_modN (pe_callTy call_int1 (by rfl) T.b_int (by decide +kernel) (pa_cons (pe_op op_add (pe_op op_mul (pe_ix (ixL (K := K) rfl) (pv 0) pe_int (fun _ _ => rfl)) pe_int) pe_int) pa_nil)) pe_int) (pg_sub (pv 0) pe_int set_list)) (pss_one (ps_ret (pe_op op_modN (pe_callTy call_int1 (by rfl) T.b_int (by decide +kernel) (pa_cons (pe_op op_fdivN (pe_op op_modN (pe_callTy call_int1 (by rfl) T.b_int (by decide +kernel) (pa_cons (pe_op op_mul (pe_ix (ixL (K := K) rfl) (pv 0) pe_int (fun _ _ => rfl)) (pe_ix (ixL (K := K) rfl) (pv 0) pe_int (fun _ _ => rfl))) pa_nil)) pe_int) pe_int) pa_nil)) (pv 1)))))), ?_⟩
    refine q_when (et_test (ev_op (ev_op (ev_var rfl) ev_c (rv_ixL (v := .int a) hq rfl)) ev_c rv_I0)) (fun hb H1 e1 => ?_) (fun hb H1 e1 => ?_)
    · have ha : 0 < a := of_decide_eq_true hb
      refine q_asgG (eu_divmod (ev_op (ev_var rfl) ev_c (rv_ixL (v := .int a) (ex_l e1 hq) rfl)) (ev_var rfl) n0 n1) fun u H2 hu e2 h2 => ?_
      have e3 := e1.trans e2
      have hp2 := e3 p _ hp
      refine ⟨u, _, rfl, st_of h2, rfl, _, _, rfl, .ref p, rfl, ⟨p, [.int a, .int b], 0, 0, rfl, rfl, hp2, rfl, ?_⟩⟩
      refine ⟨_, _, rfl, rfl, ?_⟩
      refine s_ret (ev_var rfl) fun H3 e4 => ?_
      refine k _ H3 (Int.emod_nonneg _ (by omega)) (Int.emod_lt_of_pos _ n0) ((wo_mono e3).trans (wo_upd.trans e4)) ⟨a / n, b, ⟨Int.ediv_nonneg a0 (by omega), b0, b1⟩, e4 p _ upd_same⟩
    · have hq1 := ex_l e1 hq
      have m1 := fmod_pos (a := b * 48271 + 14897) (show (0 : Int) < 2147483587 by decide)
      refine q_setL (xs := [.int a, .int b]) (j := 1) (v := .int ((b * 48271 + 14897).fmod 2147483587)) (e1 p _ hp) (ev_op (ev_cb (ea_cons (ev_op (ev_op (ev_op (ev_var rfl) ev_c (rv_ixL (v := .int b) hq1 rfl)) ev_c (rv_I (.inr ⟨by decide, by decide⟩))) ev_c rv_I0) ea_nil) rc_int1) ev_c (rv_I (by decide))) (ev_var rfl) ev_c (by show 1 < 2; decide) fun H2 e2 => ?_
      generalize hb' : (b * 48271 + 14897).fmod 2147483587 = b' at m1 ⊢
      have hp3 : SqL K (upd H2 p (.lst ([.int a, .int b].set 1 (.int b')))) p [.int a, .int b'] := sq_of upd_same
      have m2 := fmod_pos (a := ((b' * b').fmod 2147483549).fdiv 11) n0
      refine s_ret (ev_op (ev_cb (ea_cons (ev_op (ev_op (ev_cb (ea_cons (ev_op (ev_op (ev_var rfl) ev_c (rv_ixL (v := .int b') hp3 rfl)) (ev_op (ev_var rfl) ev_c (rv_ixL (v := .int b') hp3 rfl)) (rv_I (.inl ⟨by omega, by omega⟩))) ea_nil) rc_int1) ev_c (rv_I (by decide))) ev_c (rv_I ⟨by decide, by decide⟩)) ea_nil) rc_int1) (ev_var rfl) (rv_I (by omega))) fun H3 e3 => ?_
      exact k _ H3 m2.1 m2.2 ((wo_mono (e1.trans e2)).trans (wo_upd.trans e3)) ⟨a, b', ⟨a0, m1.1, by omega⟩, e3 p _ upd_same⟩
theorem ok_pick {f f1 : Addr} {fd fd1 : FuncData} (F : Fun K "_law_pick" "_law_pick" s__law_pick f fd) (T : Txt P w K mg C SZ SY) (c__law_draw : Cal P w K mg base "_law_draw" f1 fd1 ["_law_pot_here", "_law_many"] 1 sp_draw) : FnOk P w K mg base CX0 2 f fd ["_law_pot_here", "_law_some_here"] (sp_pick K) := by
  refine F.ok sc__law_pick (fun vs H Q E h => ?_) (fun cdv A outer s H vs Q E hr h => ?_)
  · obtain ⟨p, s, xs, rfl, _⟩ := h
    rfl
  · obtain ⟨p, l, xs, rfl, hp, hs, h0, h1, k⟩ := h
    refine ⟨_, (pss_one (ps_ret (pe_ix (ixL (K := K) rfl) (pv 1) (pe_call c__law_draw.ok (hr.mono (by decide)) (by rfl) c__law_draw.mgx c__law_draw.kp c__law_draw.bd .nil pass0 (pa_cons (pv 0) (pa_cons (pe_callB (lenS (K := K) rfl) (by rfl) T.b_len (by decide +kernel) (pa_cons (pv 1) pa_nil)) pa_nil))) (fun _ _ => rfl)))), ?_⟩
    refine ⟨_, rfl, (ea_cons (ev_var rfl) (ea_cons (ev_cb (ea_cons (ev_var rfl) ea_nil) (rc_len (.inl (ex_l wo_ex hs)) rfl)) ea_nil)) H (Ex.refl H) _ fun H1 e1 => ?_⟩
    have hp1 : PotAt H1 p := by obtain ⟨a, b, h, q⟩ := hp; exact ⟨a, b, h, e1 p _ q⟩
    refine ⟨p, (xs.length : Int), rfl, hp1, by omega, by omega, fun d H2 d0 d1 e2 hp2 => ?_⟩
    obtain ⟨i, rfl⟩ : ∃ i : Nat, d = (i : Int) := ⟨d.toNat, by omega⟩
    have hi : i < xs.length := by omega
    have e3 : Ex (wo H p) H2 := (wo_mono e1).trans e2
    exact ⟨l, xs, (i : Int), xs[i], rfl, rfl, ex_l e3 hs, atI_nat (List.getElem?_eq_getElem hi), k i _ H2 (List.getElem?_eq_getElem hi) e3 hp2⟩
end
section
variable {K : PySem.W.Frag} {σ : L2.St} {H : Hp} {p : Addr} {i : Nat} {tA : TA} {tn : TE} {Q : VK} {E : XK}
theorem PotAt.mono {H' : Hp} (h : PotAt H p) (e : Ex H H') : PotAt H' p := by obtain ⟨a, b, q, r⟩ := h; exact ⟨a, b, q, e p _ r⟩
theorem PotAt.some (h : PotAt H p) : ∃ o, H p = some o := by obtain ⟨a, b, q, r⟩ := h; exact ⟨_, r⟩
theorem pickC {xs : List V} (hp : PotAt H p) (hv : σ[i]? = some (some (.ref p))) (ha : EvA tA σ (wo H p) xs) (h0 : 0 < xs.length) (h1 : xs.length ≤ 1000) (k : ∀ (j : Nat) (v : V) (H2 : Hp), xs[j]? = some v → Ex (wo H p) H2 → PotAt H2 p → Q v H2) :
    tCall (sp_pick K) [] E (tCons (tVar i) (tCons (tLst tA) tNil)) σ H Q := ⟨.ref p, hv, ha H wo_ex _ fun H1 e1 => ⟨sz_of (by omega), fun s hs => by
      have hp1 := hp.mono e1
      obtain ⟨o, ho⟩ := hp1.some
      have hne : s ≠ p := (ne_of_none ho hs).symm
      exact ⟨p, s, xs, rfl, hp1.mono (Ex.new hs), sq_of (by rw [wo_ne hne]; exact upd_same), h0, h1, fun j v H2 hj e2 h2 => k j v H2 hj ((wo_mono (e1.trans (Ex.new hs))).trans e2) h2⟩⟩⟩
theorem drawC {n : Int} (hp : PotAt H p) (hv : σ[i]? = some (some (.ref p))) (hn : Ev tn σ (wo H p) (.int n)) (h0 : 0 < n) (h1 : n < 1073741824) (k : ∀ d H2, 0 ≤ d → d < n → Ex (wo H p) H2 → PotAt H2 p → Q (.int d) H2) :
    tCall sp_draw [] E (tCons (tVar i) (tCons tn tNil)) σ H Q := ⟨.ref p, hv, hn H wo_ex _ fun H1 e1 => ⟨p, n, rfl, hp.mono e1, h0, h1, fun d H2 d0 d1 e2 h2 => k d H2 d0 d1 ((wo_mono e1).trans e2) h2⟩⟩
theorem q_parL {D : Ends} {tz : TS} {i j : Nat} {ta tb : TE} {xs : List V} {w : V} (h : EvL ta σ H xs) (hb : ∀ H1, Ex H H1 → Ev tb σ H1 w) (k : ∀ p H1, H p = none → Ex H H1 → H1 p = some (.lst xs) → tz D ((σ.set i (some (.ref p))).set j (some w)) H1) :
    tSeq (tPar i j (tCons ta (tCons tb tNil))) tz D σ H := h H (Ex.refl H) _ fun p H1 hp e1 h1 => (hb H1 e1) H1 (Ex.refl _) _ fun H2 e2 => ⟨_, _, rfl, k p H2 hp (e1.trans e2) (e2 p _ h1)⟩
end
end K22
end
section
set_option maxHeartbeats 2000000
namespace SX
open PySem PySem.Spec PyProof.Rows L2
/-- the signs of a text -/
def signs (z : Str) : List Str := z.cps.toList.map fun c => ⟨#[c]⟩
theorem signs_vals {z : Str} {acc : Array Value} (h : ItemsOf (SignAt z) acc z.cps.size) : Vals ((signs z).map V.str) acc.toList := by
  have key : ∀ (n : Nat) (cs : List Nat) (us : List Value), us.length = cs.length → (∀ (i : Nat) (v : Value), us[i]? = some v → ∃ c t, cs[i]? = some c ∧ v = .str ⟨#[c]⟩ t) → Vals ((cs.map fun c => (⟨#[c]⟩ : Str)).map V.str) us := by
    intro n cs
    induction cs with
    | nil =>
      intro us hl _
      cases us with
      | nil => exact .nil
      | cons u us => cases hl
    | cons c cs ih =>
      intro us hl hh
      cases us with
      | nil => cases hl
      | cons u us =>
        obtain ⟨c', t, e1, e2⟩ := hh 0 u rfl
        have : c' = c := by simpa using e1.symm
        subst this
        refine .cons ⟨t, e2⟩ (ih us (by simpa using hl) fun i v hi => ?_)
        obtain ⟨d, t', f1, f2⟩ := hh (i + 1) v (by simpa using hi)
        exact ⟨d, t', by simpa using f1, f2⟩
  refine key 0 z.cps.toList acc.toList (by rw [Array.length_toList, Array.length_toList]; exact h.1) fun i v hi => ?_
  rw [Array.getElem?_toList] at hi
  obtain ⟨c, t, e1, e2⟩ := h.2 i v hi
  exact ⟨c, t, by rw [Array.getElem?_toList]; exact e1, e2⟩
def rListStr : List V → Hp → VK → Prop := fun xs H Q => ∃ z, xs = [V.str z] ∧ z.cps.size ≤ sizeLine ∧ ∀ l, H l = none → Q (.ref l) (upd H l (.lst ((signs z).map V.str)))
theorem cr_listStr {X : Cx} (hc : X.calm = true) : CallR X (.type "list") rListStr := by
  intro pins s σ H xs us Q I r h
  obtain ⟨z, rfl, hz, q⟩ := h
  obtain ⟨u, rfl, rx⟩ := vals1 r
  obtain ⟨t, rfl⟩ := rx
  refine call_list_str (I.ok.hd hc) z t (fun h' tk acc c k e hacc => ?_) hz
  have hl : ((signs z).map V.str).length ≤ sizeLine := by unfold signs; rw [List.length_map, List.length_map, Array.length_toList]; exact hz
  exact ⟨.ref s.heap.objs.size, _, I.laid (t' := tk) k (Nat.le_refl _) (show ObjOk X.prog X.w _ h' _ (.lst ((signs z).map V.str)) from ⟨hl, acc.toList, c, signs_vals hacc, e⟩), rfl, q _ (I.hok.fresh (Nat.le_refl _))⟩
end SX
end
section
set_option maxHeartbeats 4000000
namespace K22
open PySem L2 Evl G TM TD
section
variable {K : PySem.W.Frag} {σ : L2.St} {H : Hp} {p C : Addr} {i j i0 : Nat} {tA tr : TA} {tn ta tb tl te : TE} {Q : VK} {E : XK} {D : Ends} {tz : TS} {xs : List V} {vs : List Nat} {QA : List V → Hp → Prop} {ns : List Int} {r : R2} {v : V}
theorem ac_v (h : Ev te σ H v) (k : ∀ H1, Ex H H1 → tr σ H1 fun xs H2 => QA (v :: xs) H2) : tCons te tr σ H QA := h H (Ex.refl H) _ k
theorem ac_nil (k : QA [] H) : tNil σ H QA := k
theorem ac_k (h : te σ H fun v H1 => tr σ H1 fun xs H2 => QA (v :: xs) H2) : tCons te tr σ H QA := h
theorem op_k (h : ta σ H fun x H1 => tb σ H1 fun y H2 => r x y H2 Q) : tOp r ta tb σ H Q := h
theorem lst_k (h : tA σ H fun vs H1 => vs.length ≤ sizeLine ∧ ∀ p, H1 p = none → Q (.ref p) (upd H1 p (.lst vs))) : tLst tA σ H Q := h
theorem tup_k (h : tA σ H fun vs H1 => vs.length ≤ sizeLine ∧ ∀ p, H1 p = none → Q (.ref p) (upd H1 p (.tup vs))) : tTup tA σ H Q := h
theorem ret_k (h : te σ H D.rt) : tRet te D σ H := h
theorem asg_k (h : te σ H fun v H1 => tz D (σ.set i (some v)) H1) : tSeq (tAsg te (gName i)) tz D σ H := h
theorem v_k {v : V} (h : Ev te σ H v) (k : ∀ H1, Ex H H1 → Q v H1) : te σ H Q := h H (Ex.refl H) _ k
theorem if_k {c : TT} (h : c σ H fun b H1 => if b = true then ta σ H1 Q else tb σ H1 Q) : tIf c ta tb σ H Q := h
theorem call_k {sp : Sp} {dvs : List V} (h : tA σ H fun vs H1 => sp (vs ++ dvs) H1 Q E) : tCall sp dvs E tA σ H Q := h
theorem bm_k {Tn : String} {rm : V → List V → Hp → VK → Prop} {to : TE} {t : TA} (h : to σ H fun x H1 => tyV K Tn x H1 ∧ t σ H1 fun xs H2 => rm x xs H2 Q) : tBM K Tn rm to t σ H Q := h
theorem drop_k (h : te σ H fun _ H1 => D.nx σ H1) : tDrop te D σ H := h
theorem q_par2L {xs ys : List V} (h : EvL ta σ H xs) (hb : ∀ H1, Ex H H1 → EvL tb σ H1 ys) (k : ∀ p q H1, H p = none → H q = none → p ≠ q → Ex H H1 → H1 p = some (.lst xs) → H1 q = some (.lst ys) → tz D ((σ.set i (some (.ref p))).set j (some (.ref q))) H1) :
    tSeq (tPar i j (tCons ta (tCons tb tNil))) tz D σ H := h H (Ex.refl H) _ fun p H1 hp e1 h1 => (hb H1 e1) H1 (Ex.refl _) _ fun q H2 hq e2 h2 => ⟨_, _, rfl, k p q H2 hp (fresh_back e1 hq) (fun z => by subst z; rw [h1] at hq; cases hq) (e1.trans e2) (e2 p _ h1) h2⟩
/-- a pot is drawn from: the tuples stay -/
theorem tu_wo {H2 : Hp} (hp : PotAt H p) (e : Ex (wo H p) H2) : Tu H H2 := fun a xs ha => by
  obtain ⟨_, _, _, q⟩ := hp
  have : a ≠ p := fun z => by subst z; rw [q] at ha; cases ha
  exact e a _ (by rw [wo_ne this]; exact ha)
theorem wo_tr {H1 H2 H3 : Hp} (e : Ex (wo H1 p) H2) (e' : Ex (wo H2 p) H3) : Ex (wo H1 p) H3 := (wo_sub e).trans e'
end
def sp_some (K : PySem.W.Frag) : Sp := fun vs H Q _ => ∃ (p : Addr) (z : Str) (n : Nat), vs = [.ref p, .str z, .int (n : Int)] ∧ PotAt H p ∧ n ≤ (SX.signs z).length ∧ (SX.signs z).length ≤ 1000 ∧ (SX.signs z).Nodup ∧ z.cps.size ≤ 1000 ∧
  ∀ l (ks : List Str) H2, ks.length = n → ks.Nodup → (∀ k ∈ ks, k ∈ SX.signs z) → H l = none → Ex (wo H p) H2 → PotAt H2 p → H2 l = some (.lst (ks.map V.str)) → Q (.ref l) H2
def sp_number : Sp := fun vs H Q _ => ∃ p, vs = [.ref p] ∧ PotAt H p ∧ ∀ i H2, -12 ≤ i → i ≤ 12 → Ex (wo H p) H2 → PotAt H2 p → Q (.int i) H2
section
variable {P : Program} {w : World} {K : PySem.W.Frag} {mg : Str → Option Value} {base : Heap} {C SZ SY : Addr}
theorem ok_number {f f1 f2 : Addr} {fd fd1 fd2 : FuncData} (F : Fun K "_law_number" "_law_number" s__law_number f fd) (T : Txt P w K mg C SZ SY) (c__law_draw : Cal P w K mg base "_law_draw" f1 fd1 ["_law_pot_here", "_law_many"] 1 sp_draw) (c__law_pick : Cal P w K mg base "_law_pick" f2 fd2 ["_law_pot_here", "_law_some_here"] 2 (sp_pick K)) : FnOk P w K mg base CX0 3 f fd ["_law_pot_here"] sp_number := by
  refine F.ok sc__law_number (fun vs H Q E h => ?_) (fun cdv A outer s H vs Q E hr h => ?_)
  · obtain ⟨p, rfl, _⟩ := h
    rfl
  · obtain ⟨p, rfl, hp, k⟩ := h
    refine ⟨_, (pss_one (ps_ret (pe_call c__law_pick.ok (hr.mono (by decide)) (by rfl) c__law_pick.mgx c__law_pick.kp c__law_pick.bd .nil pass0 (pa_cons (pv 0) (pa_cons (pe_lst (pa_cons pe_int (pa_cons pe_int (pa_cons (pe_un un_neg pe_int) (pa_cons pe_int (pa_cons (pe_un un_neg pe_int) (pa_cons pe_int (pa_cons (pe_op op_sub (pe_call c__law_draw.ok (hr.mono (by decide)) (by rfl) c__law_draw.mgx c__law_draw.kp c__law_draw.bd .nil pass0 (pa_cons (pv 0) (pa_cons pe_int pa_nil))) pe_int) (pa_cons (pe_op op_sub (pe_call c__law_draw.ok (hr.mono (by decide)) (by rfl) c__law_draw.mgx c__law_draw.kp c__law_draw.bd .nil pass0 (pa_cons (pv 0) (pa_cons pe_int pa_nil))) pe_int) pa_nil))))))))) pa_nil))))), ?_⟩
    refine ret_k (call_k (ac_v (ev_var rfl) fun H1 e1 => ac_k (lst_k (ac_v ev_c fun H2 e2 => ac_v ev_c fun H3 e3 => ac_v (ev_un ev_c ru_neg) fun H4 e4 => ac_v ev_c fun H5 e5 => ac_v (ev_un ev_c ru_neg) fun H6 e6 => ac_v ev_c fun H7 e7 => ac_k (op_k ?_)))))
    have e07 := (((((e1.trans e2).trans e3).trans e4).trans e5).trans e6).trans e7
    refine drawC (hp.mono e07) rfl ev_c (by decide) (by decide) fun d1 H8 d10 d11 e8 hp8 => ?_
    refine v_k ev_c fun H9 e9 => ⟨d1, 12, rfl, rfl, ac_k (op_k ?_)⟩
    refine drawC (hp8.mono e9) rfl ev_c (by decide) (by decide) fun d2 Ha d20 d21 ea hpa => ?_
    refine v_k ev_c fun Hb eb => ⟨d2, 12, rfl, rfl, ac_nil ⟨sz_of (by show 8 ≤ 100000; decide), fun s hs => ?_⟩⟩
    have hpb := hpa.mono eb
    obtain ⟨o, ho⟩ := hpb.some
    have hne : s ≠ p := (ne_of_none ho hs).symm
    have x1 : Ex (wo H p) Hb := wo_tr (wo_tr (wo_ex.trans e07) (e8.trans e9)) (ea.trans eb)
    refine ⟨p, s, ([0, 1, -1, 2, -2, 3, d1 - 12, d2 - 12] : List Int).map V.int, rfl, hpb.mono (Ex.new hs), sq_of (by rw [wo_ne hne]; exact upd_same), by show 0 < 8; decide, by show 8 ≤ 1000; decide, fun i v H2' hi e2' h2' => ?_⟩
    rw [List.getElem?_map] at hi
    obtain ⟨m, hm, rfl⟩ := Option.map_eq_some_iff.mp hi
    have hmem := List.mem_of_getElem? hm
    simp only [List.mem_cons, List.not_mem_nil, or_false] at hmem
    refine k m H2' (by omega) (by omega) (wo_tr (x1.trans (Ex.new hs)) e2') h2'
theorem seqIndex_nat {d : Nat} {n : Nat} (h : d < n) : seqIndex? (d : Int) n = some d := by
  unfold seqIndex?
  have h1 : ¬ ((d : Int) < 0) := by omega
  simp only [h1, if_false]
  rw [if_pos (by simp; omega)]
  simp
theorem erase_map {α β : Type} (f : α → β) : ∀ (l : List α) (i : Nat), (l.map f).eraseIdx i = (l.eraseIdx i).map f
  | [], _ => rfl
  | _ :: _, 0 => rfl
  | a :: l, i + 1 => by
    show f a :: (l.map f).eraseIdx i = f a :: (l.eraseIdx i).map f
    rw [erase_map f l i]
theorem ok_some {f f1 : Addr} {fd fd1 : FuncData} (F : Fun K "_law_some" "_law_some" s__law_some f fd) (T : Txt P w K mg C SZ SY) (c__law_draw : Cal P w K mg base "_law_draw" f1 fd1 ["_law_pot_here", "_law_many"] 1 sp_draw) : FnOk P w K mg base CX0 2 f fd ["_law_pot_here", "_law_letters_here", "_law_many"] (sp_some K) := by
  refine F.ok sc__law_some (fun vs H Q E h => ?_) (fun cdv A outer s H vs Q E hr h => ?_)
  · obtain ⟨p, z, n, rfl, _⟩ := h
    rfl
  · obtain ⟨p, z, n, rfl, hp, hn, hz, hnd, hz2, k⟩ := h
    refine ⟨_, (pss_cons (ps_par (i := 3) (j := 4) (by rfl) sc__law_some.nd rfl rfl (by decide) rfl rfl (pa_cons (pe_callTy (SX.cr_listStr rfl) (by rfl) T.b_list (by decide +kernel) (pa_cons (pv 1) pa_nil)) (pa_cons (pe_lst pa_nil) pa_nil)) (by rfl)) (pss_cons (ps_for PassesOwn.never rfl (pi_range1 (by rfl) T.b_range (pa_cons (pv 2) pa_nil)) (pg_name (i := 5) sc__law_some.nd rfl (Or.inl rfl)) (pss_one (ps_expr (pe_bm PySem.F.plainAttrs_list PySem.F.slot_list_append PySem.F.type_list_append mt_append (pv 4) (pa_cons (pe_bm PySem.F.plainAttrs_list PySem.F.slot_list_pop PySem.F.type_list_pop mt_popAt (pv 3) (pa_cons (pe_call c__law_draw.ok (hr.mono (by decide)) (by rfl) c__law_draw.mgx c__law_draw.kp c__law_draw.bd .nil pass0 (pa_cons (pv 0) (pa_cons (pe_callB (lenS (K := K) rfl) (by rfl) T.b_len (by decide +kernel) (pa_cons (pv 3) pa_nil)) pa_nil))) pa_nil)) pa_nil))))) (pss_one (ps_ret (pv 4))))), ?_⟩
    refine q_par2L (xs := (SX.signs z).map V.str) (ys := []) (fun H1 e1 Q q => (ev_var (i := 1) (v := V.str z) rfl) H1 (Ex.refl _) _ fun H2 e2 => ⟨z, rfl, sz_of (by omega), fun l hl => q l _ (fresh_back e2 hl) (e2.trans (Ex.new hl)) upd_same⟩) (fun H1 e1 => el_lst ea_nil (by show 0 ≤ 100000; decide)) fun le fo H1 hle hfo hne e1 h1 h2 => ?_
    obtain ⟨o, ho⟩ := hp.some
    have lp : le ≠ p := (ne_of_none ho hle).symm
    have fp : fo ≠ p := (ne_of_none ho hfo).symm
    have wle : wo H p le = none := by rw [wo_ne lp]; exact hle
    have wfo : wo H p fo = none := by rw [wo_ne fp]; exact hfo
    refine q_forR1 (n := (n : Int)) (ea_cons (ev_var rfl) ea_nil) (by omega) (fun i σ' H' => ∃ (ks ls : List Str) (o1 : Option V), σ' = [some (.ref p), some (.str z), some (.int (n : Int)), some (.ref le), some (.ref fo), o1] ∧ ks.length = i ∧ (ks ++ ls).Perm (SX.signs z) ∧ Ex (wo H p) H' ∧ PotAt H' p ∧ H' le = some (.lst (ls.map V.str)) ∧ H' fo = some (.lst (ks.map V.str))) (fun H2 e2 => ⟨[], SX.signs z, none, rfl, rfl, List.Perm.refl _, wo_ex.trans (e1.trans e2), hp.mono (e1.trans e2), e2 le _ h1, e2 fo _ h2⟩) (fun i σ' H' hi hpv => ?_) (fun σ' H' hpv => ?_)
    · obtain ⟨ks, ls, o1, rfl, hk, pm, e3, hp3, h3, h4⟩ := hpv
      have hlen : ks.length + ls.length = (SX.signs z).length := by rw [← List.length_append]; exact pm.length_eq
      have hpos : 0 < ls.length := by omega
      refine drop_k (bm_k (v_k (v := .ref fo) (ev_var rfl) fun H4 e4 => ⟨Or.inl ⟨rfl, _, sq_of (e4 fo _ h4)⟩, ac_k (bm_k (v_k (v := .ref le) (ev_var rfl) fun H5 e5 => ⟨Or.inl ⟨rfl, _, sq_of ((e4.trans e5) le _ h3)⟩, ac_k ?_⟩))⟩))
      have h35 : H5 le = some (.lst (ls.map V.str)) := (e4.trans e5) le _ h3
      have h45 : H5 fo = some (.lst (ks.map V.str)) := (e4.trans e5) fo _ h4
      have hp5 : PotAt H5 p := hp3.mono (e4.trans e5)
      refine drawC (n := (ls.length : Int)) hp5 rfl (ev_is (ev_cb (ea_cons (ev_var (i := 3) (v := .ref le) rfl) ea_nil) (rc_len (.inl (sq_of (by rw [wo_ne lp]; exact h35))) rfl)) (by rw [List.length_map])) (by omega) (by omega) fun d H6 d0 d1 e6 hp6 => ?_
      obtain ⟨j, rfl⟩ : ∃ j : Nat, d = (j : Int) := ⟨d.toNat, by omega⟩
      have hj : j < ls.length := by omega
      have h36 : H6 le = some (.lst (ls.map V.str)) := e6 le _ (by rw [wo_ne lp]; exact h35)
      have h46 : H6 fo = some (.lst (ks.map V.str)) := e6 fo _ (by rw [wo_ne fp]; exact h45)
      refine ac_nil ⟨le, ls.map V.str, (j : Int), j, .str ls[j], rfl, rfl, h36, by omega, by omega, by rw [List.length_map]; exact seqIndex_nat hj, by rw [List.getElem?_map, List.getElem?_eq_getElem hj] <;> rfl, ac_nil ⟨fo, ks.map V.str, .str ls[j], rfl, rfl, by rw [upd_ne (Ne.symm hne)]; exact h46, sz_lt (by rw [List.length_map]; omega), ?_⟩⟩
      have pm2 : (ls[j] :: ls.eraseIdx j).Perm ls := L2.erase_perm ls j _ (List.getElem?_eq_getElem hj)
      refine ⟨ks ++ [ls[j]], ls.eraseIdx j, some (.int (i : Int)), rfl, by rw [List.length_append, hk] <;> rfl, ?_, ?_, ?_, ?_, ?_⟩
      · rw [List.append_assoc]
        exact ((List.Perm.refl ks).append pm2).trans pm
      · have x6 : Ex (wo H p) H6 := wo_tr (e3.trans (e4.trans e5)) e6
        exact (x6.mut wle).mut wfo
      · obtain ⟨a, b, q1, q2⟩ := hp6
        exact ⟨a, b, q1, by rw [upd_ne (Ne.symm fp), upd_ne (Ne.symm lp)]; exact q2⟩
      · rw [upd_ne hne, upd_same, erase_map]
      · rw [upd_same, List.map_append] <;> rfl
    · obtain ⟨ks, ls, o1, rfl, hk, pm, e3, hp3, h3, h4⟩ := hpv
      refine s_ret (ev_var rfl) fun H4 e4 => ?_
      have nd : (ks ++ ls).Nodup := pm.nodup_iff.mpr hnd
      exact k fo ks H4 (by rw [hk]; exact Int.toNat_natCast n) (List.nodup_append.mp nd).1 (fun x hx => pm.mem_iff.mp (List.mem_append.mpr (.inl hx))) hfo (e3.trans e4) (hp3.mono e4) (e4 fo _ h4)
end
end K22
end
section
set_option maxHeartbeats 4000000
namespace K22
open PySem L2 Evl G TM TD
/-- the numbers in it are small -/
def Small : Td → Prop
  | .lf _ v => ∀ i, v = .int i → -12 ≤ i ∧ i ≤ 12
  | .ov _ v t => (∀ i, v = .int i → -12 ≤ i ∧ i ≤ 12) ∧ Small t
  | .nt t => Small t
  | .bi _ t u => Small t ∧ Small u
def szB : Nat → Nat
  | 0 => 1
  | d + 1 => 2 * szB d + 1
theorem szB_pos : ∀ d, 1 ≤ szB d
  | 0 => Nat.le_refl _
  | d + 1 => by show 1 ≤ 2 * szB d + 1; omega
/-- a drawn formula -/
structure FOk (N R : List Str) (d : Nat) (t : Td) : Prop where
  f : IsF t
  has : Has N R t
  dp : depth t ≤ d
  sz : (pcs t).length ≤ szB d
  sm : Small t
/-- names and rules as lists that the pot doesn't touch -/
structure LOk (K : PySem.W.Frag) (B : Hp) (a : Addr) (L : List Str) (all : List Str) : Prop where
  at_ : SqL K B a (L.map V.str)
  pos : 0 < L.length
  few : L.length ≤ 1000
  sub : ∀ x ∈ L, x ∈ all
theorem LOk.mono {K : PySem.W.Frag} {B B' : Hp} {a : Addr} {L all : List Str} (e : Ex B B') (h : LOk K B a L all) : LOk K B' a L all := ⟨ex_l e h.at_, h.pos, h.few, h.sub⟩
def sp_formula (K : PySem.W.Frag) (n : Nat) : Sp := fun vs H Q _ => ∃ (p : Addr) (d : Nat) (nl rl : Addr) (N R : List Str), vs = [.ref p, .int (d : Int), .ref nl, .ref rl] ∧ d < n ∧ PotAt H p ∧ LOk K (wo H p) nl N nameL ∧ LOk K (wo H p) rl R ruleL ∧
  ∀ v t H2, Ex (wo H p) H2 → PotAt H2 p → At H2 v t → FOk N R d t → Q v H2
section
variable {K : PySem.W.Frag} {σ : L2.St} {H : Hp} {p C : Addr} {i j : Nat} {ta tb te : TE} {Q : VK} {E : XK}
theorem if_mid {c : TT} {b : Bool} (Z : V → Hp → Prop) (hc : EvT c σ H b) (h1 : b = true → ∀ H1, Ex H H1 → ∀ Q' : VK, (∀ v H2, Z v H2 → Q' v H2) → ta σ H1 Q') (h2 : b = false → ∀ H1, Ex H H1 → ∀ Q' : VK, (∀ v H2, Z v H2 → Q' v H2) → tb σ H1 Q') (k : ∀ v H2, Z v H2 → Q v H2) : tIf c ta tb σ H Q := hc H (Ex.refl _) _ fun H1 e1 => by
  cases b with
  | true => rw [if_pos rfl]; exact h1 rfl H1 e1 Q k
  | false => rw [if_neg (by decide)]; exact h2 rfl H1 e1 Q k
theorem pickV {s : Addr} {L all : List Str} (hp : PotAt H p) (hv : σ[i]? = some (some (.ref p))) (hs : σ[j]? = some (some (.ref s))) (hl : LOk K (wo H p) s L all) (k : ∀ (x : Str) (H2 : Hp), x ∈ L → Ex (wo H p) H2 → PotAt H2 p → Q (.str x) H2) :
    tCall (sp_pick K) [] E (tCons (tVar i) (tCons (tVar j) tNil)) σ H Q := ⟨.ref p, hv, .ref s, hs, p, s, L.map V.str, rfl, hp, hl.at_, by rw [List.length_map]; exact hl.pos, by rw [List.length_map]; exact hl.few, fun m v H2 hm e h2 => by
      rw [List.getElem?_map] at hm
      obtain ⟨x, hx, rfl⟩ := Option.map_eq_some_iff.mp hm
      exact k x H2 (List.mem_of_getElem? hx) e h2⟩
theorem numC (hp : PotAt H p) (hv : σ[i]? = some (some (.ref p))) (k : ∀ m H2, -12 ≤ m → m ≤ 12 → Ex (wo H p) H2 → PotAt H2 p → Q (.int m) H2) : tCall sp_number [] E (tCons (tVar i) tNil) σ H Q := ⟨.ref p, hv, p, rfl, hp, k⟩
theorem formC {n d : Nat} {nl rl : Addr} {N R : List Str} {i2 i3 : Nat} (hp : PotAt H p) (hv : σ[i]? = some (some (.ref p))) (hd : Ev te σ H (.int (d : Int))) (h2 : σ[i2]? = some (some (.ref nl))) (h3 : σ[i3]? = some (some (.ref rl))) (hn : d < n) (ln : LOk K (wo H p) nl N nameL) (lr : LOk K (wo H p) rl R ruleL)
    (k : ∀ v t H2, Ex (wo H p) H2 → PotAt H2 p → At H2 v t → FOk N R d t → Q v H2) : tCall (sp_formula K n) [] E (tCons (tVar i) (tCons te (tCons (tVar i2) (tCons (tVar i3) tNil)))) σ H Q := ⟨.ref p, hv, hd H (Ex.refl _) _ fun H1 e1 => ⟨.ref nl, h2, .ref rl, h3, p, d, nl, rl, N, R, rfl, hn, hp.mono e1, ln.mono (wo_mono e1), lr.mono (wo_mono e1), fun v t H2 e2 => k v t H2 ((wo_mono e1).trans e2)⟩⟩
end
section
variable {P : Program} {w : World} {K : PySem.W.Frag} {mg : Str → Option Value} {base : Heap} {C SZ SY : Addr}
/-- ["..", ".."][i] -/
theorem ev_word {σ : L2.St} {H : Hp} {tA : TA} {tb : TE} (ws : List Str) {k : Nat} {x : Str} (ha : EvA tA σ H (ws.map V.str)) (hb : Ev tb σ H (.int (k : Int))) (hk : ws[k]? = some x) (hz : ws.length ≤ 100) : Ev (tOp (rIxL K) (tLst tA) tb) σ H (.str x) :=
  ev_opL1 (el_lst ha (by rw [List.length_map]; omega)) (fun H1 e1 => hb.mono e1) fun p H1 h1 e1 => rv_ixL (sq_of h1) (atI_nat (by rw [List.getElem?_map, hk] <;> rfl))
theorem ok_formula {f f1 f2 f3 : Addr} {fd fd1 fd2 fd3 : FuncData} (F : Fun K "_law_formula" "_law_formula" s__law_formula f fd) (T : Txt P w K mg C SZ SY) (me : Me K mg "_law_formula" f fd ["_law_pot_here", "_law_deep", "_law_names", "_law_rules"]) (c__law_draw : Cal P w K mg base "_law_draw" f1 fd1 ["_law_pot_here", "_law_many"] 1 sp_draw) (c__law_pick : Cal P w K mg base "_law_pick" f2 fd2 ["_law_pot_here", "_law_some_here"] 2 (sp_pick K)) (c__law_number : Cal P w K mg base "_law_number" f3 fd3 ["_law_pot_here"] 3 sp_number) :
    ∀ n, FnOk P w K mg base CX0 (n + 4) f fd ["_law_pot_here", "_law_deep", "_law_names", "_law_rules"] (sp_formula K n) := by
  intro n
  induction n with
  | zero => exact ⟨fun vs H Q E h => by obtain ⟨p, d, nl, rl, N, R, _, hd, _⟩ := h; exact absurd hd (Nat.not_lt_zero _), fun A outer s H args us vs Q E _ _ _ _ h => by obtain ⟨p, d, nl, rl, N, R, _, hd, _⟩ := h; exact absurd hd (Nat.not_lt_zero _)⟩
  | succ n ih =>
  have c__law_formula : Cal P w K mg base "_law_formula" f fd ["_law_pot_here", "_law_deep", "_law_names", "_law_rules"] (n + 4) (sp_formula K n) := ⟨ih, me.mgx, me.kp, me.bd⟩
  refine F.ok (k := n + 4) sc__law_formula (fun vs H Q E h => ?_) (fun cdv A outer s H vs Q E hr h => ?_)
  · obtain ⟨p, d, nl, rl, N, R, rfl, _⟩ := h
    rfl
  · obtain ⟨p, d, nl, rl, N, R, rfl, hdn, hp, ln, lr, k⟩ := h
    refine ⟨_, (pss_cons (ps_set (i := 4) sc__law_formula.nd rfl (Or.inl rfl) (pe_ifExp (pt_cmpR op_gt (pv 1) pe_int (nomark _)) (pe_call c__law_draw.ok (hr.mono (by omega)) (by rfl) c__law_draw.mgx c__law_draw.kp c__law_draw.bd .nil pass0 (pa_cons (pv 0) (pa_cons pe_int pa_nil))) (pe_call c__law_draw.ok (hr.mono (by omega)) (by rfl) c__law_draw.mgx c__law_draw.kp c__law_draw.bd .nil pass0 (pa_cons (pv 0) (pa_cons pe_int pa_nil))))) (pss_cons (ps_if (pt_cmpR op_lt (pv 4) pe_int (nomark _)) (pss_one (ps_ret (pe_tup (pa_cons pe_str (pa_cons (pe_call c__law_pick.ok (hr.mono (by omega)) (by rfl) c__law_pick.mgx c__law_pick.kp c__law_pick.bd .nil pass0 (pa_cons (pv 0) (pa_cons (pv 2) pa_nil))) pa_nil))))) pss_nil) (pss_cons (ps_if (pt_cmpR op_eq (pv 4) pe_int (nomark _)) (pss_one (ps_ret (pe_tup (pa_cons pe_str (pa_cons (pe_call c__law_number.ok (hr.mono (by omega)) (by rfl) c__law_number.mgx c__law_number.kp c__law_number.bd .nil pass0 (pa_cons (pv 0) pa_nil)) pa_nil))))) pss_nil) (pss_cons (ps_set (i := 5) sc__law_formula.nd rfl (Or.inl rfl) (pe_call c__law_formula.ok (hr.mono (by omega)) (by rfl) c__law_formula.mgx c__law_formula.kp c__law_formula.bd .nil pass0 (pa_cons (pv 0) (pa_cons (pe_op op_sub (pv 1) pe_int) (pa_cons (pv 2) (pa_cons (pv 3) pa_nil)))))) (pss_cons (ps_if (pt_cmpR op_eq (pv 4) pe_int (nomark _)) (pss_one (ps_ret (pe_tup (pa_cons pe_str (pa_cons (pe_call c__law_number.ok (hr.mono (by omega)) (by rfl) c__law_number.mgx c__law_number.kp c__law_number.bd .nil pass0 (pa_cons (pv 0) pa_nil)) (pa_cons (pv 5) pa_nil)))))) pss_nil) (pss_cons (ps_if (pt_cmpR op_lt (pv 4) pe_int (nomark _)) (pss_one (ps_ret (pe_tup (pa_cons (pe_ix (ixL (K := K) rfl) (pe_lst (pa_cons pe_str (pa_cons pe_str (pa_cons pe_str (pa_cons pe_str pa_nil))))) (pe_op op_sub (pv 4) pe_int) (fun _ _ => rfl)) (pa_cons (pe_call c__law_pick.ok (hr.mono (by omega)) (by rfl) c__law_pick.mgx c__law_pick.kp c__law_pick.bd .nil pass0 (pa_cons (pv 0) (pa_cons (pv 3) pa_nil))) (pa_cons (pv 5) pa_nil)))))) pss_nil) (pss_one (ps_ret (pe_tup (pa_cons (pe_ix (ixL (K := K) rfl) (pe_lst (pa_cons pe_str (pa_cons pe_str (pa_cons pe_str pa_nil)))) (pe_op op_sub (pv 4) pe_int) (fun _ _ => rfl)) (pa_cons (pv 5) (pa_cons (pe_call c__law_formula.ok (hr.mono (by omega)) (by rfl) c__law_formula.mgx c__law_formula.kp c__law_formula.bd .nil pass0 (pa_cons (pv 0) (pa_cons (pe_op op_sub (pv 1) pe_int) (pa_cons (pv 2) (pa_cons (pv 3) pa_nil))))) pa_nil)))))))))))), ?_⟩
    refine asg_k (if_mid (b := decide ((d : Int) > 0)) (fun v H2 => ∃ m : Int, v = .int m ∧ 0 ≤ m ∧ m < 11 ∧ (3 ≤ m → 1 ≤ d) ∧ Ex (wo H p) H2 ∧ PotAt H2 p) (et_test (ev_op (ev_var rfl) ev_c rv_I0)) (fun hb H1 e1 Q' q' => drawC (hp.mono e1) rfl ev_c (by decide) (by decide) fun m H2 m0 m1 e2 h2 => q' _ H2 ⟨m, rfl, m0, m1, fun _ => by have := of_decide_eq_true hb; omega, (wo_mono e1).trans e2, h2⟩) (fun hb H1 e1 Q' q' => drawC (hp.mono e1) rfl ev_c (by decide) (by decide) fun m H2 m0 m1 e2 h2 => q' _ H2 ⟨m, rfl, m0, by omega, fun _ => by omega, (wo_mono e1).trans e2, h2⟩) ?_)
    rintro _ H2 ⟨m, rfl, m0, m11, md, e2, hp2⟩
    refine q_when (b := decide (m < 2)) (et_test (ev_op (ev_var rfl) ev_c rv_I0)) (fun _ H3 e3 => ?_) (fun hm2 H3 e3 => ?_)
    · -- a name
      refine ret_k (tup_k (ac_v ev_c fun H4 e4 => ac_k (pickV (hp2.mono (e3.trans e4)) rfl rfl (ln.mono ((wo_sub e2).trans (wo_mono (e3.trans e4)))) fun x H5 hx e5 hp5 => ac_nil ⟨sz_of (by show 2 ≤ 100000; decide), fun q hq => ?_⟩)))
      have e05 : Ex (wo H p) H5 := wo_tr (e2.trans (e3.trans e4)) e5
      exact k _ (.lf "day" (.str x)) _ (e05.trans (Ex.new hq)) (hp5.mono (Ex.new hq)) ⟨q, rfl, upd_same⟩ ⟨.inl ⟨rfl, x, ln.sub x hx, rfl⟩, fun y hy => (by cases hy; exact hx), Nat.zero_le _, szB_pos d, fun i hi => (by cases hi)⟩
    · have hm2' : ¬ m < 2 := of_decide_eq_false hm2
      refine q_when (b := decide (V.int m = V.int 2)) (et_test (ev_op (ev_var rfl) ev_c (rv_eq rfl))) (fun _ H4 e4 => ?_) (fun hm3 H4 e4 => ?_)
      · -- a number
        refine ret_k (tup_k (ac_v ev_c fun H5 e5 => ac_k (numC (hp2.mono ((e3.trans e4).trans e5)) rfl fun x H6 x0 x1 e6 hp6 => ac_nil ⟨sz_of (by show 2 ≤ 100000; decide), fun q hq => ?_⟩)))
        have e06 : Ex (wo H p) H6 := wo_tr (e2.trans ((e3.trans e4).trans e5)) e6
        exact k _ (.lf "num" (.int x)) _ (e06.trans (Ex.new hq)) (hp6.mono (Ex.new hq)) ⟨q, rfl, upd_same⟩ ⟨.inr ⟨rfl, x, rfl⟩, fun y hy => (by cases hy), Nat.zero_le _, szB_pos d, fun i hi => (by cases hi; exact ⟨x0, x1⟩)⟩
      · have hm3' : m ≠ 2 := fun z => by rw [z] at hm3; exact absurd hm3 (by decide)
        have hd1 : 1 ≤ d := md (by omega)
        obtain ⟨d', rfl⟩ : ∃ d', d = d' + 1 := ⟨d - 1, by omega⟩
        have e04 : Ex (wo H p) H4 := e2.trans (e3.trans e4)
        have hp4 := hp2.mono (e3.trans e4)
        refine asg_k (formC (d := d') hp4 rfl (ev_is (ev_op (ev_var rfl) ev_c rv_I0) (by show V.int (((d' + 1 : Nat) : Int) - 1) = _; congr 1; omega)) rfl rfl (by omega) (ln.mono (wo_sub e04)) (lr.mono (wo_sub e04)) fun v1 t1 H5 e5 hp5 a5 f5 => ?_)
        have e05 : Ex (wo H p) H5 := wo_tr e04 e5
        refine q_when (b := decide (V.int m = V.int 3)) (et_test (ev_op (ev_var rfl) ev_c (rv_eq rfl))) (fun _ H6 e6 => ?_) (fun hm4 H6 e6 => ?_)
        · refine ret_k (tup_k (ac_v ev_c fun H7 e7 => ac_k (numC (hp5.mono (e6.trans e7)) rfl fun x H8 x0 x1 e8 hp8 => ac_v (ev_var rfl) fun H9 e9 => ac_nil ⟨sz_of (by show 3 ≤ 100000; decide), fun q hq => ?_⟩)))
          have e09 : Ex (wo H p) H9 := (wo_tr (e05.trans (e6.trans e7)) e8).trans e9
          have a9 : At H9 v1 t1 := a5.mono ((Tu.ex (e6.trans e7)).trans ((tu_wo (hp5.mono (e6.trans e7)) e8).trans (Tu.ex e9)))
          refine k _ (.ov "add" (.int x) t1) _ (e09.trans (Ex.new hq)) ((hp8.mono e9).mono (Ex.new hq)) ⟨q, v1, rfl, upd_same, a9.mono (Tu.ex (Ex.new hq))⟩ ⟨⟨.inr ⟨rfl, x, rfl⟩, f5.f⟩, ⟨fun r hr' => (by cases hr'), f5.has⟩, Nat.succ_le_succ f5.dp, ?_, ⟨fun i hi => (by cases hi; exact ⟨x0, x1⟩), f5.sm⟩⟩
          show (pcs t1).length + 1 ≤ 2 * szB d' + 1
          have := f5.sz
          omega
        · have hm4' : m ≠ 3 := fun z => by rw [z] at hm4; exact absurd hm4 (by decide)
          refine q_when (b := decide (m < 8)) (et_test (ev_op (ev_var rfl) ev_c rv_I0)) (fun hm8 H7 e7 => ?_) (fun hm8 H7 e7 => ?_)
          · have hm8' : m < 8 := of_decide_eq_true hm8
            obtain ⟨j, rfl⟩ : ∃ j : Nat, m = 4 + (j : Int) := ⟨(m - 4).toNat, by omega⟩
            obtain ⟨wd, hw, hwt⟩ : ∃ wd : Str, (["on", "on", "by", "til"] : List Str)[j]? = some wd ∧ wd ∈ turnL := by
              have : j = 0 ∨ j = 1 ∨ j = 2 ∨ j = 3 := by omega
              rcases this with e | e | e | e <;> subst e
              · exact ⟨"on", rfl, by decide⟩
              · exact ⟨"on", rfl, by decide⟩
              · exact ⟨"by", rfl, by decide⟩
              · exact ⟨"til", rfl, by decide⟩
            refine ret_k (tup_k (ac_v (ev_word (K := K) ["on", "on", "by", "til"] (ea_cons ev_c (ea_cons ev_c (ea_cons ev_c (ea_cons ev_c ea_nil)))) (ev_is (ev_op (ev_var rfl) ev_c rv_I0) (by congr 1; omega)) hw (by decide)) fun H8 e8 => ac_k (pickV (hp5.mono ((e6.trans e7).trans e8)) rfl rfl (lr.mono (wo_sub (e05.trans ((e6.trans e7).trans e8)))) fun x H9 hx e9 hp9 => ac_v (ev_var rfl) fun Ha ea => ac_nil ⟨sz_of (by show 3 ≤ 100000; decide), fun q hq => ?_⟩)))
            have e0a : Ex (wo H p) Ha := (wo_tr (e05.trans ((e6.trans e7).trans e8)) e9).trans ea
            have aa : At Ha v1 t1 := a5.mono ((Tu.ex ((e6.trans e7).trans e8)).trans ((tu_wo (hp5.mono ((e6.trans e7).trans e8)) e9).trans (Tu.ex ea)))
            refine k _ (.ov wd (.str x) t1) _ (e0a.trans (Ex.new hq)) ((hp9.mono ea).mono (Ex.new hq)) ⟨q, v1, rfl, upd_same, aa.mono (Tu.ex (Ex.new hq))⟩ ⟨⟨.inl ⟨hwt, x, lr.sub x hx, rfl⟩, f5.f⟩, ⟨fun r hr' => (by cases hr'; exact hx), f5.has⟩, Nat.succ_le_succ f5.dp, ?_, ⟨fun i hi => (by cases hi), f5.sm⟩⟩
            show (pcs t1).length + 1 ≤ 2 * szB d' + 1
            have := f5.sz
            omega
          · have hm8' : ¬ m < 8 := of_decide_eq_false hm8
            obtain ⟨j, rfl⟩ : ∃ j : Nat, m = 8 + (j : Int) := ⟨(m - 8).toNat, by omega⟩
            obtain ⟨wd, hw, hwt⟩ : ∃ wd : Str, (["late", "soon", "late"] : List Str)[j]? = some wd ∧ (wd = "late" ∨ wd = "soon") := by
              have : j = 0 ∨ j = 1 ∨ j = 2 := by omega
              rcases this with e | e | e <;> subst e
              · exact ⟨"late", rfl, .inl rfl⟩
              · exact ⟨"soon", rfl, .inr rfl⟩
              · exact ⟨"late", rfl, .inl rfl⟩
            have e07 : Ex H5 H7 := e6.trans e7
            refine ret_k (tup_k (ac_v (ev_word (K := K) ["late", "soon", "late"] (ea_cons ev_c (ea_cons ev_c (ea_cons ev_c ea_nil))) (ev_is (ev_op (ev_var rfl) ev_c rv_I0) (by congr 1; omega)) hw (by decide)) fun H8 e8 => ac_v (ev_var rfl) fun H9 e9 => ac_k (formC (d := d') (hp5.mono ((e07.trans e8).trans e9)) rfl (ev_is (ev_op (ev_var rfl) ev_c rv_I0) (by show V.int (((d' + 1 : Nat) : Int) - 1) = _; congr 1; omega)) rfl rfl (by omega) (ln.mono (wo_sub (e05.trans ((e07.trans e8).trans e9)))) (lr.mono (wo_sub (e05.trans ((e07.trans e8).trans e9)))) fun v2 t2 Ha ea hpa aa fa => ac_nil ⟨sz_of (by show 3 ≤ 100000; decide), fun q hq => ?_⟩)))
            have e59 : Ex H5 H9 := (e07.trans e8).trans e9
            have e0a : Ex (wo H p) Ha := wo_tr (e05.trans e59) ea
            have a1 : At Ha v1 t1 := a5.mono ((Tu.ex e59).trans (tu_wo (hp5.mono e59) ea))
            refine k _ (.bi wd t1 t2) _ (e0a.trans (Ex.new hq)) (hpa.mono (Ex.new hq)) ⟨q, v1, v2, rfl, upd_same, a1.mono (Tu.ex (Ex.new hq)), aa.mono (Tu.ex (Ex.new hq))⟩ ⟨⟨hwt, f5.f, fa.f⟩, ⟨f5.has, fa.has⟩, ?_, ?_, ⟨f5.sm, fa.sm⟩⟩
            · show max (depth t1) (depth t2) + 1 ≤ d' + 1
              have := f5.dp
              have := fa.dp
              omega
            · show (pcs t1 ++ pcs t2).length + 1 ≤ 2 * szB d' + 1
              rw [List.length_append]
              have := f5.sz
              have := fa.sz
              omega
end
end K22
end
section
set_option maxHeartbeats 2000000
namespace G
open PySem L2 Evl TD SX PyProof.Rows
/-! ### what sorted(set(xs)) tells, always -/
def lt (a b : Str) : Prop := a.cps.toList < b.cps.toList
theorem ins_ex (x : Str) : ∀ ys : List Str, ys.Pairwise lt → x ∉ ys → ∃ zs : List Str, zs.Pairwise lt ∧ ∀ k, k ∈ zs ↔ k = x ∨ k ∈ ys
  | [], _, _ => ⟨[x], List.pairwise_singleton _ _, fun k => by simp⟩
  | y :: l, hp, hn => by
    obtain ⟨h1, h2⟩ := List.pairwise_cons.mp hp
    have hxy : x ≠ y := fun z => hn (by rw [z]; exact List.mem_cons_self)
    by_cases h : lt x y
    · refine ⟨x :: y :: l, List.pairwise_cons.mpr ⟨fun z hz => ?_, hp⟩, fun k => List.mem_cons⟩
      rcases List.mem_cons.mp hz with e | hz
      · subst e; exact h
      · exact List.lt_trans h (h1 z hz)
    · obtain ⟨zs, hz, hm⟩ := ins_ex x l h2 fun z => hn (List.mem_cons_of_mem _ z)
      have hyx : lt y x := by
        refine Classical.byContradiction fun q => hxy (cps_inj (List.le_antisymm (List.not_lt.mp q) (List.not_lt.mp h)))
      refine ⟨y :: zs, List.pairwise_cons.mpr ⟨fun z hzz => ?_, hz⟩, fun k => ?_⟩
      · rcases (hm z).mp hzz with e | q
        · subst e; exact hyx
        · exact h1 z q
      · rw [List.mem_cons, hm, List.mem_cons]
        constructor
        · rintro (a | a | a)
          · exact .inr (.inl a)
          · exact .inl a
          · exact .inr (.inr a)
        · rintro (a | a | a)
          · exact .inr (.inl a)
          · exact .inl a
          · exact .inr (.inr a)
theorem strict_ex : ∀ xs : List Str, ∃ ys : List Str, ys.Pairwise lt ∧ ∀ k, k ∈ ys ↔ k ∈ xs
  | [] => ⟨[], List.Pairwise.nil, fun _ => Iff.rfl⟩
  | x :: xs => by
    obtain ⟨ys, h1, h2⟩ := strict_ex xs
    by_cases h : x ∈ ys
    · refine ⟨ys, h1, fun k => ?_⟩
      rw [List.mem_cons, ← h2]
      exact ⟨.inr, fun z => z.elim (fun e => e ▸ h) id⟩
    · obtain ⟨zs, h3, h4⟩ := ins_ex x ys h1 h
      exact ⟨zs, h3, fun k => by rw [h4, h2, List.mem_cons]⟩
theorem strict_nrm {xs ys : List Str} (h : ys.Pairwise lt) (hm : ∀ k, k ∈ ys ↔ k ∈ xs) : IsNrm xs ys := by
  refine ⟨sortedS_of_pairwise _ (h.imp fun {a b} q => ?_), h.imp fun {a b} q e => ?_, hm⟩
  · rw [ltCps_eq]
    exact decide_eq_false fun z => List.lt_irrefl _ (List.lt_trans q z)
  · subst e
    exact List.lt_irrefl _ q
theorem nrm_is (xs : List Str) : IsNrm xs (nrm xs) := by
  obtain ⟨ys, h1, h2⟩ := strict_ex xs
  have h := strict_nrm h1 h2
  rw [nrm_eq h]
  exact h
theorem mem_nrm {xs : List Str} {k : Str} : k ∈ nrm xs ↔ k ∈ xs := (nrm_is xs).2.2 k
theorem nrm_nodup (xs : List Str) : (nrm xs).Nodup := (nrm_is xs).2.1
theorem nrm_len (xs : List Str) : (nrm xs).length ≤ xs.length := nodup_len (nrm_nodup xs) fun k hk => mem_nrm.mp hk
variable {K : PySem.W.Frag} {σ : L2.St} {H : Hp} {te tl : TE} {tt : TT} {xs : List V} {j : Nat} {vs : List Nat}
/-- [e for x in a new tuple if ..] -/
theorem el_lcU (f : Nat → Bool) (v : Nat → V) (h : EvU tl σ H xs) (hz : xs.length ≤ 40000) (hw : ∀ x, wipe ((wipe σ vs).set j (some x)) vs = wipe σ vs)
    (ht : ∀ (i : Nat) (x : V) H1, Ex H H1 → xs[i]? = some x → EvT tt ((wipe σ vs).set j (some x)) H1 (f i)) (he : ∀ (i : Nat) (x : V) H1, Ex H H1 → xs[i]? = some x → f i = true → Ev te ((wipe σ vs).set j (some x)) H1 (v i)) :
    EvL (tLc (iTup K tl) (gName j) tt te vs) σ H (given xs.length f v) := fun H0 e Q q => h H0 e _ fun a H1 ha e1 hx => ⟨a, rfl, ⟨xs, st_of hx⟩, fun Dl hD =>
  lc_tup (xs := xs) (Cw H1 f v Dl) ⟨hD, Ex.new hD, upd_same⟩ (fun i H' _ p => st_of (p.2.1 a _ hx)) (fun i x H' hi p => ⟨hw x, cw_turn p (by have := (List.getElem?_eq_some_iff.mp hi).1; omega) (ht i x H1 (e.trans e1) hi) (fun hf => he i x H1 (e.trans e1) hi hf)⟩)
    (fun H' p => q Dl H' (fresh_back e1 p.1) (e1.trans p.2.1) p.2.2)⟩
theorem sizes_sum (ts : List Td) : ((sizes ts : Nat) : Int) = (ts.map fun t => ((pcs t).length : Int)).sum := by
  induction ts with
  | nil => rfl
  | cons t ts ih => rw [sizes_cons, List.map_cons, List.sum_cons, ← ih]; omega
end G
end
section
set_option maxHeartbeats 4000000
namespace K22
open PySem L2 Evl G TM TD
def szS : Nat → Nat
  | 0 => 15
  | d + 1 => 2 * szS d + 1
theorem szS_pos : ∀ d, 15 ≤ szS d
  | 0 => Nat.le_refl _
  | d + 1 => by show 15 ≤ 2 * szS d + 1; have := szS_pos d; omega
/-- a drawn saying -/
structure SOk (N R : List Str) (d : Nat) (t : Td) : Prop where
  f : IsS t
  has : Has N R t
  dp : depth t ≤ d + 3
  sz : (pcs t).length ≤ szS d
  sm : Small t
def sp_saying (K : PySem.W.Frag) (n : Nat) : Sp := fun vs H Q _ => ∃ (p : Addr) (d : Nat) (nl rl : Addr) (N R : List Str), vs = [.ref p, .int (d : Int), .ref nl, .ref rl] ∧ d < n ∧ PotAt H p ∧ LOk K (wo H p) nl N nameL ∧ LOk K (wo H p) rl R ruleL ∧
  ∀ v t H2, Ex (wo H p) H2 → PotAt H2 p → At H2 v t → SOk N R d t → Q v H2
section
variable {K : PySem.W.Frag} {σ : L2.St} {H : Hp} {p C : Addr} {i j : Nat} {ta tb te : TE} {Q : VK} {E : XK}
theorem sayC {n d : Nat} {nl rl : Addr} {N R : List Str} {i2 i3 : Nat} (hp : PotAt H p) (hv : σ[i]? = some (some (.ref p))) (hd : Ev te σ H (.int (d : Int))) (h2 : σ[i2]? = some (some (.ref nl))) (h3 : σ[i3]? = some (some (.ref rl))) (hn : d < n) (ln : LOk K (wo H p) nl N nameL) (lr : LOk K (wo H p) rl R ruleL)
    (k : ∀ v t H2, Ex (wo H p) H2 → PotAt H2 p → At H2 v t → SOk N R d t → Q v H2) : tCall (sp_saying K n) [] E (tCons (tVar i) (tCons te (tCons (tVar i2) (tCons (tVar i3) tNil)))) σ H Q := ⟨.ref p, hv, hd H (Ex.refl _) _ fun H1 e1 => ⟨.ref nl, h2, .ref rl, h3, p, d, nl, rl, N, R, rfl, hn, hp.mono e1, ln.mono (wo_mono e1), lr.mono (wo_mono e1), fun v t H2 e2 => k v t H2 ((wo_mono e1).trans e2)⟩⟩
end
section
variable {P : Program} {w : World} {K : PySem.W.Frag} {mg : Str → Option Value} {base : Heap} {C SZ SY : Addr}
theorem ok_saying {f f1 f2 : Addr} {fd fd1 fd2 : FuncData} (F : Fun K "_law_saying" "_law_saying" s__law_saying f fd) (T : Txt P w K mg C SZ SY) (me : Me K mg "_law_saying" f fd ["_law_pot_here", "_law_deep", "_law_names", "_law_rules"]) (c__law_draw : Cal P w K mg base "_law_draw" f1 fd1 ["_law_pot_here", "_law_many"] 1 sp_draw) (c__law_formula : Cal P w K mg base "_law_formula" f2 fd2 ["_law_pot_here", "_law_deep", "_law_names", "_law_rules"] 8 (sp_formula K 4)) :
    ∀ n, FnOk P w K mg base CX0 (n + 9) f fd ["_law_pot_here", "_law_deep", "_law_names", "_law_rules"] (sp_saying K n) := by
  intro n
  induction n with
  | zero => exact ⟨fun vs H Q E h => by obtain ⟨p, d, nl, rl, N, R, _, hd, _⟩ := h; exact absurd hd (Nat.not_lt_zero _), fun A outer s H args us vs Q E _ _ _ _ h => by obtain ⟨p, d, nl, rl, N, R, _, hd, _⟩ := h; exact absurd hd (Nat.not_lt_zero _)⟩
  | succ n ih =>
  have c__law_saying : Cal P w K mg base "_law_saying" f fd ["_law_pot_here", "_law_deep", "_law_names", "_law_rules"] (n + 9) (sp_saying K n) := ⟨ih, me.mgx, me.kp, me.bd⟩
  refine F.ok (k := n + 9) sc__law_saying (fun vs H Q E h => ?_) (fun cdv A outer s H vs Q E hr h => ?_)
  · obtain ⟨p, d, nl, rl, N, R, rfl, _⟩ := h
    rfl
  · obtain ⟨p, d, nl, rl, N, R, rfl, hdn, hp, ln, lr, k⟩ := h
    refine ⟨_, (pss_cons (ps_set (i := 4) sc__law_saying.nd rfl (Or.inl rfl) (pe_ifExp (pt_cmpR op_gt (pv 1) pe_int (nomark _)) (pe_call c__law_draw.ok (hr.mono (by omega)) (by rfl) c__law_draw.mgx c__law_draw.kp c__law_draw.bd .nil pass0 (pa_cons (pv 0) (pa_cons pe_int pa_nil))) pe_int)) (pss_cons (ps_if (pt_cmpR op_lt (pv 4) pe_int (nomark _)) (pss_one (ps_ret (pe_tup (pa_cons pe_str (pa_cons (pe_call c__law_formula.ok (hr.mono (by omega)) (by rfl) c__law_formula.mgx c__law_formula.kp c__law_formula.bd .nil pass0 (pa_cons (pv 0) (pa_cons pe_int (pa_cons (pv 2) (pa_cons (pv 3) pa_nil))))) (pa_cons (pe_call c__law_formula.ok (hr.mono (by omega)) (by rfl) c__law_formula.mgx c__law_formula.kp c__law_formula.bd .nil pass0 (pa_cons (pv 0) (pa_cons pe_int (pa_cons (pv 2) (pa_cons (pv 3) pa_nil))))) pa_nil)))))) pss_nil) (pss_cons (ps_set (i := 5) sc__law_saying.nd rfl (Or.inl rfl) (pe_call c__law_saying.ok (hr.mono (by omega)) (by rfl) c__law_saying.mgx c__law_saying.kp c__law_saying.bd .nil pass0 (pa_cons (pv 0) (pa_cons (pe_op op_sub (pv 1) pe_int) (pa_cons (pv 2) (pa_cons (pv 3) pa_nil)))))) (pss_cons (ps_if (pt_cmpR op_eq (pv 4) pe_int (nomark _)) (pss_one (ps_ret (pe_tup (pa_cons pe_str (pa_cons (pv 5) pa_nil))))) pss_nil) (pss_one (ps_ret (pe_tup (pa_cons (pe_ix (ixL (K := K) rfl) (pe_lst (pa_cons pe_str (pa_cons pe_str pa_nil))) (pe_op op_sub (pv 4) pe_int) (fun _ _ => rfl)) (pa_cons (pv 5) (pa_cons (pe_call c__law_saying.ok (hr.mono (by omega)) (by rfl) c__law_saying.mgx c__law_saying.kp c__law_saying.bd .nil pass0 (pa_cons (pv 0) (pa_cons (pe_op op_sub (pv 1) pe_int) (pa_cons (pv 2) (pa_cons (pv 3) pa_nil))))) pa_nil)))))))))), ?_⟩
    refine asg_k (if_mid (b := decide ((d : Int) > 0)) (fun v H2 => ∃ m : Int, v = .int m ∧ 0 ≤ m ∧ m < 5 ∧ (2 ≤ m → 1 ≤ d) ∧ Ex (wo H p) H2 ∧ PotAt H2 p) (et_test (ev_op (ev_var rfl) ev_c rv_I0)) (fun hb H1 e1 Q' q' => drawC (hp.mono e1) rfl ev_c (by decide) (by decide) fun m H2 m0 m1 e2 h2 => q' _ H2 ⟨m, rfl, m0, m1, fun _ => (by have := of_decide_eq_true hb; omega), (wo_mono e1).trans e2, h2⟩) (fun hb H1 e1 Q' q' => q' _ H1 ⟨0, rfl, by omega, by omega, fun _ => by omega, wo_ex.trans e1, hp.mono e1⟩) ?_)
    rintro _ H2 ⟨m, rfl, m0, m5, md, e2, hp2⟩
    refine q_when (b := decide (m < 2)) (et_test (ev_op (ev_var rfl) ev_c rv_I0)) (fun _ H3 e3 => ?_) (fun hm2 H3 e3 => ?_)
    · refine ret_k (tup_k (ac_v ev_c fun H4 e4 => ac_k (formC (d := 2) (hp2.mono (e3.trans e4)) rfl ev_c rfl rfl (by omega) (ln.mono (wo_sub (e2.trans (e3.trans e4)))) (lr.mono (wo_sub (e2.trans (e3.trans e4)))) fun v1 t1 H5 e5 hp5 a5 f5 => ac_k (formC (d := 2) hp5 rfl ev_c rfl rfl (by omega) (ln.mono (wo_sub (wo_tr (e2.trans (e3.trans e4)) e5))) (lr.mono (wo_sub (wo_tr (e2.trans (e3.trans e4)) e5))) fun v2 t2 H6 e6 hp6 a6 f6 => ac_nil ⟨sz_of (by show 3 ≤ 100000; decide), fun q hq => ?_⟩))))
      have e06 : Ex (wo H p) H6 := wo_tr (wo_tr (e2.trans (e3.trans e4)) e5) e6
      refine k _ (.bi "le" t1 t2) _ (e06.trans (Ex.new hq)) (hp6.mono (Ex.new hq)) ⟨q, v1, v2, rfl, upd_same, a5.mono ((tu_wo hp5 e6).trans (Tu.ex (Ex.new hq))), a6.mono (Tu.ex (Ex.new hq))⟩ ⟨.inl ⟨rfl, f5.f, f6.f⟩, ⟨f5.has, f6.has⟩, ?_, ?_, ⟨f5.sm, f6.sm⟩⟩
      · show max (depth t1) (depth t2) + 1 ≤ d + 3
        have := f5.dp
        have := f6.dp
        omega
      · show (pcs t1 ++ pcs t2).length + 1 ≤ szS d
        rw [List.length_append]
        have h1 : (pcs t1).length ≤ 7 := f5.sz
        have h2 : (pcs t2).length ≤ 7 := f6.sz
        have := szS_pos d
        omega
    · have hm2' : ¬ m < 2 := of_decide_eq_false hm2
      have hd1 : 1 ≤ d := md (by omega)
      obtain ⟨d', rfl⟩ : ∃ d', d = d' + 1 := ⟨d - 1, by omega⟩
      have e03 : Ex (wo H p) H3 := e2.trans e3
      have hp3 := hp2.mono e3
      refine asg_k (sayC (d := d') hp3 rfl (ev_is (ev_op (ev_var rfl) ev_c rv_I0) (by show V.int (((d' + 1 : Nat) : Int) - 1) = _; congr 1; omega)) rfl rfl (by omega) (ln.mono (wo_sub e03)) (lr.mono (wo_sub e03)) fun v1 t1 H5 e5 hp5 a5 f5 => ?_)
      have e05 : Ex (wo H p) H5 := wo_tr e03 e5
      refine q_when (b := decide (V.int m = V.int 2)) (et_test (ev_op (ev_var rfl) ev_c (rv_eq rfl))) (fun _ H6 e6 => ?_) (fun hm4 H6 e6 => ?_)
      · refine ret_k (tup_k (ac_v ev_c fun H7 e7 => ac_v (ev_var rfl) fun H8 e8 => ac_nil ⟨sz_of (by show 2 ≤ 100000; decide), fun q hq => ?_⟩))
        have e68 := (e6.trans e7).trans e8
        refine k _ (.nt t1) _ ((e05.trans e68).trans (Ex.new hq)) ((hp5.mono e68).mono (Ex.new hq)) ⟨q, v1, rfl, upd_same, a5.mono (Tu.ex (e68.trans (Ex.new hq)))⟩ ⟨f5.f, f5.has, Nat.succ_le_succ f5.dp, ?_, f5.sm⟩
        show (pcs t1).length + 1 ≤ 2 * szS d' + 1
        have := f5.sz
        omega
      · have hm4' : m ≠ 2 := fun z => by rw [z] at hm4; exact absurd hm4 (by decide)
        obtain ⟨j, rfl⟩ : ∃ j : Nat, m = 3 + (j : Int) := ⟨(m - 3).toNat, by omega⟩
        obtain ⟨wd, hw, hwt⟩ : ∃ wd : Str, (["and", "or"] : List Str)[j]? = some wd ∧ (wd = "and" ∨ wd = "or") := by
          have : j = 0 ∨ j = 1 := by omega
          rcases this with e | e <;> subst e
          · exact ⟨"and", rfl, .inl rfl⟩
          · exact ⟨"or", rfl, .inr rfl⟩
        refine ret_k (tup_k (ac_v (ev_word (K := K) ["and", "or"] (ea_cons ev_c (ea_cons ev_c ea_nil)) (ev_is (ev_op (ev_var rfl) ev_c rv_I0) (by congr 1; omega)) hw (by decide)) fun H8 e8 => ac_v (ev_var rfl) fun H9 e9 => ac_k (sayC (d := d') (hp5.mono ((e6.trans e8).trans e9)) rfl (ev_is (ev_op (ev_var rfl) ev_c rv_I0) (by show V.int (((d' + 1 : Nat) : Int) - 1) = _; congr 1; omega)) rfl rfl (by omega) (ln.mono (wo_sub (e05.trans ((e6.trans e8).trans e9)))) (lr.mono (wo_sub (e05.trans ((e6.trans e8).trans e9)))) fun v2 t2 Ha ea hpa aa fa => ac_nil ⟨sz_of (by show 3 ≤ 100000; decide), fun q hq => ?_⟩)))
        have e59 : Ex H5 H9 := (e6.trans e8).trans e9
        have e0a : Ex (wo H p) Ha := wo_tr (e05.trans e59) ea
        have a1 : At Ha v1 t1 := a5.mono ((Tu.ex e59).trans (tu_wo (hp5.mono e59) ea))
        refine k _ (.bi wd t1 t2) _ (e0a.trans (Ex.new hq)) (hpa.mono (Ex.new hq)) ⟨q, v1, v2, rfl, upd_same, a1.mono (Tu.ex (Ex.new hq)), aa.mono (Tu.ex (Ex.new hq))⟩ ⟨.inr ⟨hwt, f5.f, fa.f⟩, ⟨f5.has, fa.has⟩, ?_, ?_, ⟨f5.sm, fa.sm⟩⟩
        · show max (depth t1) (depth t2) + 1 ≤ d' + 1 + 3
          have := f5.dp
          have := fa.dp
          omega
        · show (pcs t1 ++ pcs t2).length + 1 ≤ 2 * szS d' + 1
          rw [List.length_append]
          have := f5.sz
          have := fa.sz
          omega
end
end K22
end
section
set_option maxHeartbeats 4000000
namespace K22
open PySem L2 Evl G TM TD
section
variable {K : PySem.W.Frag} {σ : L2.St} {H : Hp} {ta tb te tl : TE} {tt : TT} {tu tz : TS} {D : Ends} {xs ys : List V} {a : Addr} {j : Nat} {ts : List Td}
theorem cut1 (x : V) (l : List V) : cutV (x :: l) (some 1) none = l := by
  show ((x :: l).drop (min 1 (l.length + 1))).take (l.length + 1 - min 1 (l.length + 1)) = l
  rw [Nat.min_eq_left (by omega)]
  simp
theorem el_ifL {b : Bool} (h : EvT tt σ H b) (h1 : b = true → EvL ta σ H xs) (h2 : b = false → EvL tb σ H xs) : EvL (tIf tt ta tb) σ H xs := fun H1 e Q q => h H1 e _ fun H2 e2 => by
  cases b with
  | true => rw [if_pos rfl]; exact h1 rfl H2 (e.trans e2) Q fun p H3 hp e3 h3 => q p H3 (fresh_back e2 hp) (e2.trans e3) h3
  | false => rw [if_neg (by decide)]; exact h2 rfl H2 (e.trans e2) Q fun p H3 hp e3 h3 => q p H3 (fresh_back e2 hp) (e2.trans e3) h3
/-- xs + a new list -/
theorem el_catV (ha : Ev ta σ H (.ref a)) (hs : H a = some (.lst xs)) (hb : EvL tb σ H ys) (hz : xs.length + ys.length ≤ 100000) : EvL (tOp rCat ta tb) σ H (xs ++ ys) := fun H1 e Q k => ha H1 e _ fun H2 e2 => hb H2 (e.trans e2) _ fun q H3 hq e3 h3 =>
  ⟨a, q, xs, ys, rfl, rfl, ((e.trans e2).trans e3) a _ hs, h3, sz_of hz, fun p hp => k p _ (fresh_back (e2.trans e3) hp) ((e2.trans e3).trans (Ex.new hp)) upd_same⟩
theorem q_forLs (h : EvLs tl σ H ts) (Pv : Addr → List V → Nat → L2.St → Hp → Prop) (h0 : ∀ p ys H1, H p = none → Ex H H1 → H1 p = some (.lst ys) → Ats H1 ys ts → Pv p ys 0 σ H1) (hl : ∀ p ys i σ' H', i ≤ ys.length → Pv p ys i σ' H' → SqL K H' p ys)
    (hs : ∀ p ys i x σ' H', ys[i]? = some x → Pv p ys i σ' H' → tu { D with nx := Pv p ys (i + 1), ct := Pv p ys (i + 1), bk := tz D } (σ'.set j (some x)) H') (hd : ∀ p ys σ' H', ys.length = ts.length → Pv p ys ys.length σ' H' → tz D σ' H') : tSeq (tFor (iList K tl) (gName j) tu) tz D σ H :=
  h H (Ex.refl H) _ fun p ys H1 hp e h1 k => ⟨p, rfl, ⟨ys, sq_of h1⟩, for_list (D := { D with nx := tz D }) (Pv p ys) (h0 p ys H1 hp e h1 k) (hl p ys) (fun i x σ' H' hi pv => hs p ys i x σ' H' hi pv) (fun σ' H' pv => hd p ys σ' H' k.len pv)⟩
end
theorem given_drop (l1 l2 : List V) (h : l1.length ≤ 1) : given (l1 ++ l2).length (fun i => decide (l1.length ≤ i)) (fun i => (l1 ++ l2).getD i .non) = l2 := by
  rcases l1 with _ | ⟨v, _ | ⟨v2, t⟩⟩
  · have := given_filter l2 V.non (fun _ => true) id
    rw [filter_yes, List.map_id] at this
    exact this
  rotate_left
  · exact absurd (Nat.le_of_succ_le_succ h) (Nat.not_succ_le_zero _)
  · have := given_filter l2 V.non (fun _ => true) id
    rw [filter_yes, List.map_id] at this
    unfold given at this ⊢
    show (List.filter (fun i => decide (1 ≤ i)) (List.range (l2.length + 1))).map (fun i => (v :: l2).getD i .non) = l2
    rw [List.range_succ_eq_map, List.filter_cons]
    show (List.filter (fun i => decide (1 ≤ i)) ((List.range l2.length).map Nat.succ)).map (fun i => (v :: l2).getD i .non) = l2
    rw [List.filter_map, List.map_map]
    conv => rhs; rw [← this]
    have e2 : (fun i => decide (1 ≤ i)) ∘ Nat.succ = fun _ : Nat => true := by
      funext i
      show decide (1 ≤ i + 1) = true
      exact decide_eq_true (by omega)
    rw [e2]
    rfl
theorem own_le (t : Td) : (own t).length ≤ 1 := by cases t <;> simp [own]
def Told (t : Td) : Prop := IsF t ∨ IsS t
theorem Told.kid {t u : Td} (h : Told t) (hu : u ∈ kids t) : Told u := by
  rcases h with h | h
  · exact .inl ((isF_top h).2 u hu)
  · rcases (isS_top h).2 with ⟨_, k⟩ | ⟨_, k⟩
    · exact .inl (k u hu)
    · exact .inr (k u hu)
theorem depth_kid {t u : Td} (hu : u ∈ kids t) : depth u < depth t := by
  cases t with
  | lf w v => cases hu
  | ov w v t => cases List.mem_singleton.mp hu; exact Nat.lt_succ_self _
  | nt t => cases List.mem_singleton.mp hu; exact Nat.lt_succ_self _
  | bi w t u' =>
    show depth u < max (depth t) (depth u') + 1
    rcases List.mem_cons.mp hu with e | e
    · subst e; omega
    · cases List.mem_singleton.mp e; omega
theorem size_kid {t u : Td} (hu : u ∈ kids t) : (pcs u).length < (pcs t).length := by
  have h1 := size_kids t
  have h2 : (pcs u).length ≤ sizes (kids t) := by
    have : ∀ ts : List Td, u ∈ ts → (pcs u).length ≤ sizes ts := by
      intro ts
      induction ts with
      | nil => intro h; cases h
      | cons v ts ih =>
        intro h
        rw [sizes_cons]
        rcases List.mem_cons.mp h with e | e
        · subst e; omega
        · have := ih e; omega
    exact this _ hu
  omega
theorem Told.flat {t : Td} (h : Told t) : ∀ v ∈ own t, (∃ x, v = V.str x) ∨ ∃ i, v = V.int i := by
  intro v hv
  cases t with
  | lf w u =>
    cases List.mem_singleton.mp hv
    rcases h with h | h
    · rcases h with ⟨_, n, _, rfl⟩ | ⟨_, i, rfl⟩
      · exact .inl ⟨n, rfl⟩
      · exact .inr ⟨i, rfl⟩
    · exact h.elim
  | ov w u t =>
    cases List.mem_singleton.mp hv
    rcases h with h | h
    · rcases h.1 with ⟨_, n, _, rfl⟩ | ⟨_, i, rfl⟩
      · exact .inl ⟨n, rfl⟩
      · exact .inr ⟨i, rfl⟩
    · exact h.elim
  | nt t => cases hv
  | bi w t u => cases hv
def sp_parts : Sp := fun vs H Q _ => ∃ x t, vs = [x] ∧ At H x t ∧ Told t ∧ RetLs (kids t) H Q
theorem spl_parts {x : V} {t : Td} {H : Hp} (h : At H x t) (o : Told t) : SpLs sp_parts ([x] ++ []) H (kids t) := fun H1 e Q q E => ⟨x, t, rfl, h.mono (Tu.ex e), o, q⟩
def sp_size (n : Nat) : Sp := fun vs H Q _ => ∃ x t, vs = [x] ∧ At H x t ∧ Told t ∧ depth t < n ∧ RetV (.int ((pcs t).length : Int)) H Q
theorem spv_size {n : Nat} {x : V} {t : Td} {H : Hp} (h : At H x t) (o : Told t) (d : depth t < n) : SpV (sp_size n) ([x] ++ []) H (.int ((pcs t).length : Int)) := fun H1 e Q q E => ⟨x, t, rfl, h.mono (Tu.ex e), o, d, q⟩
section
variable {P : Program} {w : World} {K : PySem.W.Frag} {mg : Str → Option Value} {base : Heap} {C SZ SY : Addr}
theorem ok_parts {f : Addr} {fd : FuncData} (F : Fun K "_law_parts" "_law_parts" s__law_parts f fd) (T : Txt P w K mg C SZ SY) : FnOk P w K mg base CX0 1 f fd ["_law_told"] sp_parts := by
  refine F.ok sc__law_parts (fun vs H Q E h => ?_) (fun cdv A outer s H vs Q E hr h => ?_)
  · obtain ⟨x, t, rfl, _⟩ := h
    rfl
  · obtain ⟨x, t, rfl, ht, hk, k⟩ := h
    refine ⟨_, (pss_one (ps_ret (pe_lc (own := [("_law_part", 1)]) (g := (gName 1)) (by rfl) sc__law_parts.nd (piT (K := K) rfl (pe_slice (slA (K := K) rfl) (pv 0) (po_some pe_int) po_none)) (blkOk_by (own := [("_law_part", 1)]) (N := ["_law_told", "_law_part"]) (sc := defScope s__law_parts) (by decide +kernel)) (fun _ _ _ _ _ => (pg_name (i := 1) sc__law_parts.nd rfl (Or.inl rfl))) (fun _ _ _ _ _ => (pts_one (pt_val (pe_callB (isiS (K := K) rfl) (by rfl) T.b_isinstance (by decide +kernel) (pa_cons (pv 1) (pa_cons (pe_bltn (v := .ty "tuple") (u := .type "tuple") (by rfl) T.b_tuple (by decide +kernel) rfl) pa_nil)))))) (fun _ _ _ _ _ => (pv 1))))), ?_⟩
    obtain ⟨a, ys, rfl, ha, hy⟩ := id ht.open
    have hsl : EvU (tSl (rSlA K) (tVar 0) (tPart (tC (.int 1))) tNoPart) [some (.ref a), none] H (own t ++ ys) := by
      have := eu_slA (K := K) (σ := [some (V.ref a), none]) (ev_var (i := 0) rfl) (eo_some (ev_c (v := .int 1))) eo_none (st_of ha) (by
        rintro ⟨z, _⟩
        exact absurd z (by show ¬ (min 1 ((own t ++ ys).length + 1) = 0); omega))
      rw [cut1] at this
      exact this
    have hlen : (own t ++ ys).length ≤ 40000 := by rw [List.length_append, hy.len]; have := own_le t; have := kids_le t; omega
    have hc := el_lcU (K := K) (j := 1) (vs := [1]) (tt := tTest (tCB (rIsi K) (tCons (tVar 1) (tCons (tC (.ty "tuple")) tNil)))) (te := tVar 1) (fun i => decide ((own t).length ≤ i)) (fun i => (own t ++ ys).getD i .non) hsl hlen (fun _ => rfl) (fun i y H1 e1 hi => by
      by_cases ho : (own t).length ≤ i
      · rw [decide_eq_true ho]
        rw [List.getElem?_append_right ho] at hi
        obtain ⟨u, hu, hyu⟩ := hy.get hi
        obtain ⟨b, zs, rfl, hb, _⟩ := hyu.open
        exact et_test (ev_isiB (b := true) (ev_var (i := 1) rfl) (fun H2 e2 => .base (.tup ((e1.trans e2) b _ hb))) (by decide +kernel))
      · rw [decide_eq_false ho]
        rw [List.getElem?_append_left (by omega)] at hi
        rcases hk.flat y (List.mem_of_getElem? hi) with ⟨z, rfl⟩ | ⟨z, rfl⟩
        · exact et_test (ev_isiB (b := false) (ev_var (i := 1) rfl) (fun H2 e2 => .base (.str z)) (by decide +kernel))
        · exact et_test (ev_isiB (b := false) (ev_var (i := 1) rfl) (fun H2 e2 => .base (.int z)) (by decide +kernel))) (fun i y H1 e1 hi _ => by
      rw [List.getD_eq_getElem?_getD, hi]
      exact ev_var (i := 1) rfl)
    rw [given_drop _ _ (own_le t)] at hc
    exact s_retL hc fun p H1 hp e h1 => k p ys H1 hp e h1 (hy.mono (Tu.ex e))
theorem ok_size {f f1 : Addr} {fd fd1 : FuncData} (F : Fun K "_law_size" "_law_size" s__law_size f fd) (T : Txt P w K mg C SZ SY) (me : Me K mg "_law_size" f fd ["_law_told"]) (c__law_parts : Cal P w K mg base "_law_parts" f1 fd1 ["_law_told"] 1 sp_parts) :
    ∀ n, FnOk P w K mg base CX0 (n + 2) f fd ["_law_told"] (sp_size n) := by
  intro n
  induction n with
  | zero => exact ⟨fun vs H Q E h => by obtain ⟨x, t, _, _, _, hd, _⟩ := h; exact absurd hd (Nat.not_lt_zero _), fun A outer s H args us vs Q E _ _ _ _ h => by obtain ⟨x, t, _, _, _, hd, _⟩ := h; exact absurd hd (Nat.not_lt_zero _)⟩
  | succ n ih =>
  have c__law_size : Cal P w K mg base "_law_size" f fd ["_law_told"] (n + 2) (sp_size n) := ⟨ih, me.mgx, me.kp, me.bd⟩
  refine F.ok (k := n + 2) sc__law_size (fun vs H Q E h => ?_) (fun cdv A outer s H vs Q E hr h => ?_)
  · obtain ⟨x, t, rfl, _⟩ := h
    rfl
  · obtain ⟨x, t, rfl, ht, hk, hd, k⟩ := h
    refine ⟨_, (pss_one (ps_ret (pe_op op_add pe_int (pe_callB (sumL (K := K) rfl rfl) (by rfl) T.b_sum (by decide +kernel) (pa_cons (pe_lc (own := [("_law_part", 1)]) (g := (gName 1)) (by rfl) sc__law_size.nd (piL (K := K) rfl (pe_call c__law_parts.ok (hr.mono (by omega)) (by rfl) c__law_parts.mgx c__law_parts.kp c__law_parts.bd .nil pass0 (pa_cons (pv 0) pa_nil))) (blkOk_by (own := [("_law_part", 1)]) (N := ["_law_told", "_law_part"]) (sc := defScope s__law_size) (by decide +kernel)) (fun _ _ _ _ _ => (pg_name (i := 1) sc__law_size.nd rfl (Or.inl rfl))) (fun _ _ _ _ _ => pts_nil) (fun _ _ _ _ _ => (pe_call c__law_size.ok (hr.mono (by omega)) (by rfl) c__law_size.mgx c__law_size.kp c__law_size.bd .nil pass0 (pa_cons (pv 1) pa_nil)))) pa_nil))))), ?_⟩
    have eqn : ((kids t).filter fun _ => true).map (fun t => V.int ((pcs t).length : Int)) = ((kids t).map fun t => ((pcs t).length : Int)).map V.int := by
      rw [filter_yes, List.map_map] <;> rfl
    refine s_ret (ev_is (ev_op ev_c (ev_cbL (el_eq (el_lcLs (K := K) (j := 1) (vs := [1]) (fun _ => true) (fun t => V.int ((pcs t).length : Int)) (els_call (ea_cons (ev_var rfl) ea_nil) (spl_parts ht hk)) (by have := kids_le t; omega) (fun _ => rfl) (fun _ _ _ _ _ _ => lc_yes) (fun y u H1 e1 hy hu _ => ev_call (ea_cons (ev_var (i := 1) rfl) ea_nil) (spv_size hy (hk.kid hu) (by have := depth_kid hu; omega)))) eqn) fun p H1 e h1 => rc_sum (sq_of h1)) rv_I0) (w := .int ((pcs t).length : Int)) ?_) fun H1 e => k H1 e
    rw [← sizes_sum, size_kids t]
    congr 1
end
end K22
end
section
set_option maxHeartbeats 4000000
namespace K22
open PySem L2 Evl G TM TD
/-- the letters behind some words -/
def letL (ws : List Str) (t : Td) : List Str := ((pcs t).filter fun u => decide (word u ∈ ws)).map ownS
theorem letL_len (ws : List Str) (t : Td) : (letL ws t).length ≤ (pcs t).length := by unfold letL; rw [List.length_map]; exact List.length_filter_le _ _
def own1 (ws : List Str) (t : Td) : List Str := if word t ∈ ws then [ownS t] else []
theorem letL_kids (ws : List Str) (t : Td) : letL ws t = own1 ws t ++ (kids t).flatMap (letL ws) := by
  unfold letL
  rw [pcs_kids, List.filter_cons]
  have key : ∀ ts : List Td, (List.filter (fun u => decide (word u ∈ ws)) (ts.flatMap pcs)).map ownS = ts.flatMap fun t => ((pcs t).filter fun u => decide (word u ∈ ws)).map ownS := by
    intro ts
    induction ts with
    | nil => rfl
    | cons t ts ih => rw [List.flatMap_cons, List.flatMap_cons, List.filter_append, List.map_append, ih]
  unfold own1
  by_cases h : word t ∈ ws
  · rw [if_pos (decide_eq_true h), if_pos h, List.map_cons, key] <;> rfl
  · rw [if_neg (by simp [h]), if_neg h, key] <;> rfl
def NiceW (ws : List Str) (t : Td) : Prop := ∀ u ∈ pcs t, word u ∈ ws → ∃ n, own u = [.str n]
theorem NiceW.kid {ws : List Str} {t u : Td} (h : NiceW ws t) (hu : u ∈ kids t) : NiceW ws u := fun v hv => h v (by
  rw [pcs_kids]
  exact List.mem_cons_of_mem _ (List.mem_flatMap.mpr ⟨u, hu, hv⟩))
theorem NiceW.top {ws : List Str} {t : Td} (h : NiceW ws t) (k : word t ∈ ws) : own t = [.str (ownS t)] := by
  obtain ⟨n, hn⟩ := h t (by rw [pcs_kids]; exact List.mem_cons_self) k
  unfold ownS
  rw [hn]
def sp_letters (K : PySem.W.Frag) (n : Nat) : Sp := fun vs H Q _ => ∃ x t wl ws, vs = [x, .ref wl] ∧ At H x t ∧ Told t ∧ depth t < n ∧ SqL K H wl (ws.map V.str) ∧ NiceW ws t ∧ (pcs t).length ≤ 63 ∧ RetL ((nrm (letL ws t)).map V.str) H Q
theorem spl_letters {K : PySem.W.Frag} {n : Nat} {x : V} {t : Td} {wl : Addr} {ws : List Str} {H : Hp} (h : At H x t) (o : Told t) (d : depth t < n) (hw : SqL K H wl (ws.map V.str)) (hn : NiceW ws t) (z : (pcs t).length ≤ 63) :
    SpL (sp_letters K n) ([x, .ref wl] ++ []) H ((nrm (letL ws t)).map V.str) := fun H1 e Q q E => ⟨x, t, wl, ws, rfl, h.mono (Tu.ex e), o, d, ex_l e hw, hn, z, q⟩
/-- so far: the own letter, then the sorted letters of some parts -/
noncomputable def gath (ws : List Str) (t : Td) (us : List Td) : List Str := own1 ws t ++ us.flatMap fun u => nrm (letL ws u)
theorem gath_len (ws : List Str) (t : Td) (us : List Td) : (gath ws t us).length ≤ 1 + sizes us := by
  unfold gath
  rw [List.length_append]
  have h1 : (own1 ws t).length ≤ 1 := by unfold own1; split <;> simp
  have h2 : (us.flatMap fun u => nrm (letL ws u)).length ≤ sizes us := by
    induction us with
    | nil => exact Nat.le_refl _
    | cons u us ih =>
      rw [List.flatMap_cons, List.length_append, sizes_cons]
      have := nrm_len (letL ws u)
      have := letL_len ws u
      omega
  omega
theorem gath_all (ws : List Str) (t : Td) : nrm (gath ws t (kids t)) = nrm (letL ws t) := by
  refine nrm_congr fun k => ?_
  rw [letL_kids]
  unfold gath
  rw [List.mem_append, List.mem_append, List.mem_flatMap, List.mem_flatMap]
  constructor
  · rintro (h | ⟨u, hu, hk⟩)
    · exact .inl h
    · exact .inr ⟨u, hu, mem_nrm.mp hk⟩
  · rintro (h | ⟨u, hu, hk⟩)
    · exact .inl h
    · exact .inr ⟨u, hu, mem_nrm.mpr hk⟩
theorem gath_next (ws : List Str) (t u : Td) (us : List Td) : gath ws t (us ++ [u]) = gath ws t us ++ nrm (letL ws u) := by
  unfold gath
  rw [List.flatMap_append, List.append_assoc]
  congr 2
  simp
/-- a saying that is short enough -/
structure ShOk (N R : List Str) (t : Td) : Prop where
  f : IsS t
  has : Has N R t
  dp : depth t ≤ 5
  sz : (pcs t).length ≤ 58
  sm : Small t
def sp_short (K : PySem.W.Frag) : Sp := fun vs H Q _ => ∃ (p : Addr) (nl rl : Addr) (N R : List Str), vs = [.ref p, .int 2, .ref nl, .ref rl, .int 58] ∧ PotAt H p ∧ LOk K (wo H p) nl N nameL ∧ LOk K (wo H p) rl R ruleL ∧
  ∀ v t H2, Ex (wo H p) H2 → PotAt H2 p → At H2 v t → ShOk N R t → Q v H2
section
variable {P : Program} {w : World} {K : PySem.W.Frag} {mg : Str → Option Value} {base : Heap} {C SZ SY : Addr}
theorem ok_letters {f f1 : Addr} {fd fd1 : FuncData} (F : Fun K "_law_letters" "_law_letters" s__law_letters f fd) (T : Txt P w K mg C SZ SY) (me : Me K mg "_law_letters" f fd ["_law_told", "_law_words"]) (c__law_parts : Cal P w K mg base "_law_parts" f1 fd1 ["_law_told"] 1 sp_parts) :
    ∀ n, FnOk P w K mg base CX0 (n + 2) f fd ["_law_told", "_law_words"] (sp_letters K n) := by
  intro n
  induction n with
  | zero => exact ⟨fun vs H Q E h => by obtain ⟨x, t, wl, ws, _, _, _, hd, _⟩ := h; exact absurd hd (Nat.not_lt_zero _), fun A outer s H args us vs Q E _ _ _ _ h => by obtain ⟨x, t, wl, ws, _, _, _, hd, _⟩ := h; exact absurd hd (Nat.not_lt_zero _)⟩
  | succ n ih =>
  have c__law_letters : Cal P w K mg base "_law_letters" f fd ["_law_told", "_law_words"] (n + 2) (sp_letters K n) := ⟨ih, me.mgx, me.kp, me.bd⟩
  refine F.ok (k := n + 2) sc__law_letters (fun vs H Q E h => ?_) (fun cdv A outer s H vs Q E hr h => ?_)
  · obtain ⟨x, t, wl, ws, rfl, _⟩ := h
    rfl
  · obtain ⟨x, t, wl, ws, rfl, ht, hk, hd, hwl, hn, hz, k⟩ := h
    refine ⟨_, (pss_cons (ps_set (i := 2) sc__law_letters.nd rfl (Or.inl rfl) (pe_ifExp (pt_cmpR (inS (K := K) rfl) (pe_ix (ixT (K := K) rfl) (pv 0) pe_int (fun _ _ => rfl)) (pv 1) (by rfl)) (pe_lst (pa_cons (pe_ix (ixT (K := K) rfl) (pv 0) pe_int (fun _ _ => rfl)) pa_nil)) (pe_lst pa_nil))) (pss_cons (ps_for PassesOwn.never rfl (piL (K := K) rfl (pe_call c__law_parts.ok (hr.mono (by omega)) (by rfl) c__law_parts.mgx c__law_parts.kp c__law_parts.bd .nil pass0 (pa_cons (pv 0) pa_nil))) (pg_name (i := 3) sc__law_letters.nd rfl (Or.inl rfl)) (pss_one (ps_set (i := 2) sc__law_letters.nd rfl (Or.inl rfl) (pe_op op_cat (pv 2) (pe_call c__law_letters.ok (hr.mono (by omega)) (by rfl) c__law_letters.mgx c__law_letters.kp c__law_letters.bd .nil pass0 (pa_cons (pv 3) (pa_cons (pv 1) pa_nil))))))) (pss_one (ps_ret (pe_callB (SX.cr_sorted rfl hr.units) (by rfl) T.b_sorted (by decide +kernel) (pa_cons (pe_callTy (SX.cr_set rfl) (by rfl) T.b_set (by decide +kernel) (pa_cons (pv 2) pa_nil)) pa_nil)))))), ?_⟩
    refine q_asgL (xs := (own1 ws t).map V.str) (el_ifL (b := decide (word t ∈ ws)) (et_is (et_test (ev_op (ev_wordA (K := K) (ev_var rfl) ht) (ev_var rfl) (rv_isL hwl rfl (by rw [List.all_map]; exact List.all_eq_true.mpr fun _ _ => rfl)))) (inV_str _ _)) (fun hb => ?_) (fun hb => ?_)) fun fo H1 hfo e1 h1 => ?_
    · have hm : word t ∈ ws := of_decide_eq_true hb
      have : own1 ws t = [ownS t] := by unfold own1; rw [if_pos hm]
      rw [this]
      exact el_lst (ea_cons (ev_ownA (K := K) (ev_var rfl) ht (hn.top hm)) ea_nil) (by show 1 ≤ 100000; decide)
    · have hm : ¬ word t ∈ ws := of_decide_eq_false hb
      have : own1 ws t = [] := by unfold own1; rw [if_neg hm]
      rw [this]
      exact el_lst ea_nil (by show 0 ≤ 100000; decide)
    have hg0 : own1 ws t = gath ws t ((kids t).take 0) := by unfold gath; simp
    refine q_forLs (ts := kids t) (els_call (ea_cons (ev_var rfl) ea_nil) (spl_parts (ht.mono (Tu.ex e1)) hk)) (fun p ys i σ' H' => ∃ (fo : Addr) (o : Option V), σ' = [some x, some (.ref wl), some (.ref fo), o] ∧ Ex H H' ∧ H' p = some (.lst ys) ∧ H' fo = some (.lst ((gath ws t ((kids t).take i)).map V.str)) ∧ Ats H' ys (kids t))
      (fun p ys H2 hp e2 h2 k2 => ⟨fo, none, rfl, e1.trans e2, h2, by rw [← hg0]; exact e2 fo _ h1, k2⟩) (fun p ys i σ' H' _ h => by obtain ⟨_, _, _, _, h2, _⟩ := h; exact sq_of h2) (fun p ys i y σ' H' hi h => ?_) (fun p ys σ' H' hlen h => ?_)
    · obtain ⟨fo', o, rfl, e3, h3, h4, k3⟩ := h
      obtain ⟨u, hu, hyu⟩ := k3.get hi
      have hmu := List.mem_of_getElem? hu
      have hsz : (pcs u).length ≤ 63 := by have := size_kid hmu; omega
      have hgl := gath_len ws t ((kids t).take i)
      have hst : sizes ((kids t).take i) ≤ 63 := by
        have h5 := size_kids t
        have h6 : sizes (kids t) = sizes ((kids t).take i) + sizes ((kids t).drop i) := by rw [← sizes_app, List.take_append_drop]
        omega
      refine s_asgL (el_catV (ev_var rfl) h4 (el_call (ea_cons (ev_var rfl) (ea_cons (ev_var rfl) ea_nil)) (spl_letters hyu (hk.kid hmu) (by have := depth_kid hmu; omega) (ex_l e3 hwl) (hn.kid hmu) hsz)) (by
        rw [List.length_map, List.length_map]
        have := nrm_len (letL ws u)
        have := letL_len ws u
        omega)) fun q H5 hq e5 h5 => ⟨q, some y, rfl, e3.trans e5, e5 p _ h3, ?_, k3.mono (Tu.ex e5)⟩
      have et : (kids t).take (i + 1) = (kids t).take i ++ [u] := by rw [List.take_add_one, hu] <;> rfl
      rw [h5, et, gath_next, List.map_append]
    · obtain ⟨fo', o, rfl, e3, h3, h4, k3⟩ := h
      rw [hlen, List.take_length] at h4
      have hgl := gath_len ws t (kids t)
      have h5 := size_kids t
      refine s_retL (xs := (nrm (letL ws t)).map V.str) (fun H5 e5 Q' q' => ?_) fun q H5 hq e5 h5 => k q H5 (fresh_back e3 hq) (e3.trans e5) h5
      rw [← gath_all] at q'
      refine (ev_var (i := 2) (v := .ref fo') rfl) H5 (Ex.refl _) _ fun H6 e6 => ?_
      refine ⟨fo', gath ws t (kids t), rfl, .inl (sq_of ((e5.trans e6) fo' _ h4)), by omega, fun s hs => ⟨s, gath ws t (kids t), rfl, upd_same, by omega, fun ys' p' hsd hnd hm hp => ?_⟩⟩
      have hp2 : H6 p' = none := fresh_back (Ex.new hs) hp
      rw [nrm_eq ⟨hsd, hnd, hm⟩] at q'
      exact q' p' _ (fresh_back e6 hp2) ((e6.trans (Ex.new hs)).trans (Ex.new hp)) upd_same
theorem ok_short {f f1 f2 : Addr} {fd fd1 fd2 : FuncData} (F : Fun K "_law_short" "_law_short" s__law_short f fd) (T : Txt P w K mg C SZ SY) (c__law_saying : Cal P w K mg base "_law_saying" f1 fd1 ["_law_pot_here", "_law_deep", "_law_names", "_law_rules"] 12 (sp_saying K 3)) (c__law_size : Cal P w K mg base "_law_size" f2 fd2 ["_law_told"] 12 (sp_size 10)) : FnOk P w K mg base CX0 13 f fd ["_law_pot_here", "_law_deep", "_law_names", "_law_rules", "_law_most"] (sp_short K) := by
  refine F.ok sc__law_short (fun vs H Q E h => ?_) (fun cdv A outer s H vs Q E hr h => ?_)
  · obtain ⟨p, nl, rl, N, R, rfl, _⟩ := h
    rfl
  · obtain ⟨p, nl, rl, N, R, rfl, hp, ln, lr, k⟩ := h
    refine ⟨_, (pss_cons (ps_set (i := 5) sc__law_short.nd rfl (Or.inl rfl) (pe_call c__law_saying.ok (hr.mono (by decide)) (by rfl) c__law_saying.mgx c__law_saying.kp c__law_saying.bd .nil pass0 (pa_cons (pv 0) (pa_cons (pv 1) (pa_cons (pv 2) (pa_cons (pv 3) pa_nil)))))) (pss_one (ps_ret (pe_ifExp (pt_cmpR op_le (pe_call c__law_size.ok (hr.mono (by decide)) (by rfl) c__law_size.mgx c__law_size.kp c__law_size.bd .nil pass0 (pa_cons (pv 5) pa_nil)) (pv 4) (nomark _)) (pv 5) (pe_call c__law_saying.ok (hr.mono (by decide)) (by rfl) c__law_saying.mgx c__law_saying.kp c__law_saying.bd .nil pass0 (pa_cons (pv 0) (pa_cons pe_int (pa_cons (pv 2) (pa_cons (pv 3) pa_nil))))))))), ?_⟩
    refine asg_k (sayC (d := 2) hp rfl (ev_var rfl) rfl rfl (by decide) ln lr fun v1 t1 H1 e1 hp1 a1 f1 => ?_)
    have hd1 := f1.dp
    refine ret_k (if_mid (b := decide (((pcs t1).length : Int) ≤ 58)) (fun v H2 => ∃ t, Ex (wo H p) H2 ∧ PotAt H2 p ∧ At H2 v t ∧ ShOk N R t) (et_test (ev_op (ev_call (ea_cons (ev_var rfl) ea_nil) (spv_size a1 (.inr f1.f) (by omega))) (ev_var rfl) rv_I0)) (fun hb H2 e2 Q' q' => v_k (ev_var rfl) fun H3 e3 => q' _ H3 ⟨t1, e1.trans (e2.trans e3), hp1.mono (e2.trans e3), a1.mono (Tu.ex (e2.trans e3)), ⟨f1.f, f1.has, by omega, by have := of_decide_eq_true hb; omega, f1.sm⟩⟩) (fun hb H2 e2 Q' q' => sayC (d := 0) (hp1.mono e2) rfl ev_c rfl rfl (by decide) (ln.mono (wo_sub (e1.trans e2))) (lr.mono (wo_sub (e1.trans e2))) fun v2 t2 H3 e3 hp3 a3 f3 => q' _ H3 ⟨t2, wo_tr (e1.trans e2) e3, hp3, a3, ⟨f3.f, f3.has, by have := f3.dp; omega, by have : (pcs t2).length ≤ 15 := f3.sz; omega, f3.sm⟩⟩) ?_)
    rintro v H2 ⟨t, x1, x2, x3, x4⟩
    exact k v t H2 x1 x2 x3 x4
end
end K22
end
section
set_option maxHeartbeats 4000000
namespace K22
open PySem L2 Evl G TM TD
def leadsL (ns : List Int) : List Int := (List.range ns.length).map fun (i : Nat) => ns.getD i 0 - (i : Int)
theorem leads_given (ns : List Int) : given ns.length (fun _ => true) (fun k => V.int (ns.getD k 0 - (k : Int))) = (leadsL ns).map V.int := by
  unfold given leadsL
  rw [filter_yes, List.map_map] <;> rfl
theorem leads_ne {ns : List Int} (g : Good ns) : leadsL ns ≠ [] := by
  intro h
  have := congrArg List.length h
  unfold leadsL at this
  rw [List.length_map, List.length_range] at this
  have h1 : ns.length = 0 := this
  have := g.pos
  omega
/-- days that are near 0 -/
def Near (ns : List Int) : Prop := ∀ i, i < ns.length → -1000 ≤ ns.getD i 0 ∧ ns.getD i 0 ≤ 1000
theorem mem_leads {ns : List Int} {m : Int} : m ∈ leadsL ns ↔ ∃ i, i < ns.length ∧ m = ns.getD i 0 - (i : Int) := by
  unfold leadsL
  rw [List.mem_map]
  constructor
  · rintro ⟨i, hi, rfl⟩; exact ⟨i, List.mem_range.mp hi, rfl⟩
  · rintro ⟨i, hi, rfl⟩; exact ⟨i, List.mem_range.mpr hi, rfl⟩
theorem on_ge {ns : List Int} (g : Good ns) {m : Int} (h : ∀ i, i < ns.length → m ≤ ns.getD i 0 - (i : Int)) (x : Int) : x + m ≤ onL ns x := by
  obtain ⟨i, t, hi, rfl⟩ := split_at g x
  rw [on_at g hi]
  have := h i hi
  omega
structure Lead (ns : List Int) (m M : Int) : Prop where
  lo : IsMinL (leadsL ns) m
  hi : IsMaxL (leadsL ns) M
theorem lead_ex {ns : List Int} (g : Good ns) : ∃ m M, Lead ns m M := by
  obtain ⟨m, hm⟩ := isMinL_ex (leads_ne g)
  obtain ⟨M, hM⟩ := isMaxL_ex (leads_ne g)
  exact ⟨m, M, hm, hM⟩
section
variable {ns : List Int} {m M : Int} (g : Good ns) (l : Lead ns m M)
include g l
theorem Lead.ge (x : Int) : x + m ≤ onL ns x := on_ge g (fun i hi => l.lo.2 _ (mem_leads.mpr ⟨i, hi, rfl⟩)) x
theorem Lead.le (x : Int) : onL ns x ≤ x + M := on_le g (fun i hi => l.hi.2 _ (mem_leads.mpr ⟨i, hi, rfl⟩)) x
omit g in
theorem Lead.bd (b : Near ns) (z : ns.length ≤ 600) : -2000 ≤ m ∧ m ≤ 1000 ∧ -2000 ≤ M ∧ M ≤ 1000 := by
  obtain ⟨i, hi, e⟩ := mem_leads.mp l.lo.1
  obtain ⟨j, hj, e'⟩ := mem_leads.mp l.hi.1
  have := b i hi
  have := b j hj
  omega
theorem Lead.by_lo (y : Int) : y - M ≤ byL ns y := by
  have := (byL_is g y).1
  have := l.le g (byL ns y)
  omega
theorem Lead.by_hi (y : Int) : byL ns y ≤ y - m := (by_le g).mpr (by have := l.ge g (y - m); omega)
theorem Lead.til_hi (y : Int) : tilL ns y ≤ y - m := by
  refine Classical.byContradiction fun h => ?_
  have h1 := (til_le g (x := tilL ns y) (y := y)).mp (Int.le_refl _)
  have := l.ge g (tilL ns y)
  omega
theorem Lead.til_lo (y : Int) : y - M ≤ tilL ns y := (til_le g).mpr (by have := l.le g (y - M); omega)
end
def Far (x : Int) : Prop := -1000000000000000000 ≤ x ∧ x ≤ 1000000000000000000
def sp_lon (K : PySem.W.Frag) : Sp := fun vs H Q _ => ∃ (l : Addr) (ns : List Int) (x : Int), vs = [.ref l, .int x] ∧ SqL K H l (ns.map V.int) ∧ Good ns ∧ RetV (.int (onL ns x)) H Q
def sp_leads (K : PySem.W.Frag) : Sp := fun vs H Q _ => ∃ (l : Addr) (ns : List Int) (m M : Int), vs = [.ref l] ∧ SqL K H l (ns.map V.int) ∧ Good ns ∧ Lead ns m M ∧ ∀ p H2, H p = none → Ex H H2 → H2 p = some (.tup [.int m, .int M]) → Q (.ref p) H2
def sp_lby (K : PySem.W.Frag) : Sp := fun vs H Q _ => ∃ (l : Addr) (ns : List Int) (x : Int), vs = [.ref l, .int x] ∧ SqL K H l (ns.map V.int) ∧ Good ns ∧ Near ns ∧ Far x ∧ RetV (.int (byL ns x)) H Q
def sp_ltil (K : PySem.W.Frag) : Sp := fun vs H Q _ => ∃ (l : Addr) (ns : List Int) (x : Int), vs = [.ref l, .int x] ∧ SqL K H l (ns.map V.int) ∧ Good ns ∧ Near ns ∧ Far x ∧ RetV (.int (tilL ns x)) H Q
section
variable {K : PySem.W.Frag} {H : Hp} {l : Addr} {ns : List Int} {x : Int}
theorem spv_lon (h : SqL K H l (ns.map V.int)) (g : Good ns) : SpV (sp_lon K) ([.ref l, .int x] ++ []) H (.int (onL ns x)) := fun H1 e Q q E => ⟨l, ns, x, rfl, ex_l e h, g, q⟩
theorem spv_lby (h : SqL K H l (ns.map V.int)) (g : Good ns) (b : Near ns) (f : Far x) : SpV (sp_lby K) ([.ref l, .int x] ++ []) H (.int (byL ns x)) := fun H1 e Q q E => ⟨l, ns, x, rfl, ex_l e h, g, b, f, q⟩
theorem spv_ltil (h : SqL K H l (ns.map V.int)) (g : Good ns) (b : Near ns) (f : Far x) : SpV (sp_ltil K) ([.ref l, .int x] ++ []) H (.int (tilL ns x)) := fun H1 e Q q E => ⟨l, ns, x, rfl, ex_l e h, g, b, f, q⟩
end
section
variable {K : PySem.W.Frag} {σ : L2.St} {H : Hp} {tu tz : TS} {D : Ends}
/-- for i in range(lo, n), far numbers too -/
theorem q_forR2B {ta : TA} {j : Nat} {lo n : Int} (h : EvA ta σ H [.int lo, .int n]) (hn : -(2 ^ 62) ≤ lo ∧ lo < 2 ^ 62 ∧ -(2 ^ 62) ≤ n ∧ n < 2 ^ 62) (Pv : Nat → L2.St → Hp → Prop) (h0 : ∀ H1, Ex H H1 → Pv 0 σ H1)
    (hs : ∀ (i : Nat) σ' H', lo + (i : Int) < n → Pv i σ' H' → tu { D with nx := Pv (i + 1), ct := Pv (i + 1), bk := tz D } (σ'.set j (some (.int (lo + (i : Int))))) H') (hd : ∀ σ' H', Pv (n - lo).toNat σ' H' → tz D σ' H') : tSeq (tFor (iRng2 ta) (gName j) tu) tz D σ H :=
  h H (Ex.refl H) _ fun H1 e => ⟨lo, n, rfl, hn, for_range (D := { D with nx := tz D }) (lo := lo) (n := (n - lo).toNat) Pv (h0 H1 e) (fun i σ' H' hi p => hs i σ' H' (by omega) p) hd⟩
/-- for i in range(lo, n, -1) -/
theorem q_forR3B {ta : TA} {j : Nat} {lo n : Int} (h : EvA ta σ H [.int lo, .int n, .int (-1)]) (hn : -(2 ^ 62) ≤ lo ∧ lo < 2 ^ 62 ∧ -(2 ^ 62) ≤ n ∧ n < 2 ^ 62) (Pv : Nat → L2.St → Hp → Prop) (h0 : ∀ H1, Ex H H1 → Pv 0 σ H1)
    (hs : ∀ (i : Nat) σ' H', n < lo - (i : Int) → Pv i σ' H' → tu { D with nx := Pv (i + 1), ct := Pv (i + 1), bk := tz D } (σ'.set j (some (.int (lo - (i : Int))))) H') (hd : ∀ σ' H', Pv (lo - n).toNat σ' H' → tz D σ' H') : tSeq (tFor (iRng3 ta) (gName j) tu) tz D σ H :=
  h H (Ex.refl H) _ fun H1 e => ⟨lo, n, -1, (lo - n).toNat, rfl, RgC.neg hn.1 hn.2.1 hn.2.2.1 hn.2.2.2, for_it (D := { D with nx := tz D }) (walk_rangeC (lo := lo) (c := -1) (n := (lo - n).toNat)) Pv (h0 H1 e) (fun _ _ _ _ _ => True.intro) (fun i y σ' H' H'' hi p yy => by
    obtain ⟨rfl, rfl⟩ := yy
    have e9 : lo + (i : Int) * (-1) = lo - (i : Int) := by omega
    have q := hs i σ' _ (by omega) p
    rw [← e9] at q
    exact q) hd⟩
end
section
variable {P : Program} {w : World} {K : PySem.W.Frag} {mg : Str → Option Value} {base : Heap} {C SZ SY : Addr}
theorem ok_lon {f : Addr} {fd : FuncData} (F : Fun K "_law_on" "_law_on" s__law_on f fd) (T : Txt P w K mg C SZ SY) : FnOk P w K mg base CX0 1 f fd ["_law_days_here", "_law_day_here"] (sp_lon K) := by
  refine F.ok sc__law_on (fun vs H Q E h => ?_) (fun cdv A outer s H vs Q E hr h => ?_)
  · obtain ⟨l, ns, x, rfl, _⟩ := h
    rfl
  · obtain ⟨l, ns, x, rfl, hs, g, k⟩ := h
    have hp := g.posI
    have hm := g.most
    refine ⟨_, (pss_cons (ps_set (i := 2) sc__law_on.nd rfl (Or.inl rfl) (pe_op op_fdivN (pv 1) (pe_callB (lenS (K := K) rfl) (by rfl) T.b_len (by decide +kernel) (pa_cons (pv 0) pa_nil)))) (pss_one (ps_ret (pe_op op_add (pe_ix (ixL (K := K) rfl) (pv 0) (pe_op op_sub (pv 1) (pe_op op_mul (pv 2) (pe_callB (lenS (K := K) rfl) (by rfl) T.b_len (by decide +kernel) (pa_cons (pv 0) pa_nil)))) (fun _ _ => rfl)) (pe_op op_mul (pv 2) (pe_callB (lenS (K := K) rfl) (by rfl) T.b_len (by decide +kernel) (pa_cons (pv 0) pa_nil))))))), ?_⟩
    have len : ∀ H1, Ex H H1 → RC (fun xs H Q => ∃ p ys, xs = [.ref p] ∧ (SqL K H p ys ∨ SqT K H p ys) ∧ Q (.int (ys.length : Int)) H) [.ref l] H1 (.int (ns.length : Int)) := fun H1 e => rc_len (.inl (ex_l e hs)) (by rw [List.length_map])
    refine q_asg (v := .int (x / (ns.length : Int))) (ev_is (ev_op (ev_var rfl) (ev_cb (ea_cons (ev_var rfl) ea_nil) (len H (Ex.refl _))) (rv_I ⟨by omega, by omega⟩)) (by rw [Int.fdiv_eq_ediv_of_nonneg _ (by omega)])) fun H1 e1 => ?_
    have i0 := Int.emod_nonneg x (show (ns.length : Int) ≠ 0 by omega)
    have i1 := Int.emod_lt_of_pos x hp
    have i2 : x - x / (ns.length : Int) * (ns.length : Int) = x % (ns.length : Int) := by
      have := Int.emod_add_mul_ediv x (ns.length : Int)
      rw [Int.mul_comm] at this
      omega
    have ml : ∀ H2, Ex H1 H2 → Ev (tOp (rI CMul fun i j => .int (i * j)) (tVar 2) (tCB (fun xs H Q => ∃ p ys, xs = [.ref p] ∧ (SqL K H p ys ∨ SqT K H p ys) ∧ Q (.int (ys.length : Int)) H) (tCons (tVar 0) tNil))) [some (.ref l), some (.int x), some (.int (x / (ns.length : Int)))] H2 (.int (x / (ns.length : Int) * (ns.length : Int))) := fun H2 e2 =>
      ev_op (ev_var rfl) (ev_cb (ea_cons (ev_var rfl) ea_nil) (len H2 (e1.trans e2))) (rv_I (.inr ⟨by omega, by omega⟩))
    exact s_ret (ev_op (ev_op (ev_var rfl) (ev_is (ev_op (ev_var rfl) (ml H1 (Ex.refl _)) rv_I0) (congrArg V.int i2)) (rv_ixL (ex_l e1 hs) (atI_int i0 i1))) (ml H1 (Ex.refl _)) rv_I0) fun H2 e2 => k H2 (e1.trans e2)
theorem ok_leads {f : Addr} {fd : FuncData} (F : Fun K "_law_leads" "_law_leads" s__law_leads f fd) (T : Txt P w K mg C SZ SY) : FnOk P w K mg base CX0 1 f fd ["_law_days_here"] (sp_leads K) := by
  refine F.ok sc__law_leads (fun vs H Q E h => ?_) (fun cdv A outer s H vs Q E hr h => ?_)
  · obtain ⟨l, ns, m, M, rfl, _⟩ := h
    rfl
  · obtain ⟨l, ns, m, M, rfl, hs, g, ld, k⟩ := h
    have hgm := g.most
    refine ⟨_, (pss_cons (ps_setLc (i := 1) (own := [("_law_place", 2), ("_law_served", 3)]) (g := (gTup K 2 (gCons (gName 2) (gCons (gName 3) gNil)))) (by rfl) sc__law_leads.nd rfl rfl (sw_true rfl rfl rfl (by decide +kernel)) (pi_enum (by rfl) T.b_enumerate (pa_cons (pv 0) pa_nil)) (blkOk_by (own := [("_law_place", 2), ("_law_served", 3)]) (N := ["_law_days_here", "_law_some_here", "_law_place", "_law_served"]) (sc := defScope s__law_leads) (by decide +kernel)) (fun _ _ _ _ _ => (pg_tup (by rfl) (pgs_cons (pg_name (i := 2) sc__law_leads.nd rfl (Or.inl rfl)) (pgs_cons (pg_name (i := 3) sc__law_leads.nd rfl (Or.inl rfl)) pgs_nil)))) (fun _ _ _ _ _ => pts_nil) (fun _ _ _ _ _ => (pe_op op_sub (pv 3) (pv 2)))) (pss_one (ps_ret (pe_tup (pa_cons (pe_callB (minL (K := K) rfl rfl) (by rfl) T.b_min (by decide +kernel) (pa_cons (pv 1) pa_nil)) (pa_cons (pe_callB (maxL (K := K) rfl rfl) (by rfl) T.b_max (by decide +kernel) (pa_cons (pv 1) pa_nil)) pa_nil)))))), ?_⟩
    have e0 : (ns.map V.int).length = ns.length := List.length_map ..
    refine q_asgL (xs := (leadsL ns).map V.int) (by
      rw [← leads_given, ← e0]
      refine el_lcE (fun _ => true) (fun k => V.int (ns.getD k 0 - (k : Int))) (ev_var rfl) hs (by rw [e0]; omega) (fun _ _ => rfl) (fun _ _ _ _ _ => lc_yes) (fun i y H2 e2 hi _ => ?_)
      have hlt : i < ns.length := by have := (List.getElem?_eq_some_iff.mp hi).1; simpa using this
      rw [getI hlt] at hi
      cases hi
      exact ev_op (ev_var rfl) (ev_var rfl) rv_I0) fun q H1 hq e1 h1 => ?_
    exact s_retU (eu_tup (ea_cons (ev_cb (ea_cons (ev_var rfl) ea_nil) (rc_min (sq_of h1) ld.lo.1 ld.lo.2)) (ea_cons (ev_cb (ea_cons (ev_var rfl) ea_nil) (rc_max (sq_of h1) ld.hi.1 ld.hi.2)) ea_nil)) (by show 2 ≤ 100000; decide)) fun p H2 hp e2 h2 => k p H2 (fresh_back e1 hp) (e1.trans e2) h2
theorem q_leads {σ : L2.St} {H : Hp} {D : Ends} {tz : TS} {E : XK} {l : Addr} {ns : List Int} {m M : Int} {i j : Nat} (hv : σ[0]? = some (some (.ref l))) (hs : SqL K H l (ns.map V.int)) (g : Good ns) (ld : Lead ns m M) (k : ∀ H1, Ex H H1 → tz D ((σ.set i (some (.int m))).set j (some (.int M))) H1) :
    tSeq (tAsg (tCall (sp_leads K) [] E (tCons (tVar 0) tNil)) (gTup K 2 (gCons (gName i) (gCons (gName j) gNil)))) tz D σ H :=
  q_asgT2 (v := .int m) (w := .int M) (fun H1 e Q q => ⟨.ref l, hv, l, ns, m, M, rfl, ex_l e hs, g, ld, fun p H2 hp e2 h2 => q p H2 hp e2 h2⟩) k
theorem ok_lby {f f1 f2 : Addr} {fd fd1 fd2 : FuncData} (F : Fun K "_law_by" "_law_by" s__law_by f fd) (T : Txt P w K mg C SZ SY) (c__law_on : Cal P w K mg base "_law_on" f1 fd1 ["_law_days_here", "_law_day_here"] 1 (sp_lon K)) (c__law_leads : Cal P w K mg base "_law_leads" f2 fd2 ["_law_days_here"] 1 (sp_leads K)) : FnOk P w K mg base CX0 2 f fd ["_law_days_here", "_law_day_here"] (sp_lby K) := by
  refine F.ok sc__law_by (fun vs H Q E h => ?_) (fun cdv A outer s H vs Q E hr h => ?_)
  · obtain ⟨l, ns, x, rfl, _⟩ := h
    rfl
  · obtain ⟨l, ns, x, rfl, hs, g, nr, ⟨f0, f1⟩, k⟩ := h
    obtain ⟨m, M, ld⟩ := lead_ex g
    obtain ⟨b1, b2, b3, b4⟩ := ld.bd nr g.most
    have hlo := ld.by_lo g x
    have hhi := ld.by_hi g x
    refine ⟨_, (pss_cons (ps_asg (pe_call c__law_leads.ok (hr.mono (by decide)) (by rfl) c__law_leads.mgx c__law_leads.kp c__law_leads.bd .nil pass0 (pa_cons (pv 0) pa_nil)) (pg_tup (by rfl) (pgs_cons (pg_name (i := 2) sc__law_by.nd rfl (Or.inl rfl)) (pgs_cons (pg_name (i := 3) sc__law_by.nd rfl (Or.inl rfl)) pgs_nil)))) (pss_cons (ps_for PassesOwn.never rfl (pi_range2 (by rfl) T.b_range (pa_cons (pe_op op_sub (pv 1) (pv 3)) (pa_cons (pe_op op_sub (pv 1) (pv 2)) pa_nil))) (pg_name (i := 4) sc__law_by.nd rfl (Or.inl rfl)) (pss_one (ps_if (pt_cmpR op_ge (pe_call c__law_on.ok (hr.mono (by decide)) (by rfl) c__law_on.mgx c__law_on.kp c__law_on.bd .nil pass0 (pa_cons (pv 0) (pa_cons (pv 4) pa_nil))) (pv 1) (nomark _)) (pss_one (ps_ret (pv 4))) pss_nil))) (pss_one (ps_ret (pe_op op_sub (pv 1) (pv 2)))))), ?_⟩
    refine q_leads (m := m) (M := M) rfl hs g ld fun H1 e1 => ?_
    refine q_forR2B (lo := x - M) (n := x - m) (ea_cons (ev_op (ev_var rfl) (ev_var rfl) rv_I0) (ea_cons (ev_op (ev_var rfl) (ev_var rfl) rv_I0) ea_nil)) ⟨by omega, by omega, by omega, by omega⟩ (fun i σ' H' => ∃ o, σ' = [some (.ref l), some (.int x), some (.int m), some (.int M), o] ∧ Ex H H' ∧ x - M + (i : Int) ≤ byL ns x) (fun H2 e2 => ⟨none, rfl, e1.trans e2, by omega⟩) (fun i σ' H' hi h => ?_) (fun σ' H' h => ?_)
    · obtain ⟨o, rfl, e3, hb⟩ := h
      refine s_when (b := decide (onL ns (x - M + (i : Int)) ≥ x)) (et_test (ev_op (ev_call (ea_cons (ev_var rfl) (ea_cons (ev_var rfl) ea_nil)) (spv_lon (ex_l e3 hs) g)) (ev_var rfl) rv_I0)) (fun hb2 H4 e4 => ?_) (fun hb2 H4 e4 => ?_)
      · have h2 := of_decide_eq_true hb2
        have : byL ns x ≤ x - M + (i : Int) := (by_le g).mpr h2
        have e9 : x - M + (i : Int) = byL ns x := by omega
        exact s_ret (ev_is (ev_var rfl) (by rw [e9])) fun H5 e5 => k H5 ((e3.trans e4).trans e5)
      · have h2 : ¬ onL ns (x - M + (i : Int)) ≥ x := of_decide_eq_false hb2
        have : ¬ byL ns x ≤ x - M + (i : Int) := fun z => h2 ((by_le g).mp z)
        exact ⟨_, rfl, e3.trans e4, by omega⟩
    · obtain ⟨o, rfl, e3, hb⟩ := h
      have e9 : x - m = byL ns x := by omega
      exact s_ret (ev_is (ev_op (ev_var rfl) (ev_var rfl) rv_I0) (by rw [e9])) fun H5 e5 => k H5 (e3.trans e5)
theorem ok_ltil {f f1 f2 : Addr} {fd fd1 fd2 : FuncData} (F : Fun K "_law_til" "_law_til" s__law_til f fd) (T : Txt P w K mg C SZ SY) (c__law_on : Cal P w K mg base "_law_on" f1 fd1 ["_law_days_here", "_law_day_here"] 1 (sp_lon K)) (c__law_leads : Cal P w K mg base "_law_leads" f2 fd2 ["_law_days_here"] 1 (sp_leads K)) : FnOk P w K mg base CX0 2 f fd ["_law_days_here", "_law_day_here"] (sp_ltil K) := by
  refine F.ok sc__law_til (fun vs H Q E h => ?_) (fun cdv A outer s H vs Q E hr h => ?_)
  · obtain ⟨l, ns, x, rfl, _⟩ := h
    rfl
  · obtain ⟨l, ns, x, rfl, hs, g, nr, ⟨f0, f1⟩, k⟩ := h
    obtain ⟨m, M, ld⟩ := lead_ex g
    obtain ⟨b1, b2, b3, b4⟩ := ld.bd nr g.most
    have hlo := ld.til_lo g x
    have hhi := ld.til_hi g x
    refine ⟨_, (pss_cons (ps_asg (pe_call c__law_leads.ok (hr.mono (by decide)) (by rfl) c__law_leads.mgx c__law_leads.kp c__law_leads.bd .nil pass0 (pa_cons (pv 0) pa_nil)) (pg_tup (by rfl) (pgs_cons (pg_name (i := 2) sc__law_til.nd rfl (Or.inl rfl)) (pgs_cons (pg_name (i := 3) sc__law_til.nd rfl (Or.inl rfl)) pgs_nil)))) (pss_cons (ps_for PassesOwn.never rfl (pi_range3 (by rfl) T.b_range (pa_cons (pe_op op_sub (pv 1) (pv 2)) (pa_cons (pe_op op_sub (pv 1) (pv 3)) (pa_cons (pe_un un_neg pe_int) pa_nil)))) (pg_name (i := 4) sc__law_til.nd rfl (Or.inl rfl)) (pss_one (ps_if (pt_cmpR op_le (pe_call c__law_on.ok (hr.mono (by decide)) (by rfl) c__law_on.mgx c__law_on.kp c__law_on.bd .nil pass0 (pa_cons (pv 0) (pa_cons (pv 4) pa_nil))) (pv 1) (nomark _)) (pss_one (ps_ret (pv 4))) pss_nil))) (pss_one (ps_ret (pe_op op_sub (pv 1) (pv 3)))))), ?_⟩
    refine q_leads (m := m) (M := M) rfl hs g ld fun H1 e1 => ?_
    refine q_forR3B (lo := x - m) (n := x - M) (ea_cons (ev_op (ev_var rfl) (ev_var rfl) rv_I0) (ea_cons (ev_op (ev_var rfl) (ev_var rfl) rv_I0) (ea_cons (ev_un ev_c ru_neg) ea_nil))) ⟨by omega, by omega, by omega, by omega⟩ (fun i σ' H' => ∃ o, σ' = [some (.ref l), some (.int x), some (.int m), some (.int M), o] ∧ Ex H H' ∧ tilL ns x ≤ x - m - (i : Int)) (fun H2 e2 => ⟨none, rfl, e1.trans e2, by omega⟩) (fun i σ' H' hi h => ?_) (fun σ' H' h => ?_)
    · obtain ⟨o, rfl, e3, hb⟩ := h
      refine s_when (b := decide (onL ns (x - m - (i : Int)) ≤ x)) (et_test (ev_op (ev_call (ea_cons (ev_var rfl) (ea_cons (ev_var rfl) ea_nil)) (spv_lon (ex_l e3 hs) g)) (ev_var rfl) rv_I0)) (fun hb2 H4 e4 => ?_) (fun hb2 H4 e4 => ?_)
      · have h2 := of_decide_eq_true hb2
        have : x - m - (i : Int) ≤ tilL ns x := (til_le g).mpr h2
        have e9 : x - m - (i : Int) = tilL ns x := by omega
        exact s_ret (ev_is (ev_var rfl) (by rw [e9])) fun H5 e5 => k H5 ((e3.trans e4).trans e5)
      · have h2 : ¬ onL ns (x - m - (i : Int)) ≤ x := of_decide_eq_false hb2
        have : ¬ x - m - (i : Int) ≤ tilL ns x := fun z => h2 ((til_le g).mp z)
        exact ⟨_, rfl, e3.trans e4, by omega⟩
    · obtain ⟨o, rfl, e3, hb⟩ := h
      have e9 : x - M = tilL ns x := by omega
      exact s_ret (ev_is (ev_op (ev_var rfl) (ev_var rfl) rv_I0) (by rw [e9])) fun H5 e5 => k H5 (e3.trans e5)
end
end K22
end
section
set_option maxHeartbeats 4000000
namespace K22
open PySem L2 Evl G TM TD
structure Rise (ns : List Int) (f : Int) (d : Int) : Prop where
  pos : 1 ≤ ns.length
  fst : ns.getD 0 0 = f
  up : ∀ i j : Nat, i ≤ j → j < ns.length → ns.getD i 0 ≤ ns.getD j 0
  last : ns.getD (ns.length - 1) 0 - f = d
theorem rise_one (f : Int) : Rise [f] f 0 := ⟨by simp, by simp, fun i j h1 h2 => by
  have : j = 0 := by simpa using h2
  subst this
  have : i = 0 := by omega
  subst this
  exact Int.le_refl _, by simp⟩
theorem getD_app1 {ns : List Int} {v : Int} {i : Nat} (h : i < ns.length) : (ns ++ [v]).getD i 0 = ns.getD i 0 := by
  rw [List.getD_eq_getElem?_getD, List.getElem?_append_left h, ← List.getD_eq_getElem?_getD]
theorem getD_app2 {ns : List Int} {v : Int} : (ns ++ [v]).getD ns.length 0 = v := by
  rw [List.getD_eq_getElem?_getD, List.getElem?_append_right (Nat.le_refl _)]
  simp
theorem rise_app {ns : List Int} {f d s : Int} (r : Rise ns f d) (hs : 0 ≤ s) : Rise (ns ++ [ns.getD (ns.length - 1) 0 + s]) f (d + s) := by
  have hp := r.pos
  refine ⟨by simp, by rw [getD_app1 (by omega)]; exact r.fst, fun i j h1 h2 => ?_, ?_⟩
  · rw [List.length_append, List.length_singleton] at h2
    by_cases hj : j < ns.length
    · rw [getD_app1 hj, getD_app1 (by omega)]
      exact r.up i j h1 hj
    · have e : j = ns.length := by omega
      subst e
      rw [getD_app2]
      by_cases hi : i < ns.length
      · rw [getD_app1 hi]
        have := r.up i (ns.length - 1) (by omega) (by omega)
        omega
      · have e : i = ns.length := by omega
        subst e
        rw [getD_app2]
        omega
  · rw [List.length_append, List.length_singleton, Nat.add_sub_cancel, getD_app2]
    have := r.last
    omega
theorem rise_good {ns : List Int} {f d : Int} (r : Rise ns f d) (h : ns.length ≤ 600) (hd : d ≤ (ns.length : Int)) : Good ns := ⟨r.pos, h, r.up, by have := r.last; have := r.fst; omega⟩
theorem rise_bd {ns : List Int} {f d : Int} (r : Rise ns f d) {i : Nat} (h : i < ns.length) : f ≤ ns.getD i 0 ∧ ns.getD i 0 ≤ f + d := by
  have h1 := r.up 0 i (by omega) h
  have h2 := r.up i (ns.length - 1) (by omega) (by have := r.pos; omega)
  have := r.fst
  have := r.last
  omega
def sp_table : Sp := fun vs H Q _ => ∃ (p : Addr), vs = [.ref p] ∧ PotAt H p ∧ ∀ l ns H2, H l = none → Ex (wo H p) H2 → PotAt H2 p → H2 l = some (.lst (ns.map V.int)) → Good ns → Near ns → ns.length ≤ 8 → Q (.ref l) H2
section
variable {K : PySem.W.Frag} {σ : L2.St} {H : Hp} {p : Addr} {i j : Nat} {tA : TA} {tz : TS} {D : Ends} {r : List V → Hp → VK → Prop} {Q : VK}
theorem par_k (h : tA σ H fun vs H1 => ∃ v w, vs = [v, w] ∧ tz D ((σ.set i (some v)).set j (some w)) H1) : tSeq (tPar i j tA) tz D σ H := h
theorem cb_k (h : tA σ H fun vs H1 => r vs H1 Q) : tCB r tA σ H Q := h
end
section
variable {P : Program} {w : World} {K : PySem.W.Frag} {mg : Str → Option Value} {base : Heap} {C SZ SY : Addr}
theorem ok_table {f f1 f2 : Addr} {fd fd1 fd2 : FuncData} (F : Fun K "_law_table" "_law_table" s__law_table f fd) (T : Txt P w K mg C SZ SY) (c__law_draw : Cal P w K mg base "_law_draw" f1 fd1 ["_law_pot_here", "_law_many"] 1 sp_draw) (c__law_pick : Cal P w K mg base "_law_pick" f2 fd2 ["_law_pot_here", "_law_some_here"] 2 (sp_pick K)) : FnOk P w K mg base CX0 3 f fd ["_law_pot_here"] sp_table := by
  refine F.ok sc__law_table (fun vs H Q E h => ?_) (fun cdv A outer s H vs Q E hr h => ?_)
  · obtain ⟨p, rfl, _⟩ := h
    rfl
  · obtain ⟨p, rfl, hp, k⟩ := h
    refine ⟨_, (pss_cons (ps_par (i := 1) (j := 2) (by rfl) sc__law_table.nd rfl rfl (by decide) rfl rfl (pa_cons (pe_op op_add pe_int (pe_call c__law_draw.ok (hr.mono (by decide)) (by rfl) c__law_draw.mgx c__law_draw.kp c__law_draw.bd .nil pass0 (pa_cons (pv 0) (pa_cons pe_int pa_nil)))) (pa_cons (pe_lst (pa_cons (pe_op op_sub (pe_call c__law_draw.ok (hr.mono (by decide)) (by rfl) c__law_draw.mgx c__law_draw.kp c__law_draw.bd .nil pass0 (pa_cons (pv 0) (pa_cons pe_int pa_nil))) pe_int) pa_nil)) pa_nil)) (by rfl)) (pss_cons (ps_for PassesOwn.never rfl (pi_range1 (by rfl) T.b_range (pa_cons (pe_op op_sub (pv 1) pe_int) pa_nil)) (pg_name (i := 3) sc__law_table.nd rfl (Or.inl rfl)) (pss_one (ps_expr (pe_bm PySem.F.plainAttrs_list PySem.F.slot_list_append PySem.F.type_list_append mt_append (pv 2) (pa_cons (pe_callB (call_min2 rfl) (by rfl) T.b_min (by decide +kernel) (pa_cons (pe_op op_add (pe_ix (ixL (K := K) rfl) (pv 2) pe_int (fun _ _ => rfl)) (pv 1)) (pa_cons (pe_op op_add (pe_ix (ixL (K := K) rfl) (pv 2) (pe_un un_neg pe_int) (fun _ _ => rfl)) (pe_call c__law_pick.ok (hr.mono (by decide)) (by rfl) c__law_pick.mgx c__law_pick.kp c__law_pick.bd .nil pass0 (pa_cons (pv 0) (pa_cons (pe_lst (pa_cons pe_int (pa_cons pe_int (pa_cons pe_int (pa_cons pe_int (pa_cons pe_int (pa_cons pe_int pa_nil))))))) pa_nil)))) pa_nil))) pa_nil))))) (pss_one (ps_ret (pv 2))))), ?_⟩
    obtain ⟨o, ho⟩ := hp.some
    refine par_k (ac_k (op_k (v_k ev_c fun H1 e1 => drawC (hp.mono e1) rfl ev_c (by decide) (by decide) fun m H2 m0 m8 e2 hp2 => ⟨1, m, rfl, rfl, ac_k (lst_k (ac_k (op_k (drawC hp2 rfl ev_c (by decide) (by decide) fun b H3 b0 b11 e3 hp3 => v_k ev_c fun H4 e4 => ⟨b, 5, rfl, rfl, ac_nil ⟨sz_of (by show 1 ≤ 100000; decide), fun l hl => ac_nil ⟨_, _, rfl, ?_⟩⟩⟩))))⟩)))
    have hp4 : PotAt H4 p := hp3.mono e4
    obtain ⟨o4, ho4⟩ := hp4.some
    have hlp : l ≠ p := (ne_of_none ho4 hl).symm
    have x4 : Ex (wo H p) H4 := wo_tr (wo_tr (wo_ex.trans e1) e2) (e3.trans e4)
    have hlH : H l = none := by
      cases q : H l with
      | none => rfl
      | some u => exact absurd (x4 l u (by rw [wo_ne hlp]; exact q)) (by rw [hl]; exact fun z => by cases z)
    have hwl : wo H p l = none := by rw [wo_ne hlp]; exact hlH
    obtain ⟨n, rfl⟩ : ∃ n : Nat, m = (n : Int) := ⟨m.toNat, by omega⟩
    refine q_forR1 (n := (n : Int)) (ea_cons (ev_is (ev_op (ev_var rfl) ev_c rv_I0) (by show V.int (1 + (n : Int) - 1) = _; congr 1; omega)) ea_nil) (by omega) (fun i σ' H' => ∃ (ns : List Int) (d : Int) (o1 : Option V), σ' = [some (.ref p), some (.int (1 + (n : Int))), some (.ref l), o1] ∧
      ns.length = i + 1 ∧ Rise ns (b - 5) d ∧ 0 ≤ d ∧ d ≤ 1 + (n : Int) ∧ Ex (wo H p) H' ∧ H' l = some (.lst (ns.map V.int)) ∧ PotAt H' p) (fun H5 e5 => ?_) (fun i σ' H' hi hpv => ?_) (fun σ' H' hpv => ?_)
    · exact ⟨[b - 5], 0, none, rfl, rfl, rise_one _, by omega, by omega, (x4.mut hwl).trans e5, e5 l _ upd_same, (show PotAt (upd H4 l (.lst [.int (b - 5)])) p from by obtain ⟨c, d, q1, q2⟩ := hp4; exact ⟨c, d, q1, by rw [upd_ne (Ne.symm hlp)]; exact q2⟩).mono e5⟩
    · obtain ⟨ns, d, o1, rfl, hlen, r, d0, dn, e5, h5, hp5⟩ := hpv
      have hpos := r.pos
      refine drop_k (bm_k (v_k (v := .ref l) (ev_var rfl) fun H6 e6 => ⟨Or.inl ⟨rfl, _, sq_of (e6 l _ h5)⟩, ac_k (cb_k (ac_v (v := .int (b - 5 + (1 + (n : Int)))) (ev_op (ev_op (ev_var rfl) ev_c (rv_ixL (v := .int (b - 5)) (sq_of (e6 l _ h5)) (by rw [← r.fst]; exact atI_nat (j := 0) (getI (by omega))))) (ev_var rfl) rv_I0) fun H7 e7 => ac_k (op_k (v_k (v := .int (ns.getD (ns.length - 1) 0)) (ev_op (ev_var rfl) (ev_un ev_c ru_neg) (rv_ixL (sq_of ((e6.trans e7) l _ h5)) (atI_m1 r.pos))) fun H8 e8 => pickC (xs := ([0, 0, 1, 1, 2, 3] : List Int).map V.int) (hp5.mono ((e6.trans e7).trans e8)) rfl (ea_cons ev_c (ea_cons ev_c (ea_cons ev_c (ea_cons ev_c (ea_cons ev_c (ea_cons ev_c ea_nil)))))) (by show 0 < 6; decide) (by show 6 ≤ 1000; decide) fun j v H9 hj e9 hp9 => ?_))))⟩))
      obtain ⟨st, hs0, hs3, rfl⟩ : ∃ st : Int, 0 ≤ st ∧ st ≤ 3 ∧ v = .int st := by
        rw [List.getElem?_map] at hj
        obtain ⟨st, hs, rfl⟩ := Option.map_eq_some_iff.mp hj
        have hm := List.mem_of_getElem? hs
        simp only [List.mem_cons, List.not_mem_nil, or_false] at hm
        exact ⟨st, by omega, by omega, rfl⟩
      have h9 : H9 l = some (.lst (ns.map V.int)) := e9 l _ (by rw [wo_ne hlp]; exact ((e6.trans e7).trans e8) l _ h5)
      have hlast := r.last
      have hst : ∃ s2 : Int, 0 ≤ s2 ∧ d + s2 ≤ 1 + (n : Int) ∧ (if ns.getD (ns.length - 1) 0 + st < b - 5 + (1 + (n : Int)) then ns.getD (ns.length - 1) 0 + st else b - 5 + (1 + (n : Int))) = ns.getD (ns.length - 1) 0 + s2 := by
        by_cases hc : ns.getD (ns.length - 1) 0 + st < b - 5 + (1 + (n : Int))
        · exact ⟨st, hs0, by omega, by rw [if_pos hc]⟩
        · exact ⟨1 + (n : Int) - d, by omega, by omega, by rw [if_neg hc]; omega⟩
      obtain ⟨s2, hs20, hs2d, hs2e⟩ := hst
      refine ⟨_, _, rfl, rfl, ac_nil ⟨_, _, rfl, ac_nil ⟨l, ns.map V.int, _, rfl, rfl, h9, sz_lt (by rw [List.length_map]; omega), ?_⟩⟩⟩
      refine ⟨ns ++ [ns.getD (ns.length - 1) 0 + s2], d + s2, some (.int (i : Int)), rfl, by rw [List.length_append, hlen] <;> rfl, rise_app r hs20, by omega, hs2d, ?_, ?_, ?_⟩
      · exact (wo_tr (e5.trans ((e6.trans e7).trans e8)) e9).mut hwl
      · rw [upd_same, hs2e, List.map_append] <;> rfl
      · obtain ⟨c, d, q1, q2⟩ := hp9
        exact ⟨c, d, q1, by rw [upd_ne (Ne.symm hlp)]; exact q2⟩
    · obtain ⟨ns, d, o1, rfl, hlen, r, d0, dn, e5, h5, hp5⟩ := hpv
      rw [Int.toNat_natCast] at hlen
      refine s_ret (ev_var rfl) fun H6 e6 => ?_
      exact k l ns H6 hlH (e5.trans e6) (hp5.mono e6) (e6 l _ h5) (rise_good r (by omega) (by omega)) (fun i hi => by have := rise_bd r hi; omega) (by omega)
end
end K22
end
section
set_option maxHeartbeats 4000000
namespace K22
open PySem L2 Evl G TM TD
/-! ### this law's own reckoning -/
/-- a dict from rules to lists of days -/
def ListsAt (K : PySem.W.Frag) (H : Hp) (d : Addr) (ws : Ws) : Prop := H d = some (.dK (keyed wV ws)) ∧ (∀ p ∈ ws, p.1 ∈ ruleL ∧ Good p.2.2 ∧ Near p.2.2 ∧ SqL K H p.2.1 (p.2.2.map V.int)) ∧ ws.length ≤ 1000
theorem ListsAt.mono {K : PySem.W.Frag} {H H' : Hp} {d : Addr} {ws : Ws} (e : Ex H H') (h : ListsAt K H d ws) : ListsAt K H' d ws := ⟨e d _ h.1, fun p hp => let ⟨a, b, c, q⟩ := h.2.1 p hp; ⟨a, b, c, ex_l e q⟩, h.2.2⟩
/-- the days of the names are not far -/
def DBd (ds : Ds) : Prop := ∀ p ∈ ds, -1000000000000 ≤ p.2 ∧ p.2 ≤ 1000000000000
def GoodW (ws : Ws) : Prop := ∀ p ∈ ws, Good p.2.2 ∧ Near p.2.2
theorem near_on {ns : List Int} (g : Good ns) (b : Near ns) (x : Int) : x - 2000 ≤ onL ns x ∧ onL ns x ≤ x + 1000 := by
  obtain ⟨m, M, l⟩ := lead_ex g
  have := l.bd b g.most
  have := l.ge g x
  have := l.le g x
  omega
theorem near_by {ns : List Int} (g : Good ns) (b : Near ns) (x : Int) : x - 1000 ≤ byL ns x ∧ byL ns x ≤ x + 2000 := by
  obtain ⟨m, M, l⟩ := lead_ex g
  have := l.bd b g.most
  have := l.by_lo g x
  have := l.by_hi g x
  omega
theorem near_til {ns : List Int} (g : Good ns) (b : Near ns) (x : Int) : x - 1000 ≤ tilL ns x ∧ tilL ns x ≤ x + 2000 := by
  obtain ⟨m, M, l⟩ := lead_ex g
  have := l.bd b g.most
  have := l.til_lo g x
  have := l.til_hi g x
  omega
theorem look_dn {ds : Ds} (b : DBd ds) {n : Str} (h : n ∈ ds.map (·.1)) : -1000000000000 ≤ dnOf ds n ∧ dnOf ds n ≤ 1000000000000 := by
  obtain ⟨v, hv, hm⟩ := look_some h
  unfold dnOf
  rw [hv]
  exact b _ hm
theorem look_wd {ws : Ws} (g : GoodW ws) {r : Str} (h : r ∈ ws.map (·.1)) : Good (wdOf ws r) ∧ Near (wdOf ws r) := by
  obtain ⟨q, hq, hm⟩ := look_some h
  unfold wdOf
  rw [hq]
  exact g _ hm
theorem day_bd {ds : Ds} {ws : Ws} (b : DBd ds) (g : GoodW ws) : ∀ {t : Td}, IsF t → Has (ds.map (·.1)) (ws.map (·.1)) t → Small t →
    -1000000000000 - 3000 * ((pcs t).length : Int) ≤ dayOf (dnOf ds) (wdOf ws) t ∧ dayOf (dnOf ds) (wdOf ws) t ≤ 1000000000000 + 3000 * ((pcs t).length : Int)
  | .lf w v, hF, hh, sm => by
    rcases hF with ⟨_, n, _, rfl⟩ | ⟨_, i, rfl⟩
    · have := look_dn b (hh n rfl)
      show -1000000000000 - 3000 * (1 : Int) ≤ dnOf ds n ∧ dnOf ds n ≤ 1000000000000 + 3000 * (1 : Int)
      omega
    · have := sm i rfl
      show -1000000000000 - 3000 * (1 : Int) ≤ i ∧ i ≤ 1000000000000 + 3000 * (1 : Int)
      omega
  | .ov w v t, hF, hh, sm => by
    have ih := day_bd b g hF.2 hh.2 sm.2
    have hl : ((pcs (.ov w v t)).length : Int) = (pcs t).length + 1 := by show (((_ :: pcs t).length : Nat) : Int) = _; rw [List.length_cons]; omega
    rw [hl]
    rcases hF.1 with ⟨hw, r, _, rfl⟩ | ⟨hw, i, rfl⟩
    · obtain ⟨gg, nn⟩ := look_wd g (hh.1 r rfl)
      show _ ≤ (if w = "on" then onL (wdOf ws r) (dayOf (dnOf ds) (wdOf ws) t) else if w = "by" then byL (wdOf ws r) (dayOf (dnOf ds) (wdOf ws) t) else tilL (wdOf ws r) (dayOf (dnOf ds) (wdOf ws) t)) ∧ (if w = "on" then onL (wdOf ws r) (dayOf (dnOf ds) (wdOf ws) t) else if w = "by" then byL (wdOf ws r) (dayOf (dnOf ds) (wdOf ws) t) else tilL (wdOf ws r) (dayOf (dnOf ds) (wdOf ws) t)) ≤ _
      have h1 := near_on gg nn (dayOf (dnOf ds) (wdOf ws) t)
      have h2 := near_by gg nn (dayOf (dnOf ds) (wdOf ws) t)
      have h3 := near_til gg nn (dayOf (dnOf ds) (wdOf ws) t)
      split
      · omega
      · split <;> omega
    · have := sm.1 i rfl
      show _ ≤ dayOf (dnOf ds) (wdOf ws) t + i ∧ dayOf (dnOf ds) (wdOf ws) t + i ≤ _
      omega
  | .nt t, hF, _, _ => hF.elim
  | .bi w t u, hF, hh, sm => by
    have i1 := day_bd b g hF.2.1 hh.1 sm.1
    have i2 := day_bd b g hF.2.2 hh.2 sm.2
    have hl : ((pcs (.bi w t u)).length : Int) = (pcs t).length + (pcs u).length + 1 := by show (((_ :: (pcs t ++ pcs u)).length : Nat) : Int) = _; rw [List.length_cons, List.length_append]; omega
    rw [hl]
    show _ ≤ (if w = "late" then (if dayOf (dnOf ds) (wdOf ws) u > dayOf (dnOf ds) (wdOf ws) t then dayOf (dnOf ds) (wdOf ws) u else dayOf (dnOf ds) (wdOf ws) t) else (if dayOf (dnOf ds) (wdOf ws) u < dayOf (dnOf ds) (wdOf ws) t then dayOf (dnOf ds) (wdOf ws) u else dayOf (dnOf ds) (wdOf ws) t)) ∧
      (if w = "late" then (if dayOf (dnOf ds) (wdOf ws) u > dayOf (dnOf ds) (wdOf ws) t then dayOf (dnOf ds) (wdOf ws) u else dayOf (dnOf ds) (wdOf ws) t) else (if dayOf (dnOf ds) (wdOf ws) u < dayOf (dnOf ds) (wdOf ws) t then dayOf (dnOf ds) (wdOf ws) u else dayOf (dnOf ds) (wdOf ws) t)) ≤ _
    split <;> split <;> omega
def sp_lday (K : PySem.W.Frag) (n : Nat) : Sp := fun vs H Q _ => ∃ x t d ds r ws, vs = [x, .ref d, .ref r] ∧ At H x t ∧ IsF t ∧ depth t < n ∧ (pcs t).length ≤ 1000 ∧ Small t ∧ DaysAt H d ds ∧ DBd ds ∧ ListsAt K H r ws ∧ Has (ds.map (·.1)) (ws.map (·.1)) t ∧ RetV (.int (dayOf (dnOf ds) (wdOf ws) t)) H Q
theorem spv_lday {K : PySem.W.Frag} {n : Nat} {x : V} {t : Td} {d r : Addr} {ds : Ds} {ws : Ws} {H : Hp} (h : At H x t) (k : IsF t) (hd : depth t < n) (hz : (pcs t).length ≤ 1000) (sm : Small t) (a : DaysAt H d ds) (b' : DBd ds) (b : ListsAt K H r ws) (c : Has (ds.map (·.1)) (ws.map (·.1)) t) :
    SpV (sp_lday K n) ([x, .ref d, .ref r] ++ []) H (.int (dayOf (dnOf ds) (wdOf ws) t)) := fun H1 e Q q E => ⟨x, t, d, ds, r, ws, rfl, h.mono (Tu.ex e), k, hd, hz, sm, a.mono e, b', b.mono e, c, q⟩
theorem ListsAt.goodW {K : PySem.W.Frag} {H : Hp} {d : Addr} {ws : Ws} (h : ListsAt K H d ws) : GoodW ws := fun p hp => ⟨(h.2.1 p hp).2.1, (h.2.1 p hp).2.2.1⟩
section
variable {P : Program} {w : World} {K : PySem.W.Frag} {mg : Str → Option Value} {base : Heap} {C SZ SY : Addr}
theorem ok_lday {f f1 f2 f3 : Addr} {fd fd1 fd2 fd3 : FuncData} (F : Fun K "_law_day" "_law_day" s__law_day f fd) (T : Txt P w K mg C SZ SY) (me : Me K mg "_law_day" f fd ["_law_formula_here", "_law_days_here", "_law_world_here"]) (c__law_on : Cal P w K mg base "_law_on" f1 fd1 ["_law_days_here", "_law_day_here"] 1 (sp_lon K)) (c__law_by : Cal P w K mg base "_law_by" f2 fd2 ["_law_days_here", "_law_day_here"] 2 (sp_lby K)) (c__law_til : Cal P w K mg base "_law_til" f3 fd3 ["_law_days_here", "_law_day_here"] 2 (sp_ltil K)) :
    ∀ n, FnOk P w K mg base CX0 (n + 3) f fd ["_law_formula_here", "_law_days_here", "_law_world_here"] (sp_lday K n) := by
  intro n
  induction n with
  | zero => exact ⟨fun vs H Q E h => by obtain ⟨x, t, d, ds, r, ws, _, _, _, hd, _⟩ := h; exact absurd hd (Nat.not_lt_zero _), fun A outer s H args us vs Q E _ _ _ _ h => by obtain ⟨x, t, d, ds, r, ws, _, _, _, hd, _⟩ := h; exact absurd hd (Nat.not_lt_zero _)⟩
  | succ n ih =>
  have c__law_day : Cal P w K mg base "_law_day" f fd ["_law_formula_here", "_law_days_here", "_law_world_here"] (n + 3) (sp_lday K n) := ⟨ih, me.mgx, me.kp, me.bd⟩
  refine F.ok (k := n + 3) sc__law_day (fun vs H Q E h => ?_) (fun cdv A outer s H vs Q E hr h => ?_)
  · obtain ⟨x, t, d, ds, r, ws, rfl, _⟩ := h
    rfl
  · obtain ⟨x, t, d, ds, r, ws, rfl, ht, hF, hdep, hz, sm, hds, db, hws, hh, k⟩ := h
    refine ⟨_, (pss_cons (ps_set (i := 3) sc__law_day.nd rfl (Or.inl rfl) (pe_ix (ixT (K := K) rfl) (pv 0) pe_int (fun _ _ => rfl))) (pss_cons (ps_if (pt_cmpR op_eq (pv 3) pe_str (nomark _)) (pss_one (ps_ret (pe_dgetR hr.units (pv 1) (pe_ix (ixT (K := K) rfl) (pv 0) pe_int (fun _ _ => rfl)) (fun _ _ => rfl)))) pss_nil) (pss_cons (ps_if (pt_cmpR op_eq (pv 3) pe_str (nomark _)) (pss_one (ps_ret (pe_ix (ixT (K := K) rfl) (pv 0) pe_int (fun _ _ => rfl)))) pss_nil) (pss_cons (ps_if (pt_cmpR op_eq (pv 3) pe_str (nomark _)) (pss_one (ps_ret (pe_callB (call_max2 rfl) (by rfl) T.b_max (by decide +kernel) (pa_cons (pe_call c__law_day.ok (hr.mono (by omega)) (by rfl) c__law_day.mgx c__law_day.kp c__law_day.bd .nil pass0 (pa_cons (pe_ix (ixT (K := K) rfl) (pv 0) pe_int (fun _ _ => rfl)) (pa_cons (pv 1) (pa_cons (pv 2) pa_nil)))) (pa_cons (pe_call c__law_day.ok (hr.mono (by omega)) (by rfl) c__law_day.mgx c__law_day.kp c__law_day.bd .nil pass0 (pa_cons (pe_ix (ixT (K := K) rfl) (pv 0) pe_int (fun _ _ => rfl)) (pa_cons (pv 1) (pa_cons (pv 2) pa_nil)))) pa_nil))))) pss_nil) (pss_cons (ps_if (pt_cmpR op_eq (pv 3) pe_str (nomark _)) (pss_one (ps_ret (pe_callB (call_min2 rfl) (by rfl) T.b_min (by decide +kernel) (pa_cons (pe_call c__law_day.ok (hr.mono (by omega)) (by rfl) c__law_day.mgx c__law_day.kp c__law_day.bd .nil pass0 (pa_cons (pe_ix (ixT (K := K) rfl) (pv 0) pe_int (fun _ _ => rfl)) (pa_cons (pv 1) (pa_cons (pv 2) pa_nil)))) (pa_cons (pe_call c__law_day.ok (hr.mono (by omega)) (by rfl) c__law_day.mgx c__law_day.kp c__law_day.bd .nil pass0 (pa_cons (pe_ix (ixT (K := K) rfl) (pv 0) pe_int (fun _ _ => rfl)) (pa_cons (pv 1) (pa_cons (pv 2) pa_nil)))) pa_nil))))) pss_nil) (pss_cons (ps_set (i := 4) sc__law_day.nd rfl (Or.inl rfl) (pe_call c__law_day.ok (hr.mono (by omega)) (by rfl) c__law_day.mgx c__law_day.kp c__law_day.bd .nil pass0 (pa_cons (pe_ix (ixT (K := K) rfl) (pv 0) pe_int (fun _ _ => rfl)) (pa_cons (pv 1) (pa_cons (pv 2) pa_nil))))) (pss_cons (ps_if (pt_cmpR op_eq (pv 3) pe_str (nomark _)) (pss_one (ps_ret (pe_op op_add (pv 4) (pe_ix (ixT (K := K) rfl) (pv 0) pe_int (fun _ _ => rfl))))) pss_nil) (pss_cons (ps_set (i := 5) sc__law_day.nd rfl (Or.inl rfl) (pe_dgetR hr.units (pv 2) (pe_ix (ixT (K := K) rfl) (pv 0) pe_int (fun _ _ => rfl)) (fun _ _ => rfl))) (pss_cons (ps_if (pt_cmpR op_eq (pv 3) pe_str (nomark _)) (pss_one (ps_ret (pe_call c__law_on.ok (hr.mono (by omega)) (by rfl) c__law_on.mgx c__law_on.kp c__law_on.bd .nil pass0 (pa_cons (pv 5) (pa_cons (pv 4) pa_nil))))) pss_nil) (pss_one (ps_ret (pe_ifExp (pt_cmpR op_eq (pv 3) pe_str (nomark _)) (pe_call c__law_by.ok (hr.mono (by omega)) (by rfl) c__law_by.mgx c__law_by.kp c__law_by.bd .nil pass0 (pa_cons (pv 5) (pa_cons (pv 4) pa_nil))) (pe_call c__law_til.ok (hr.mono (by omega)) (by rfl) c__law_til.mgx c__law_til.kp c__law_til.bd .nil pass0 (pa_cons (pv 5) (pa_cons (pv 4) pa_nil))))))))))))))), ?_⟩
    refine q_asg (ev_wordA (K := K) (ev_var rfl) ht) fun H1 e1 => ?_
    have a1 : At H1 x t := ht.mono (Tu.ex e1)
    have tw : ∀ (σ : L2.St) (H2 : Hp) (z : Str), σ[3]? = some (some (V.str (word t))) → EvT (tTest (tOp rEq (tVar 3) (tC (.str z)))) σ H2 (decide (word t = z)) := fun σ H2 z hv => et_is (et_test (ev_op (ev_var hv) ev_c (rv_eq rfl))) (dec_str _ _)
    cases t with
    | lf w v =>
      rcases hF with ⟨e, m, _, rfl⟩ | ⟨e, i, rfl⟩
      · subst e
        refine q_when (b := true) (tw _ _ _ rfl) (fun _ H2 e2 => ?_) (fun z => by cases z)
        exact s_ret (ev_dget (k := kS m) (ev_var rfl) (ev_ownA (K := K) (ev_var rfl) (a1.mono (Tu.ex e2)) rfl) ((hds.mono (e1.trans e2)).1) (valV_days (hh m rfl))) fun H3 e3 => k H3 ((e1.trans e2).trans e3)
      · subst e
        refine q_when (b := false) (tw _ _ _ rfl) (fun z => by cases z) (fun _ H2 e2 => ?_)
        refine q_when (b := true) (tw _ _ _ rfl) (fun _ H3 e3 => ?_) (fun z => by cases z)
        exact s_ret (ev_ownA (K := K) (ev_var rfl) (a1.mono (Tu.ex (e2.trans e3))) rfl) fun H4 e4 => k H4 (((e1.trans e2).trans e3).trans e4)
    | ov w v t =>
      have hk : IsF t := hF.2
      have hdt : depth t < n := Nat.lt_of_succ_lt_succ hdep
      have hzt : (pcs t).length ≤ 1000 := by have : (pcs (Td.ov w v t)).length = (pcs t).length + 1 := List.length_cons; omega
      have nn : ∀ z : Str, z ∈ (["day", "num", "late", "soon"] : List Str) → decide (w = z) = false := fun z hz' => decide_eq_false fun q => by
        rw [← q] at hz'
        rcases hF.1 with ⟨h, _⟩ | ⟨h, _⟩
        · rcases turn_cases h with e | e | e <;> (rw [e] at hz'; exact absurd hz' (by decide))
        · rw [h] at hz'; exact absurd hz' (by decide)
      refine q_when (b := decide (w = "day")) (tw _ _ _ rfl) (fun z => by rw [nn _ (by decide)] at z; cases z) (fun _ H2 e2 => ?_)
      refine q_when (b := decide (w = "num")) (tw _ _ _ rfl) (fun z => by rw [nn _ (by decide)] at z; cases z) (fun _ H3 e3 => ?_)
      refine q_when (b := decide (w = "late")) (tw _ _ _ rfl) (fun z => by rw [nn _ (by decide)] at z; cases z) (fun _ H4 e4 => ?_)
      refine q_when (b := decide (w = "soon")) (tw _ _ _ rfl) (fun z => by rw [nn _ (by decide)] at z; cases z) (fun _ H5 e5 => ?_)
      have e05 := (((e1.trans e2).trans e3).trans e4).trans e5
      obtain ⟨a, y, rfl, ha, hy⟩ := a1.mono (Tu.ex (((e2.trans e3).trans e4).trans e5))
      refine q_asg (ev_call (ea_cons (ev_at2 (K := K) (ev_var rfl) ha) (ea_cons (ev_var rfl) (ea_cons (ev_var rfl) ea_nil))) (spv_lday hy hk hdt hzt sm.2 (hds.mono e05) db (hws.mono e05) hh.2)) fun H6 e6 => ?_
      have e06 := e05.trans e6
      have hbd := day_bd db hws.goodW hk hh.2 sm.2
      have hfar : K22.Far (dayOf (dnOf ds) (wdOf ws) t) := ⟨by omega, by omega⟩
      rcases hF.1 with ⟨hw, rl, hrl, rfl⟩ | ⟨hw, i, rfl⟩
      · obtain ⟨q, hq, hv, hwd⟩ := valV_world (hh.1 rl rfl)
        obtain ⟨hr1, hg, hnr, hsq⟩ := hws.2.1 _ hq
        have sc : dayOf (dnOf ds) (wdOf ws) (.ov w (.str rl) t) = if w = "on" then onL q.2 (dayOf (dnOf ds) (wdOf ws) t) else if w = "by" then byL q.2 (dayOf (dnOf ds) (wdOf ws) t) else tilL q.2 (dayOf (dnOf ds) (wdOf ws) t) := by
          rw [← hwd] <;> rfl
        rw [sc] at k
        have n4 : decide (w = "add") = false := by rcases turn_cases hw with e | e | e <;> (subst e; decide)
        refine q_when (b := decide (w = "add")) (tw _ _ _ rfl) (fun z => by rw [n4] at z; cases z) (fun _ H7 e7 => ?_)
        refine q_asg (ev_dget (k := kS rl) (ev_var rfl) (ev_at1 (K := K) (ev_var rfl) ((e6.trans e7) a _ ha)) (hws.mono (e06.trans e7)).1 hv) fun H8 e8 => ?_
        have e08 := (e06.trans e7).trans e8
        rcases turn_cases hw with e | e | e
        · subst e
          refine q_when (b := true) (tw _ _ _ rfl) (fun _ H9 e9 => ?_) (fun z => by cases z)
          exact s_ret (ev_call (ea_cons (ev_var rfl) (ea_cons (ev_var rfl) ea_nil)) (spv_lon (ex_l (e08.trans e9) hsq) hg)) fun Ha ea => k Ha ((e08.trans e9).trans ea)
        · subst e
          refine q_when (b := false) (tw _ _ _ rfl) (fun z => by cases z) (fun _ H9 e9 => ?_)
          exact s_ret (ev_if (b := true) (tw _ _ _ rfl) (fun _ => ev_call (ea_cons (ev_var rfl) (ea_cons (ev_var rfl) ea_nil)) (spv_lby (ex_l (e08.trans e9) hsq) hg hnr hfar)) fun z => by cases z) fun Ha ea => k Ha ((e08.trans e9).trans ea)
        · subst e
          refine q_when (b := false) (tw _ _ _ rfl) (fun z => by cases z) (fun _ H9 e9 => ?_)
          exact s_ret (ev_if (b := false) (tw _ _ _ rfl) (fun z => by cases z) fun _ => ev_call (ea_cons (ev_var rfl) (ea_cons (ev_var rfl) ea_nil)) (spv_ltil (ex_l (e08.trans e9) hsq) hg hnr hfar)) fun Ha ea => k Ha ((e08.trans e9).trans ea)
      · subst hw
        refine q_when (b := true) (tw _ _ _ rfl) (fun _ H7 e7 => ?_) (fun z => by cases z)
        exact s_ret (ev_op (ev_var rfl) (ev_at1 (K := K) (ev_var rfl) ((e6.trans e7) a _ ha)) rv_I0) fun H8 e8 => k H8 ((e06.trans e7).trans e8)
    | nt t => exact hF.elim
    | bi w t u =>
      obtain ⟨hw, hk1, hk2⟩ := hF
      have hm := Nat.lt_of_succ_lt_succ hdep
      have hzb : (pcs (Td.bi w t u)).length = (pcs t ++ pcs u).length + 1 := List.length_cons
      rw [List.length_append] at hzb
      have nn : ∀ z : Str, z ∈ (["day", "num"] : List Str) → decide (w = z) = false := fun z hz' => decide_eq_false fun q => by
        rw [← q] at hz'
        rcases hw with e | e <;> (rw [e] at hz'; exact absurd hz' (by decide))
      refine q_when (b := decide (w = "day")) (tw _ _ _ rfl) (fun z => by rw [nn _ (by decide)] at z; cases z) (fun _ H2 e2 => ?_)
      refine q_when (b := decide (w = "num")) (tw _ _ _ rfl) (fun z => by rw [nn _ (by decide)] at z; cases z) (fun _ H3 e3 => ?_)
      have e03 := (e1.trans e2).trans e3
      obtain ⟨a, y, y2, rfl, ha, hy, hy2⟩ := a1.mono (Tu.ex (e2.trans e3))
      have c1 : ∀ H4, Ex H3 H4 → Ev (tCall (sp_lday K n) [] E0 (tCons (tOp (rIxT K) (tVar 0) (tC (.int 1))) (tCons (tVar 1) (tCons (tVar 2) tNil)))) [some (.ref a), some (.ref d), some (.ref r), some (.str w), none, none] H4 (.int (dayOf (dnOf ds) (wdOf ws) t)) := fun H4 e4 =>
        ev_call (ea_cons (ev_at1 (K := K) (ev_var rfl) (e4 a _ ha)) (ea_cons (ev_var rfl) (ea_cons (ev_var rfl) ea_nil))) (spv_lday (hy.mono (Tu.ex e4)) hk1 (by omega) (by omega) sm.1 (hds.mono (e03.trans e4)) db (hws.mono (e03.trans e4)) hh.1)
      have c2 : ∀ H4, Ex H3 H4 → Ev (tCall (sp_lday K n) [] E0 (tCons (tOp (rIxT K) (tVar 0) (tC (.int 2))) (tCons (tVar 1) (tCons (tVar 2) tNil)))) [some (.ref a), some (.ref d), some (.ref r), some (.str w), none, none] H4 (.int (dayOf (dnOf ds) (wdOf ws) u)) := fun H4 e4 =>
        ev_call (ea_cons (ev_at2 (K := K) (ev_var rfl) (e4 a _ ha)) (ea_cons (ev_var rfl) (ea_cons (ev_var rfl) ea_nil))) (spv_lday (hy2.mono (Tu.ex e4)) hk2 (by omega) (by omega) sm.2 (hds.mono (e03.trans e4)) db (hws.mono (e03.trans e4)) hh.2)
      rcases hw with e | e
      · subst e
        have sc : dayOf (dnOf ds) (wdOf ws) (.bi "late" t u) = if dayOf (dnOf ds) (wdOf ws) u > dayOf (dnOf ds) (wdOf ws) t then dayOf (dnOf ds) (wdOf ws) u else dayOf (dnOf ds) (wdOf ws) t := by
          show (if ("late" : Str) = "late" then _ else _) = _
          rw [if_pos rfl]
        rw [sc] at k
        refine q_when (b := true) (tw _ _ _ rfl) (fun _ H4 e4 => ?_) (fun z => by cases z)
        exact s_ret (ev_cb (ea_cons (c1 H4 e4) (ea_cons (c2 H4 e4) ea_nil)) rc_max2) fun H5 e5 => k H5 ((e03.trans e4).trans e5)
      · subst e
        have sc : dayOf (dnOf ds) (wdOf ws) (.bi "soon" t u) = if dayOf (dnOf ds) (wdOf ws) u < dayOf (dnOf ds) (wdOf ws) t then dayOf (dnOf ds) (wdOf ws) u else dayOf (dnOf ds) (wdOf ws) t := by
          show (if ("soon" : Str) = "late" then _ else _) = _
          rw [if_neg (by decide)]
        rw [sc] at k
        refine q_when (b := false) (tw _ _ _ rfl) (fun z => by cases z) (fun _ H4 e4 => ?_)
        refine q_when (b := true) (tw _ _ _ rfl) (fun _ H5 e5 => ?_) (fun z => by cases z)
        exact s_ret (ev_cb (ea_cons (c1 H5 (e4.trans e5)) (ea_cons (c2 H5 (e4.trans e5)) ea_nil)) rc_min2) fun H6 e6 => k H6 ((e03.trans (e4.trans e5)).trans e6)
end
end K22
end
section
set_option maxHeartbeats 4000000
namespace K22
open PySem L2 Evl G TM TD
def sp_lso (K : PySem.W.Frag) (n : Nat) : Sp := fun vs H Q _ => ∃ x t d ds r ws, vs = [x, .ref d, .ref r] ∧ At H x t ∧ IsS t ∧ depth t < n ∧ depth t < 10 ∧ (pcs t).length ≤ 1000 ∧ Small t ∧ DaysAt H d ds ∧ DBd ds ∧ ListsAt K H r ws ∧ Has (ds.map (·.1)) (ws.map (·.1)) t ∧ RetV (.bl (soOf (dnOf ds) (wdOf ws) t)) H Q
theorem spv_lso {K : PySem.W.Frag} {n : Nat} {x : V} {t : Td} {d r : Addr} {ds : Ds} {ws : Ws} {H : Hp} (h : At H x t) (k : IsS t) (hd : depth t < n) (h10 : depth t < 10) (hz : (pcs t).length ≤ 1000) (sm : Small t) (a : DaysAt H d ds) (b' : DBd ds) (b : ListsAt K H r ws) (c : Has (ds.map (·.1)) (ws.map (·.1)) t) :
    SpV (sp_lso K n) ([x, .ref d, .ref r] ++ []) H (.bl (soOf (dnOf ds) (wdOf ws) t)) := fun H1 e Q q E => ⟨x, t, d, ds, r, ws, rfl, h.mono (Tu.ex e), k, hd, h10, hz, sm, a.mono e, b', b.mono e, c, q⟩
section
variable {P : Program} {w : World} {K : PySem.W.Frag} {mg : Str → Option Value} {base : Heap} {C SZ SY : Addr}
theorem ok_lso {f f1 : Addr} {fd fd1 : FuncData} (F : Fun K "_law_is_so" "_law_is_so" s__law_is_so f fd) (T : Txt P w K mg C SZ SY) (me : Me K mg "_law_is_so" f fd ["_law_saying_here", "_law_days_here", "_law_world_here"]) (c__law_day : Cal P w K mg base "_law_day" f1 fd1 ["_law_formula_here", "_law_days_here", "_law_world_here"] 13 (sp_lday K 10)) :
    ∀ n, FnOk P w K mg base CX0 (n + 14) f fd ["_law_saying_here", "_law_days_here", "_law_world_here"] (sp_lso K n) := by
  intro n
  induction n with
  | zero => exact ⟨fun vs H Q E h => by obtain ⟨x, t, d, ds, r, ws, _, _, _, hd, _⟩ := h; exact absurd hd (Nat.not_lt_zero _), fun A outer s H args us vs Q E _ _ _ _ h => by obtain ⟨x, t, d, ds, r, ws, _, _, _, hd, _⟩ := h; exact absurd hd (Nat.not_lt_zero _)⟩
  | succ n ih =>
  have c__law_is_so : Cal P w K mg base "_law_is_so" f fd ["_law_saying_here", "_law_days_here", "_law_world_here"] (n + 14) (sp_lso K n) := ⟨ih, me.mgx, me.kp, me.bd⟩
  refine F.ok (k := n + 14) sc__law_is_so (fun vs H Q E h => ?_) (fun cdv A outer s H vs Q E hr h => ?_)
  · obtain ⟨x, t, d, ds, r, ws, rfl, _⟩ := h
    rfl
  · obtain ⟨x, t, d, ds, r, ws, rfl, ht, hS, hdep, h10, hzz, sm, hds, db, hws, hh, k⟩ := h
    refine ⟨_, (pss_cons (ps_set (i := 3) sc__law_is_so.nd rfl (Or.inl rfl) (pe_ix (ixT (K := K) rfl) (pv 0) pe_int (fun _ _ => rfl))) (pss_cons (ps_if (pt_cmpR op_eq (pv 3) pe_str (nomark _)) (pss_one (ps_ret (pe_cmpR op_le (pe_call c__law_day.ok (hr.mono (by omega)) (by rfl) c__law_day.mgx c__law_day.kp c__law_day.bd .nil pass0 (pa_cons (pe_ix (ixT (K := K) rfl) (pv 0) pe_int (fun _ _ => rfl)) (pa_cons (pv 1) (pa_cons (pv 2) pa_nil)))) (pe_call c__law_day.ok (hr.mono (by omega)) (by rfl) c__law_day.mgx c__law_day.kp c__law_day.bd .nil pass0 (pa_cons (pe_ix (ixT (K := K) rfl) (pv 0) pe_int (fun _ _ => rfl)) (pa_cons (pv 1) (pa_cons (pv 2) pa_nil)))) (nomark _)))) pss_nil) (pss_cons (ps_if (pt_cmpR op_eq (pv 3) pe_str (nomark _)) (pss_one (ps_ret (pe_not (pe_call c__law_is_so.ok (hr.mono (by omega)) (by rfl) c__law_is_so.mgx c__law_is_so.kp c__law_is_so.bd .nil pass0 (pa_cons (pe_ix (ixT (K := K) rfl) (pv 0) pe_int (fun _ _ => rfl)) (pa_cons (pv 1) (pa_cons (pv 2) pa_nil))))))) pss_nil) (pss_cons (ps_par (i := 4) (j := 5) (by rfl) sc__law_is_so.nd rfl rfl (by decide) rfl rfl (pa_cons (pe_call c__law_is_so.ok (hr.mono (by omega)) (by rfl) c__law_is_so.mgx c__law_is_so.kp c__law_is_so.bd .nil pass0 (pa_cons (pe_ix (ixT (K := K) rfl) (pv 0) pe_int (fun _ _ => rfl)) (pa_cons (pv 1) (pa_cons (pv 2) pa_nil)))) (pa_cons (pe_call c__law_is_so.ok (hr.mono (by omega)) (by rfl) c__law_is_so.mgx c__law_is_so.kp c__law_is_so.bd .nil pass0 (pa_cons (pe_ix (ixT (K := K) rfl) (pv 0) pe_int (fun _ _ => rfl)) (pa_cons (pv 1) (pa_cons (pv 2) pa_nil)))) pa_nil)) (by rfl)) (pss_one (ps_ret (pe_ifExp (pt_cmpR op_eq (pv 3) pe_str (nomark _)) (pe_and (pv 4) (pe_one (pv 5))) (pe_or (pv 4) (pe_one (pv 5)))))))))), ?_⟩
    refine q_asg (ev_wordA (K := K) (ev_var rfl) ht) fun H1 e1 => ?_
    have a1 : At H1 x t := ht.mono (Tu.ex e1)
    have tw : ∀ (σ : L2.St) (H2 : Hp) (z : Str), σ[3]? = some (some (V.str (word t))) → EvT (tTest (tOp rEq (tVar 3) (tC (.str z)))) σ H2 (decide (word t = z)) := fun σ H2 z hv => et_is (et_test (ev_op (ev_var hv) ev_c (rv_eq rfl))) (dec_str _ _)
    cases t with
    | lf w v => exact hS.elim
    | ov w v t => exact hS.elim
    | nt t =>
      obtain ⟨a, y, rfl, ha, hy⟩ := a1
      have hdt : depth t < n := Nat.lt_of_succ_lt_succ hdep
      have hdt10 : depth t < 10 := Nat.lt_of_succ_lt h10
      have hzt : (pcs t).length ≤ 1000 := by have : (pcs (Td.nt t)).length = (pcs t).length + 1 := List.length_cons; omega
      have n1 : decide (("not" : Str) = "le") = false := by decide
      have n2 : decide (("not" : Str) = "not") = true := by decide
      refine q_when (b := decide (("not" : Str) = "le")) (tw _ _ _ rfl) (fun z => by rw [n1] at z; cases z) (fun _ H2 e2 => ?_)
      refine q_when (b := decide (("not" : Str) = "not")) (tw _ _ _ rfl) (fun _ H3 e3 => ?_) (fun z => by rw [n2] at z; cases z)
      have e03 := (e1.trans e2).trans e3
      exact s_ret (ev_notV (ev_call (ea_cons (ev_at1 (K := K) (ev_var rfl) ((e2.trans e3) a _ ha)) (ea_cons (ev_var rfl) (ea_cons (ev_var rfl) ea_nil))) (spv_lso (hy.mono (Tu.ex (e2.trans e3))) hS hdt hdt10 hzt sm (hds.mono e03) db (hws.mono e03) hh))) fun H4 e4 => k H4 (e03.trans e4)
    | bi w t u =>
      obtain ⟨a, y, z, rfl, ha, hy, hz⟩ := a1
      have hm := Nat.lt_of_succ_lt_succ hdep
      have hm10 : max (depth t) (depth u) + 1 < 10 := h10
      have hzb : (pcs (Td.bi w t u)).length = (pcs t ++ pcs u).length + 1 := List.length_cons
      rw [List.length_append] at hzb
      rcases hS with ⟨e, hF1, hF2⟩ | ⟨hw, hS1, hS2⟩
      · subst e
        have n1 : decide (("le" : Str) = "le") = true := by decide
        refine q_when (b := decide (("le" : Str) = "le")) (tw _ _ _ rfl) (fun _ H2 e2 => ?_) (fun z => by rw [n1] at z; cases z)
        have e02 := e1.trans e2
        refine s_ret (ev_is (ev_op (ev_call (ea_cons (ev_at1 (K := K) (ev_var rfl) (e2 a _ ha)) (ea_cons (ev_var rfl) (ea_cons (ev_var rfl) ea_nil))) (spv_lday (hy.mono (Tu.ex e2)) hF1 (by omega) (by omega) sm.1 (hds.mono e02) db (hws.mono e02) hh.1)) (ev_call (ea_cons (ev_at2 (K := K) (ev_var rfl) (e2 a _ ha)) (ea_cons (ev_var rfl) (ea_cons (ev_var rfl) ea_nil))) (spv_lday (hz.mono (Tu.ex e2)) hF2 (by omega) (by omega) sm.2 (hds.mono e02) db (hws.mono e02) hh.2)) rv_I0) (w := .bl (soOf (dnOf ds) (wdOf ws) (.bi "le" t u))) ?_) fun H3 e3 => k H3 (e02.trans e3)
        show V.bl _ = V.bl (if ("le" : Str) = "le" then _ else _)
        rw [if_pos rfl]
      · have n1 : decide (w = "le") = false := by rcases hw with e | e <;> (subst e; decide)
        have n2 : decide (w = "not") = false := by rcases hw with e | e <;> (subst e; decide)
        refine q_when (b := decide (w = "le")) (tw _ _ _ rfl) (fun z => by rw [n1] at z; cases z) (fun _ H2 e2 => ?_)
        refine q_when (b := decide (w = "not")) (tw _ _ _ rfl) (fun z => by rw [n2] at z; cases z) (fun _ H3 e3 => ?_)
        have e03 := (e1.trans e2).trans e3
        have nl : ¬ w = "le" := of_decide_eq_false n1
        refine q_par (v := .bl (soOf (dnOf ds) (wdOf ws) t)) (w := .bl (soOf (dnOf ds) (wdOf ws) u)) (ea_cons (ev_call (ea_cons (ev_at1 (K := K) (ev_var rfl) ((e2.trans e3) a _ ha)) (ea_cons (ev_var rfl) (ea_cons (ev_var rfl) ea_nil))) (spv_lso (hy.mono (Tu.ex (e2.trans e3))) hS1 (by omega) (by omega) (by omega) sm.1 (hds.mono e03) db (hws.mono e03) hh.1)) (ea_cons (ev_call (ea_cons (ev_at2 (K := K) (ev_var rfl) ((e2.trans e3) a _ ha)) (ea_cons (ev_var rfl) (ea_cons (ev_var rfl) ea_nil))) (spv_lso (hz.mono (Tu.ex (e2.trans e3))) hS2 (by omega) (by omega) (by omega) sm.2 (hds.mono e03) db (hws.mono e03) hh.2)) ea_nil)) fun H4 e4 => ?_
        refine s_ret (v := .bl (soOf (dnOf ds) (wdOf ws) (.bi w t u))) (ev_if (b := decide (w = "and")) (tw _ _ _ rfl) (fun hb => ?_) (fun hb => ?_)) fun H5 e5 => k H5 ((e03.trans e4).trans e5)
        · have e : w = "and" := of_decide_eq_true hb
          refine ev_is (ev_andV (ev_var rfl) fun _ => ev_var rfl) ?_
          show V.bl _ = V.bl (if w = "le" then _ else if w = "and" then _ else _)
          rw [if_neg nl, if_pos e]
        · have e : ¬ w = "and" := of_decide_eq_false hb
          refine ev_is (ev_orV (ev_var rfl) fun _ => ev_var rfl) ?_
          show V.bl _ = V.bl (if w = "le" then _ else if w = "and" then _ else _)
          rw [if_neg nl, if_neg e]
end
/-! ### comprehensions that draw -/
theorem wo_wo {H H' : Hp} {p q : Addr} (h : ∀ b o, b ≠ p → b ≠ q → H b = some o → H' b = some o) : Ex (wo (wo H p) q) (wo (wo H' p) q) := fun b o hb => by
  by_cases z : b = q
  · subst z; rw [wo_at] at hb; cases hb
  · rw [wo_ne z] at hb ⊢
    by_cases y : b = p
    · subst y; rw [wo_at] at hb; cases hb
    · rw [wo_ne y] at hb ⊢
      exact h b o y z hb
section
variable {K : PySem.W.Frag} {σ : L2.St} {H : Hp} {p a : Addr} {j : Nat} {vs : List Nat} {tl te : TE} {Q : VK} {L : List Str}
/-- [e for x in a list of texts], e draws: Z tells of each new thing, without the pot and without what stood there -/
theorem lc_pot (Z : Str → V → Hp → Prop) (zm : ∀ x v B B', Ex B B' → Z x v B → Z x v B') (hp : PotAt H p) (hl : Ev tl σ H (.ref a)) (hs : SqL K (wo H p) a (L.map V.str)) (hz : L.length ≤ 1000) (hw : ∀ x, wipe ((wipe σ vs).set j (some x)) vs = wipe σ vs)
    (he : ∀ x, x ∈ L → ∀ H1, Ex (wo H p) H1 → PotAt H1 p → ∀ Q' : VK, (∀ v H2, Ex (wo H1 p) H2 → PotAt H2 p → (∀ q, H1 q ≠ none → Z x v (wo (wo H2 p) q)) → Q' v H2) → te ((wipe σ vs).set j (some (.str x))) H1 Q')
    (k : ∀ (D : Addr) (us : List V) (H2 : Hp), H D = none → Ex (wo H p) H2 → PotAt H2 p → H2 D = some (.lst us) → us.length = L.length → (∀ (i : Nat) (x : Str) (v : V), L[i]? = some x → us[i]? = some v → Z x v (wo (wo H2 p) D)) → Q (.ref D) H2) : tLc (iList K tl) (gName j) tYes te vs σ H Q :=
  hl H (Ex.refl _) _ fun H1 e1 => ⟨a, rfl, ⟨_, ex_l (wo_ex.trans e1) hs⟩, fun Dl hD => by
    obtain ⟨o, ho⟩ := hp.some
    have hHD : H Dl = none := fresh_back e1 hD
    have hne : Dl ≠ p := (ne_of_none ho hHD).symm
    have hwD : wo H p Dl = none := by rw [wo_ne hne]; exact hHD
    refine lc_list (xs := L.map V.str) (fun i H' => ∃ acc : List V, Ex (wo H p) H' ∧ PotAt H' p ∧ H' Dl = some (.lst acc) ∧ acc.length = i ∧ ∀ (m : Nat) (x : Str) (v : V), L[m]? = some x → acc[m]? = some v → Z x v (wo (wo H' p) Dl))
      ⟨[], (wo_ex.trans e1).trans (Ex.new hD), (hp.mono e1).mono (Ex.new hD), upd_same, rfl, fun m x v _ h => by simp at h⟩ (fun i H' _ h => ?_) (fun i x H' hi h => ?_) (fun H' h => ?_)
    · obtain ⟨acc, x1, _⟩ := h
      exact ex_l x1 hs
    · obtain ⟨acc, x1, x2, x3, x4, x5⟩ := h
      rw [List.getElem?_map] at hi
      obtain ⟨s, hsx, rfl⟩ := Option.map_eq_some_iff.mp hi
      refine ⟨hw _, ?_⟩
      unfold tYes
      refine iteT ?_
      refine he s (List.mem_of_getElem? hsx) H' x1 x2 _ fun v H2 e2 hp2 z => ?_
      have h2D : H2 Dl = some (.lst acc) := e2 Dl _ (by rw [wo_ne hne]; exact x3)
      have hlt : i < L.length := (List.getElem?_eq_some_iff.mp hsx).1
      refine ⟨acc, h2D, sz_lt (by omega), acc ++ [v], (wo_tr x1 e2).mut hwD, ?_, upd_same, by rw [List.length_append, x4] <;> rfl, fun m x u hm hu => ?_⟩
      · obtain ⟨c, d, q1, q2⟩ := hp2
        exact ⟨c, d, q1, by rw [upd_ne (Ne.symm hne)]; exact q2⟩
      · by_cases hmi : m < acc.length
        · rw [List.getElem?_append_left hmi] at hu
          exact zm x u _ _ (wo_wo fun b o h1 h2 hb => by rw [upd_ne h2]; exact e2 b o (by rw [wo_ne h1]; exact hb)) (x5 m x u hm hu)
        · rw [List.getElem?_append_right (by omega)] at hu
          have hm0 : m - acc.length = 0 := by
            refine Classical.byContradiction fun q => ?_
            rw [List.getElem?_eq_none (by show 1 ≤ m - acc.length; omega)] at hu
            cases hu
          rw [hm0] at hu
          have hmeq : m = i := by omega
          subst hmeq
          rw [hsx] at hm
          cases hm
          cases hu
          exact zm _ _ _ _ (wo_wo fun b o h1 h2 hb => by rw [upd_ne h2]; exact hb) (z Dl (by rw [x3]; exact fun y => by cases y))
    · obtain ⟨acc, x1, x2, x3, x4, x5⟩ := h
      rw [List.length_map] at x4
      exact k Dl acc H' hHD x1 x2 x3 x4 x5⟩
end
end K22
end
section
set_option maxHeartbeats 4000000
namespace K22
open PySem L2 Evl G TM TD
/-! ### dicts of pairs -/
theorem valV_none {kvs : List (Key × V)} {k : Key} (h : k ∉ kvs.map (·.1)) : valV kvs k = none := by
  induction kvs with
  | nil => rfl
  | cons p kvs ih =>
    rw [List.map_cons, List.mem_cons, not_or] at h
    rw [valV_neg (fun z => h.1 z.symm)]
    exact ih h.2
theorem merge_new : ∀ (more kvs : List (Key × V)), (more.map (·.1)).Nodup → (∀ k ∈ more.map (·.1), k ∉ kvs.map (·.1)) → mergeK kvs more = kvs ++ more
  | [], kvs, _, _ => (List.append_nil _).symm
  | p :: more, kvs, hn, hd => by
    obtain ⟨h1, h2⟩ := List.nodup_cons.mp hn
    show mergeK (putK kvs p.1 p.2) more = _
    rw [putK_new p.2 (valV_none (hd p.1 List.mem_cons_self)), merge_new more _ h2 fun k hk => ?_]
    · simp
    · rw [List.map_append, List.mem_append, not_or]
      refine ⟨hd k (List.mem_cons_of_mem _ hk), fun z => ?_⟩
      rw [List.map_cons, List.map_nil, List.mem_singleton] at z
      subst z; exact h1 hk
theorem merge_nil {kvs : List (Key × V)} (h : (kvs.map (·.1)).Nodup) : mergeK [] kvs = kvs := by
  rw [merge_new kvs [] h fun k _ hk => by cases hk]
  rfl
theorem keyed_keys {α : Type} (g : α → V) (ds : List (Str × α)) : (keyed g ds).map (·.1) = ds.map fun p => kS p.1 := by unfold keyed; rw [List.map_map]; rfl
theorem keyed_nodup {α : Type} (g : α → V) {ds : List (Str × α)} (h : (ds.map (·.1)).Nodup) : ((keyed g ds).map (·.1)).Nodup := by
  rw [keyed_keys]
  have e : (ds.map fun p => kS p.1) = (ds.map (·.1)).map kS := by rw [List.map_map]; rfl
  rw [e]
  exact List.Pairwise.map _ (fun a b q z => q (Sum.inr.inj z)) h
/-- the pairs that a comprehension made -/
theorem pairs_ex {α : Type} {K : PySem.W.Frag} {H : Hp} {G : Str → α → Prop} {g : α → V} : ∀ (L : List Str) (us : List V), us.length = L.length → (∀ (i : Nat) (x : Str) (v : V), L[i]? = some x → us[i]? = some v → ∃ T c, v = .ref T ∧ H T = some (.tup [.str x, g c]) ∧ G x c) →
    ∃ (ps : List Addr) (ds : List (Str × α)), us = ps.map V.ref ∧ ds.map (·.1) = L ∧ Paired (fun p kv => SqT K H p [kV kv.1, kv.2]) ps (keyed g ds) ∧ ∀ p ∈ ds, G p.1 p.2
  | [], us, hl, _ => by
    cases us with
    | nil => exact ⟨[], [], rfl, rfl, .nil, fun p hp => by cases hp⟩
    | cons _ _ => cases hl
  | x :: L, us, hl, h => by
    cases us with
    | nil => cases hl
    | cons u us =>
      obtain ⟨T, c, rfl, hT, hG⟩ := h 0 x u rfl rfl
      obtain ⟨ps, ds, h1, h2, h3, h4⟩ := pairs_ex L us (by simpa using hl) fun i y v a b => h (i + 1) y v (by simpa using a) (by simpa using b)
      refine ⟨T :: ps, (x, c) :: ds, by rw [h1] <;> rfl, by rw [List.map_cons, h2], .cons (st_of hT) h3, fun p hp => ?_⟩
      rcases List.mem_cons.mp hp with e | hp
      · subst e; exact hG
      · exact h4 p hp
/-- days of a law's draw -/
def DBs (ds : Ds) : Prop := ∀ p ∈ ds, -200000000000 ≤ p.2 ∧ p.2 ≤ 200000000000
theorem DBs.bd {ds : Ds} (h : DBs ds) : DBd ds := fun p hp => by have := h p hp; omega
def sp_ldays : Sp := fun vs H Q _ => ∃ (p a : Addr) (N : List Str), vs = [.ref p, .ref a] ∧ PotAt H p ∧ wo H p a = some (.lst (N.map V.str)) ∧ N.length ≤ 1000 ∧ N.Nodup ∧ (∀ x ∈ N, x ∈ nameL) ∧
  ∀ d ds H2, H d = none → Ex (wo H p) H2 → PotAt H2 p → DaysAt H2 d ds → DBs ds → ds.map (·.1) = N → Q (.ref d) H2
def sp_lworld (K : PySem.W.Frag) : Sp := fun vs H Q _ => ∃ (p a : Addr) (N : List Str), vs = [.ref p, .ref a] ∧ PotAt H p ∧ wo H p a = some (.lst (N.map V.str)) ∧ N.length ≤ 1000 ∧ N.Nodup ∧ (∀ x ∈ N, x ∈ ruleL) ∧
  ∀ d ws H2, H d = none → Ex (wo H p) H2 → PotAt H2 p → ListsAt K (wo H2 p) d ws → (∀ q ∈ ws, q.2.2.length ≤ 8 ∧ wo H2 p q.2.1 = some (.lst (q.2.2.map V.int))) → ws.map (·.1) = N → Q (.ref d) H2
theorem bnd_pow : (10 : Int) ^ (10 : Int).toNat = 10000000000 ∧ (10 : Int) ^ (11 : Int).toNat = 100000000000 := by decide
section
variable {P : Program} {w : World} {K : PySem.W.Frag} {mg : Str → Option Value} {base : Heap} {C SZ SY : Addr}
theorem ok_days {f f1 f2 : Addr} {fd fd1 fd2 : FuncData} (F : Fun K "_law_days" "_law_days" s__law_days f fd) (T : Txt P w K mg C SZ SY) (c__law_draw : Cal P w K mg base "_law_draw" f1 fd1 ["_law_pot_here", "_law_many"] 1 sp_draw) (c__law_pick : Cal P w K mg base "_law_pick" f2 fd2 ["_law_pot_here", "_law_some_here"] 2 (sp_pick K)) : FnOk P w K mg base CX0 3 f fd ["_law_pot_here", "_law_names"] sp_ldays := by
  refine F.ok sc__law_days (fun vs H Q E h => ?_) (fun cdv A outer s H vs Q E hr h => ?_)
  · obtain ⟨p, a, N, rfl, _⟩ := h
    rfl
  · obtain ⟨p, a, N, rfl, hp, ha, hz, hnd, hsub, k⟩ := h
    refine ⟨_, (pss_one (ps_ret (pe_callTy (call_dictP rfl) (by rfl) T.b_dict (by decide +kernel) (pa_cons (pe_lc (own := [("_law_name", 2)]) (g := (gName 2)) (by rfl) sc__law_days.nd (piL (K := K) rfl (pv 1)) (blkOk_by (own := [("_law_name", 2)]) (N := ["_law_pot_here", "_law_names", "_law_name"]) (sc := defScope s__law_days) (by decide +kernel)) (fun _ _ _ _ _ => (pg_name (i := 2) sc__law_days.nd rfl (Or.inl rfl))) (fun _ _ _ _ _ => pts_nil) (fun _ _ _ _ _ => (pe_tup (pa_cons (pv 2) (pa_cons (pe_op op_add (pe_op op_sub (pe_call c__law_draw.ok (hr.mono (by decide)) (by rfl) c__law_draw.mgx c__law_draw.kp c__law_draw.bd .nil pass0 (pa_cons (pv 0) (pa_cons pe_int pa_nil))) pe_int) (pe_call c__law_pick.ok (hr.mono (by decide)) (by rfl) c__law_pick.mgx c__law_pick.kp c__law_pick.bd .nil pass0 (pa_cons (pv 0) (pa_cons (pe_lst (pa_cons pe_int (pa_cons pe_int (pa_cons pe_int (pa_cons (pe_op op_pow pe_int pe_int) (pa_cons (pe_un un_neg (pe_op op_pow pe_int pe_int)) pa_nil)))))) pa_nil)))) pa_nil))))) pa_nil)))), ?_⟩
    refine ret_k (cb_k (ac_k (lc_pot (K := K) (L := N) (a := a) (p := p) (fun x v B => ∃ T i, v = .ref T ∧ B T = some (.tup [.str x, .int i]) ∧ -200000000000 ≤ i ∧ i ≤ 200000000000) (fun x v B B' e ⟨T, i, h1, h2, h3⟩ => ⟨T, i, h1, e T _ h2, h3⟩) hp (ev_var rfl) (sq_of ha) hz (fun _ => rfl) (fun x hx H1 e1 hp1 Q' q' => ?_) (fun D us H2 hD e2 hp2 h2 hl hZ => ?_))))
    · refine tup_k (ac_v (ev_var (i := 2) rfl) fun H2 e2 => ac_k (op_k (op_k (drawC (hp1.mono e2) rfl ev_c (by decide) (by decide) fun d H3 d0 d1 e3 hp3 => v_k ev_c fun H4 e4 => ⟨d, 6, rfl, rfl, pickC (xs := [.int 0, .int 0, .int 0, .int (10 ^ (10 : Int).toNat), .int (-(10 ^ (11 : Int).toNat))]) (hp3.mono e4) rfl (ea_cons ev_c (ea_cons ev_c (ea_cons ev_c (ea_cons (ev_op ev_c ev_c (rv_I ⟨by decide, by decide, by decide⟩)) (ea_cons (ev_un (ev_op ev_c ev_c (rv_I ⟨by decide, by decide, by decide⟩)) ru_neg) ea_nil))))) (by show 0 < 5; decide) (by show 5 ≤ 1000; decide) fun j v H5 hj e5 hp5 => ?_⟩))))
      obtain ⟨m, rfl, hm1, hm2⟩ : ∃ m : Int, v = .int m ∧ -100000000000 ≤ m ∧ m ≤ 10000000000 := by
        have hmem := List.mem_of_getElem? hj
        rw [bnd_pow.1, bnd_pow.2] at hmem
        simp only [List.mem_cons, List.not_mem_nil, or_false] at hmem
        rcases hmem with e | e | e | e | e <;> exact ⟨_, e, by decide, by decide⟩
      refine ⟨_, _, rfl, rfl, ac_nil ⟨sz_of (by show 2 ≤ 100000; decide), fun T hT => ?_⟩⟩
      have e15 : Ex (wo H1 p) H5 := wo_tr (wo_tr (wo_ex.trans e2) (e3.trans e4)) e5
      obtain ⟨o5, ho5⟩ := hp5.some
      have hTp : T ≠ p := (ne_of_none ho5 hT).symm
      refine q' _ _ (e15.trans (Ex.new hT)) (hp5.mono (Ex.new hT)) fun q hq => ⟨T, (d : Int) - 6 + m, rfl, ?_, by omega, by omega⟩
      have hTq : T ≠ q := by
        rintro rfl
        cases hh : H1 T with
        | none => exact hq hh
        | some u =>
          have := e15 T u (by rw [wo_ne hTp]; exact hh)
          rw [hT] at this
          cases this
      rw [wo_ne hTq, wo_ne hTp]
      exact upd_same
    · obtain ⟨ps, ds, rfl, hkeys, hpr, hG⟩ := pairs_ex (K := K) (H := H2) (g := V.int) (G := fun _ i => -200000000000 ≤ i ∧ i ≤ 200000000000) N us hl fun i x v a b => by
        obtain ⟨T, m, h1, h3, h4⟩ := hZ i x v a b
        exact ⟨T, m, h1, wo_ex T _ (wo_ex T _ h3), h4⟩
      refine ac_nil ⟨D, ps, keyed V.int ds, rfl, sq_of h2, hpr, fun d hd => ?_⟩
      rw [merge_nil (keyed_nodup _ (by rw [hkeys]; exact hnd))]
      have hdH : H d = none := by
        obtain ⟨o2, ho2⟩ := hp2.some
        have hdp : d ≠ p := (ne_of_none ho2 hd).symm
        cases q : H d with
        | none => rfl
        | some u => exact absurd (e2 d u (by rw [wo_ne hdp]; exact q)) (by rw [hd]; exact fun z => by cases z)
      exact k d ds _ hdH (e2.trans (Ex.new hd)) (hp2.mono (Ex.new hd)) ⟨upd_same, fun q hq => hsub _ (by rw [← hkeys]; exact List.mem_map.mpr ⟨q, hq, rfl⟩), by have := congrArg List.length hkeys; rw [List.length_map] at this; omega⟩ (fun q hq => hG q hq) hkeys
end
end K22
end
section
set_option maxHeartbeats 4000000
namespace K22
open PySem L2 Evl G TM TD
section
variable {P : Program} {w : World} {K : PySem.W.Frag} {mg : Str → Option Value} {base : Heap} {C SZ SY : Addr}
theorem ok_world {f f1 : Addr} {fd fd1 : FuncData} (F : Fun K "_law_world" "_law_world" s__law_world f fd) (T : Txt P w K mg C SZ SY) (c__law_table : Cal P w K mg base "_law_table" f1 fd1 ["_law_pot_here"] 3 sp_table) : FnOk P w K mg base CX0 4 f fd ["_law_pot_here", "_law_rules"] (sp_lworld K) := by
  refine F.ok sc__law_world (fun vs H Q E h => ?_) (fun cdv A outer s H vs Q E hr h => ?_)
  · obtain ⟨p, a, N, rfl, _⟩ := h
    rfl
  · obtain ⟨p, a, N, rfl, hp, ha, hz, hnd, hsub, k⟩ := h
    refine ⟨_, (pss_one (ps_ret (pe_callTy (call_dictP rfl) (by rfl) T.b_dict (by decide +kernel) (pa_cons (pe_lc (own := [("_law_rule", 2)]) (g := (gName 2)) (by rfl) sc__law_world.nd (piL (K := K) rfl (pv 1)) (blkOk_by (own := [("_law_rule", 2)]) (N := ["_law_pot_here", "_law_rules", "_law_rule"]) (sc := defScope s__law_world) (by decide +kernel)) (fun _ _ _ _ _ => (pg_name (i := 2) sc__law_world.nd rfl (Or.inl rfl))) (fun _ _ _ _ _ => pts_nil) (fun _ _ _ _ _ => (pe_tup (pa_cons (pv 2) (pa_cons (pe_call c__law_table.ok (hr.mono (by decide)) (by rfl) c__law_table.mgx c__law_table.kp c__law_table.bd .nil pass0 (pa_cons (pv 0) pa_nil)) pa_nil))))) pa_nil)))), ?_⟩
    refine ret_k (cb_k (ac_k (lc_pot (K := K) (L := N) (a := a) (p := p) (fun x v B => ∃ T l ns, v = .ref T ∧ B T = some (.tup [.str x, .ref l]) ∧ B l = some (.lst (ns.map V.int)) ∧ Good ns ∧ Near ns ∧ ns.length ≤ 8) (fun x v B B' e ⟨T, l, ns, h1, h2, h3, h4⟩ => ⟨T, l, ns, h1, e T (.tup [.str x, .ref l]) h2, e l (.lst (ns.map V.int)) h3, h4⟩) hp (ev_var rfl) (sq_of ha) hz (fun _ => rfl) (fun x hx H1 e1 hp1 Q' q' => ?_) (fun D us H2 hD e2 hp2 h2 hl hZ => ?_))))
    · refine tup_k (ac_v (ev_var (i := 2) rfl) fun H2 e2 => ac_k ⟨.ref p, rfl, p, rfl, hp1.mono e2, fun l ns H5 hl e5 hp5 h5 hg hn h8 => ?_⟩)
      refine ac_nil ⟨sz_of (by show 2 ≤ 100000; decide), fun T hT => ?_⟩
      have e15 : Ex (wo H1 p) H5 := wo_tr (wo_ex.trans e2) e5
      obtain ⟨o5, ho5⟩ := hp5.some
      have hTp : T ≠ p := (ne_of_none ho5 hT).symm
      have hTl : T ≠ l := (ne_of_none h5 hT).symm
      have hlH : H1 l = none := fresh_back e2 hl
      refine q' _ _ (e15.trans (Ex.new hT)) (hp5.mono (Ex.new hT)) fun q hq => ⟨T, l, ns, rfl, ?_, ?_, hg, hn, h8⟩
      · have hTq : T ≠ q := by
          rintro rfl
          cases hh : H1 T with
          | none => exact hq hh
          | some u =>
            have := e15 T u (by rw [wo_ne hTp]; exact hh)
            rw [hT] at this
            cases this
        rw [wo_ne hTq, wo_ne hTp]
        exact upd_same
      · have hlq : l ≠ q := by
          rintro rfl
          exact hq hlH
        have hlp : l ≠ p := by
          rintro rfl
          obtain ⟨o1, ho1⟩ := hp1.some
          rw [hlH] at ho1
          cases ho1
        rw [wo_ne hlq, wo_ne hlp]
        exact Ex.new hT l _ h5
    · obtain ⟨ps, ws, rfl, hkeys, hpr, hG⟩ := pairs_ex (K := K) (H := H2) (g := wV) (G := fun _ c => wo H2 p c.1 = some (.lst (c.2.map V.int)) ∧ Good c.2 ∧ Near c.2 ∧ c.2.length ≤ 8) N us hl fun i x v a b => by
        obtain ⟨T, l, ns, h1, h3, h5, h4⟩ := hZ i x v a b
        exact ⟨T, (l, ns), h1, wo_ex T _ (wo_ex T _ h3), wo_ex l _ h5, h4⟩
      refine ac_nil ⟨D, ps, keyed wV ws, rfl, sq_of h2, hpr, fun d hd => ?_⟩
      rw [merge_nil (keyed_nodup _ (by rw [hkeys]; exact hnd))]
      have hdp : d ≠ p := by
        obtain ⟨o2, ho2⟩ := hp2.some
        exact (ne_of_none ho2 hd).symm
      have hdH : H d = none := by
        cases q : H d with
        | none => rfl
        | some u => exact absurd (e2 d u (by rw [wo_ne hdp]; exact q)) (by rw [hd]; exact fun z => by cases z)
      exact k d ws _ hdH (e2.trans (Ex.new hd)) (hp2.mono (Ex.new hd)) ⟨by rw [wo_ne hdp]; exact upd_same, fun q hq => ⟨hsub _ (by rw [← hkeys]; exact List.mem_map.mpr ⟨q, hq, rfl⟩), (hG q hq).2.1, (hG q hq).2.2.1, sq_of (wo_mono (Ex.new hd) _ _ (hG q hq).1)⟩, by have := congrArg List.length hkeys; rw [List.length_map] at this; omega⟩ (fun q hq => ⟨(hG q hq).2.2.2, wo_mono (Ex.new hd) _ _ (hG q hq).1⟩) hkeys
/-- a whole number -/
def sp_law_is_integer : Sp := fun vs H Q _ => ∃ n : Int, vs = [.int n] ∧ RetV (.bl true) H Q
theorem ok_is_integer {f : Addr} {fd : FuncData} (F : Fun K "_law_is_integer" "_law_is_integer" s__law_is_integer f fd) (T : Txt P w K mg C SZ SY) : FnOk P w K mg base CX0 1 f fd ["_law_value"] sp_law_is_integer := by
  refine F.ok sc__law_is_integer (fun vs H Q E h => ?_) (fun cdv A outer s H vs Q E hr h => ?_)
  · obtain ⟨n, rfl, _⟩ := h
    rfl
  · obtain ⟨n, rfl, k⟩ := h
    refine ⟨_, (pss_one (ps_ret (pe_and (pe_callB (isiS (K := K) rfl) (by rfl) T.b_isinstance (by decide +kernel) (pa_cons (pv 0) (pa_cons (pe_bltn (v := .ty "int") (u := .type "int") (by rfl) T.b_int (by decide +kernel) rfl) pa_nil))) (pe_one (pe_not (pe_callB (isiS (K := K) rfl) (by rfl) T.b_isinstance (by decide +kernel) (pa_cons (pv 0) (pa_cons (pe_bltn (v := .ty "bool") (u := .type "bool") (by rfl) T.b_bool (by decide +kernel) rfl) pa_nil)))))))), ?_⟩
    refine s_ret (ev_andV (b := true) (ev_isiB (b := true) (ev_var rfl) (fun _ _ => .base (.int n)) (by decide +kernel)) fun _ => ev_notV (a := false) (ev_isiB (b := false) (ev_var rfl) (fun _ _ => .base (.int n)) (by decide +kernel))) fun H1 e => k H1 e
end
end K22
end
section
set_option maxHeartbeats 4000000
namespace K22
open PySem L2 Evl G TM TD PyProof.Rows
section
variable {K : PySem.W.Frag} {σ : L2.St} {H : Hp} {a : Addr} {j : Nat} {vs : List Nat} {tl te ta : TE} {Q : VK} {L : List Str} {xs : List V}
/-- [e for x in a new list of texts], e makes new things -/
theorem lc_new (Z : Str → V → Hp → Prop) (zm : ∀ x v B B', Ex B B' → Z x v B → Z x v B') (hl : EvL tl σ H (L.map V.str)) (hz : L.length ≤ 1000) (hw : ∀ x, wipe ((wipe σ vs).set j (some x)) vs = wipe σ vs)
    (he : ∀ x, x ∈ L → ∀ H1, Ex H H1 → ∀ Q' : VK, (∀ v H2, Ex H1 H2 → (∀ q, H1 q ≠ none → Z x v (wo H2 q)) → Q' v H2) → te ((wipe σ vs).set j (some (.str x))) H1 Q')
    (k : ∀ (D : Addr) (us : List V) (H2 : Hp), H D = none → Ex H H2 → H2 D = some (.lst us) → us.length = L.length → (∀ (i : Nat) (x : Str) (v : V), L[i]? = some x → us[i]? = some v → Z x v (wo H2 D)) → Q (.ref D) H2) : tLc (iList K tl) (gName j) tYes te vs σ H Q :=
  hl H (Ex.refl _) _ fun a H1 ha e1 h1 => ⟨a, rfl, ⟨_, sq_of h1⟩, fun Dl hD => by
    refine lc_list (xs := L.map V.str) (fun i H' => ∃ acc : List V, Ex H1 H' ∧ H' Dl = some (.lst acc) ∧ acc.length = i ∧ ∀ (m : Nat) (x : Str) (v : V), L[m]? = some x → acc[m]? = some v → Z x v (wo H' Dl))
      ⟨[], Ex.new hD, upd_same, rfl, fun m x v _ h => by simp at h⟩ (fun i H' _ h => ?_) (fun i x H' hi h => ?_) (fun H' h => ?_)
    · obtain ⟨acc, x1, _⟩ := h
      exact sq_of (x1 a _ h1)
    · obtain ⟨acc, x1, x3, x4, x5⟩ := h
      rw [List.getElem?_map] at hi
      obtain ⟨s, hsx, rfl⟩ := Option.map_eq_some_iff.mp hi
      refine ⟨hw _, ?_⟩
      unfold tYes
      refine iteT ?_
      refine he s (List.mem_of_getElem? hsx) H' (e1.trans x1) _ fun v H2 e2 z => ?_
      have h2D : H2 Dl = some (.lst acc) := e2 Dl _ x3
      have hlt : i < L.length := (List.getElem?_eq_some_iff.mp hsx).1
      refine ⟨acc, h2D, sz_lt (by omega), acc ++ [v], (x1.trans e2).mut hD, upd_same, by rw [List.length_append, x4] <;> rfl, fun m x u hm hu => ?_⟩
      have keep : ∀ (B : Hp) (o : HO), Ex B H2 → Ex (wo B Dl) (wo (upd H2 Dl o) Dl) := fun B o e b u hb => by
        by_cases q : b = Dl
        · subst q; rw [wo_at] at hb; cases hb
        · rw [wo_ne q] at hb ⊢
          rw [upd_ne q]
          exact e b u hb
      by_cases hmi : m < acc.length
      · rw [List.getElem?_append_left hmi] at hu
        exact zm x u _ _ (keep _ _ e2) (x5 m x u hm hu)
      · rw [List.getElem?_append_right (by omega)] at hu
        have hm0 : m - acc.length = 0 := by
          refine Classical.byContradiction fun q => ?_
          rw [List.getElem?_eq_none (by show 1 ≤ m - acc.length; omega)] at hu
          cases hu
        rw [hm0] at hu
        have hmeq : m = i := by omega
        subst hmeq
        rw [hsx] at hm
        cases hm
        cases hu
        exact zm _ _ _ _ (keep _ _ (Ex.refl _)) (z Dl (by rw [x3]; exact fun y => by cases y))
    · obtain ⟨acc, x1, x3, x4, x5⟩ := h
      rw [List.length_map] at x4
      exact k Dl acc H' (fresh_back e1 hD) (e1.trans ((Ex.refl _).trans x1)) x3 x4 x5⟩
theorem el_revL (h : EvL te σ H xs) : EvL (tRevL K te) σ H xs.reverse := fun H1 e Q q => h H1 e _ fun b H2 hb e2 h2 =>
  ⟨b, xs, rfl, sq_of h2, fun p hp => q p _ (fresh_back e2 hp) (e2.trans (Ex.new hp)) upd_same⟩
/-- sorted(d), d a dict by texts -/
theorem el_sortedD {kvs : List (Key × V)} {ks : List Str} (h : Ev te σ H (.ref a)) (ha : H a = some (.dK kvs)) (hk : kvs.map (·.1) = ks.map Sum.inr) (hn : ks.Nodup) (hz : ks.length < 64) :
    EvL (tCB (fun xs H Q => ∃ (a : Addr) (kvs : List (Key × V)) (ks : List Str), xs = [.ref a] ∧ Rd H a (.dK kvs) ∧ kvs.map (·.1) = ks.map Sum.inr ∧ ks.length < 64 ∧ ∀ ys p, ys.Perm ks → sortedS ys = true → H p = none → Q (.ref p) (upd H p (.lst (ys.map V.str)))) (tCons te tNil)) σ H ((nrm ks).map V.str) := fun H1 e Q q =>
  h H1 e _ fun H2 e2 => ⟨a, kvs, ks, rfl, .inl ((e.trans e2) a _ ha), hk, hz, fun ys p pm hs hp => by
    have hN : IsNrm ks ys := ⟨hs, pm.nodup_iff.mpr hn, fun k => pm.mem_iff⟩
    rw [nrm_eq hN] at q
    exact q p _ (fresh_back e2 hp) (e2.trans (Ex.new hp)) upd_same⟩
end
theorem pair_uniq {α : Type} : ∀ {ds : List (Str × α)} {x : Str} {c c' : α}, (ds.map (·.1)).Nodup → (x, c) ∈ ds → (x, c') ∈ ds → c' = c
  | [], _, _, _, _, h, _ => by cases h
  | p :: ds, x, c, c', hn, h, h' => by
    obtain ⟨h1, h2⟩ := List.nodup_cons.mp hn
    rcases List.mem_cons.mp h with e | k
    · subst e
      rcases List.mem_cons.mp h' with e | k'
      · cases e; rfl
      · exact absurd (List.mem_map.mpr ⟨_, k', rfl⟩) h1
    · rcases List.mem_cons.mp h' with e | k'
      · subst e
        exact absurd (List.mem_map.mpr ⟨(x, c), k, rfl⟩ : x ∈ ds.map (·.1)) h1
      · exact pair_uniq h2 k k'
theorem fst_nodup {α : Type} : ∀ {ds : List (Str × α)}, (ds.map (·.1)).Nodup → ds.Nodup
  | [], _ => List.nodup_nil
  | p :: ds, hn => by
    obtain ⟨h1, h2⟩ := List.nodup_cons.mp hn
    exact List.nodup_cons.mpr ⟨fun h => h1 (List.mem_map.mpr ⟨p, h, rfl⟩), fst_nodup h2⟩
theorem pairs_perm {α : Type} {ds ds' : List (Str × α)} (hn' : (ds'.map (·.1)).Nodup) (hn : (ds.map (·.1)).Nodup) (h : ∀ p ∈ ds', p ∈ ds) (hk : ∀ x ∈ ds.map (·.1), x ∈ ds'.map (·.1)) : ds'.Perm ds :=
  (List.perm_ext_iff_of_nodup (fst_nodup hn') (fst_nodup hn)).mpr fun p => ⟨h p, fun hp => by
    obtain ⟨p', h1, h2⟩ := List.mem_map.mp (hk p.1 (List.mem_map.mpr ⟨p, hp, rfl⟩))
    obtain ⟨x, c⟩ := p
    obtain ⟨x', c'⟩ := p'
    have e : x' = x := h2
    subst e
    have := pair_uniq hn hp (h _ h1)
    subst this
    exact h1⟩
theorem look_nodup {α : Type} {ds : List (Str × α)} {x : Str} {c : α} (hn : (ds.map (·.1)).Nodup) (h : (x, c) ∈ ds) : look ds x = some c := by
  obtain ⟨v, hv, hm⟩ := look_some (List.mem_map.mpr ⟨(x, c), h, rfl⟩)
  rw [hv]
  have := pair_uniq hn h hm
  rw [this]
/-- as sp_turned: the same pairs, in another order -/
def sp_turned : Sp := fun vs H Q _ => ∃ (α : Type) (g : α → V) (d : Addr) (ds : List (Str × α)), vs = [.ref d] ∧ H d = some (.dK (keyed g ds)) ∧ (ds.map (·.1)).Nodup ∧ ds.length < 64 ∧
  ∀ d' ds' H2, H d' = none → Ex H H2 → H2 d' = some (.dK (keyed g ds')) → ds'.Perm ds → Q (.ref d') H2
section
variable {P : Program} {w : World} {K : PySem.W.Frag} {mg : Str → Option Value} {base : Heap} {C SZ SY : Addr}
theorem ok_turned {f : Addr} {fd : FuncData} (F : Fun K "_law_turned" "_law_turned" s__law_turned f fd) (T : Txt P w K mg C SZ SY) : FnOk P w K mg base CX0 1 f fd ["_law_some_here"] sp_turned := by
  refine F.ok sc__law_turned (fun vs H Q E h => ?_) (fun cdv A outer s H vs Q E hr h => ?_)
  · obtain ⟨α, g, d, ds, rfl, _⟩ := h
    rfl
  · obtain ⟨α, g, d, ds, rfl, hd, hn, hz, k⟩ := h
    refine ⟨_, (pss_one (ps_ret (pe_callTy (call_dictP rfl) (by rfl) T.b_dict (by decide +kernel) (pa_cons (pe_lc (own := [("_law_key", 1)]) (g := (gName 1)) (by rfl) sc__law_turned.nd (piL (K := K) rfl (pe_revL (pe_callB (call_sortedD rfl) (by rfl) T.b_sorted (by decide +kernel) (pa_cons (pv 0) pa_nil)))) (blkOk_by (own := [("_law_key", 1)]) (N := ["_law_some_here", "_law_key"]) (sc := defScope s__law_turned) (by decide +kernel)) (fun _ _ _ _ _ => (pg_name (i := 1) sc__law_turned.nd rfl (Or.inl rfl))) (fun _ _ _ _ _ => pts_nil) (fun _ _ _ _ _ => (pe_tup (pa_cons (pv 1) (pa_cons (pe_dgetR hr.units (pv 0) (pv 1) (fun _ _ => rfl)) pa_nil))))) pa_nil)))), ?_⟩
    have hlen : (nrm (ds.map (·.1))).reverse.length ≤ 1000 := by have := nrm_len (ds.map (·.1)); rw [List.length_map] at this; rw [List.length_reverse]; omega
    refine ret_k (cb_k (ac_k (lc_new (K := K) (L := (nrm (ds.map (·.1))).reverse) (fun x v B => ∃ T c, v = .ref T ∧ B T = some (.tup [.str x, g c]) ∧ (x, c) ∈ ds) (fun x v B B' e ⟨T, c, h1, h2, h3⟩ => ⟨T, c, h1, e T (.tup [.str x, g c]) h2, h3⟩)
      (by rw [List.map_reverse]; exact el_revL (el_sortedD (ev_var rfl) hd (by rw [keyed_keys, List.map_map]; rfl) hn (by rw [List.length_map]; exact hz))) hlen (fun _ => rfl) (fun x hx H1 e1 Q' q' => ?_) (fun D us H2 hD e2 h2 hl hZ => ?_))))
    · obtain ⟨c, hc, hm⟩ := look_some (mem_nrm.mp (List.mem_reverse.mp hx))
      refine tup_k (ac_v (ev_var (i := 1) rfl) fun H2 e2 => ac_v (ev_dget (k := kS x) (ev_var rfl) (ev_var rfl) ((e1.trans e2) d _ hd) (by rw [valV_keyed, hc] <;> rfl)) fun H3 e3 => ac_nil ⟨sz_of (by show 2 ≤ 100000; decide), fun T hT => ?_⟩)
      refine q' _ _ ((e2.trans e3).trans (Ex.new hT)) fun q hq => ⟨T, c, rfl, ?_, hm⟩
      have hTq : T ≠ q := by
        rintro rfl
        cases hh : H1 T with
        | none => exact hq hh
        | some u =>
          have := (e2.trans e3) T u hh
          rw [hT] at this
          cases this
      rw [wo_ne hTq]
      exact upd_same
    · obtain ⟨ps, ds', rfl, hkeys, hpr, hG⟩ := pairs_ex (K := K) (H := H2) (g := g) (G := fun x c => (x, c) ∈ ds) _ us hl fun i x v a b => by
        obtain ⟨T, c, h1, h3, h4⟩ := hZ i x v a b
        exact ⟨T, c, h1, wo_ex T _ h3, h4⟩
      have hn' : (ds'.map (·.1)).Nodup := by rw [hkeys]; exact (List.reverse_perm _).nodup_iff.mpr (nrm_nodup _)
      refine ac_nil ⟨D, ps, keyed g ds', rfl, sq_of h2, hpr, fun d' hd' => ?_⟩
      rw [merge_nil (keyed_nodup _ hn')]
      exact k d' ds' _ (fresh_back e2 hd') (e2.trans (Ex.new hd')) upd_same (pairs_perm hn' hn (fun p hp => hG p hp) fun x hx => by rw [hkeys]; exact List.mem_reverse.mpr (mem_nrm.mpr hx))
end
end K22
end
section
set_option maxHeartbeats 4000000
namespace K22
open PySem L2 Evl G TM TD PyProof.Rows
section
variable {K : PySem.W.Frag} {σ : L2.St} {H : Hp} {p C : Addr} {tA : TA} {ta : TE} {Q : VK} {E : XK} {ns : List Int}
/-- Table(s) -/
theorem make_tab {s : Addr} (ha : Ev ta σ H (.ref s)) (hs : SeqT K H s (ns.map V.int)) (g : Good ns) (k : ∀ (x l dx : Addr) (H2 : Hp), H x = none → H l = none → Ex H H2 → H2 x = some (.ins C dx [("_days", .ref l)]) → H2 l = some (.lst (ns.map V.int)) → Q (.ref x) H2) :
    tMake C (sp_init K C) [] E (tCons ta tNil) σ H Q := ha H (Ex.refl H) _ fun H1 e1 => fun x dx hx hdx hne => by
  have hsx : s ≠ x := by rcases hs with h | h <;> exact ne_of_none (e1 s _ h) hx
  have hsd : s ≠ dx := by rcases hs with h | h <;> exact ne_of_none (e1 s _ h) hdx
  refine ⟨x, dx, s, ns, rfl, upd_same, (hs.mono e1).imp (fun h => by rw [upd_ne hsx, upd_ne hsd]; exact h) (fun h => by rw [upd_ne hsx, upd_ne hsd]; exact h), g, fun l H' hk h1 h2 hl => ⟨rfl, ?_⟩⟩
  have hlx : l ≠ x := (ne_of h1 h2 (fun z => by cases z)).symm
  refine k x l dx H' (fresh_back e1 hx) ?_ (fun b o hb => ?_) h1 h2
  · rw [upd_ne hlx] at hl
    by_cases q : l = dx
    · subst q; rw [upd_same] at hl; cases hl
    · rw [upd_ne q] at hl; exact fresh_back e1 hl
  · have hb1 := e1 b _ hb
    have hbx : b ≠ x := ne_of_none hb1 hx
    exact hk b o (by rw [upd_ne hbx, upd_ne (ne_of_none hb1 hdx)]; exact hb1) hbx
end
theorem wdOf_mem {ws : Ws} {x : Str} {c : Addr × List Int} (hn : (ws.map (·.1)).Nodup) (h : (x, c) ∈ ws) : wdOf ws x = c.2 := by
  unfold wdOf
  rw [look_nodup hn h] <;> rfl
/-- a dict of Tables, one for each list, all new -/
def sp_tables (K : PySem.W.Frag) (C : Addr) : Sp := fun vs H Q _ => ∃ (r : Addr) (ws : Ws), vs = [.ref r] ∧ ListsAt K H r ws ∧ (∀ q ∈ ws, H q.2.1 = some (.lst (q.2.2.map V.int))) ∧ (ws.map (·.1)).Nodup ∧ ws.length < 64 ∧
  ∀ d ws' H2, H d = none → Ex H H2 → (∀ p, H p ≠ none → WorldAt K C (wo H2 p) d ws') → (ws'.map (·.1)).Nodup → (∀ x, x ∈ ws'.map (·.1) ↔ x ∈ ws.map (·.1)) → (∀ x ∈ ws.map (·.1), wdOf ws' x = wdOf ws x) → ws'.length ≤ ws.length → Q (.ref d) H2
section
variable {P : Program} {w : World} {K : PySem.W.Frag} {mg : Str → Option Value} {base : Heap} {C SZ SY : Addr}
theorem ok_tables {f f1 : Addr} {fd fd1 : FuncData} (F : Fun K "_law_tables" "_law_tables" s__law_tables f fd) (T : Txt P w K mg C SZ SY) (mkI : Mk K C f1) (m_init : Ini P w K mg base C f1 fd1) : FnOk P w K mg base CX0 5 f fd ["_law_world_here"] (sp_tables K C) := by
  refine F.ok sc__law_tables (fun vs H Q E h => ?_) (fun cdv A outer s H vs Q E hr h => ?_)
  · obtain ⟨r, ws, rfl, _⟩ := h
    rfl
  · obtain ⟨r, ws, rfl, hw, hraw, hn, hz, k⟩ := h
    refine ⟨_, (pss_one (ps_ret (pe_callTy (call_dictP rfl) (by rfl) T.b_dict (by decide +kernel) (pa_cons (pe_lc (own := [("_law_rule", 1)]) (g := (gName 1)) (by rfl) sc__law_tables.nd (piL (K := K) rfl (pe_callB (call_sortedD rfl) (by rfl) T.b_sorted (by decide +kernel) (pa_cons (pv 0) pa_nil))) (blkOk_by (own := [("_law_rule", 1)]) (N := ["_law_world_here", "_law_rule"]) (sc := defScope s__law_tables) (by decide +kernel)) (fun _ _ _ _ _ => (pg_name (i := 1) sc__law_tables.nd rfl (Or.inl rfl))) (fun _ _ _ _ _ => pts_nil) (fun _ _ _ _ _ => (pe_tup (pa_cons (pv 1) (pa_cons (pe_make mkI m_init.ok (hr.mono (by decide)) (by rfl) T.mg_Table m_init.bd .nil pass0 (pa_cons (pe_dgetR hr.units (pv 0) (pv 1) (fun _ _ => rfl)) pa_nil)) pa_nil))))) pa_nil)))), ?_⟩
    have hlen : (nrm (ws.map (·.1))).length ≤ 1000 := by have := nrm_len (ws.map (·.1)); rw [List.length_map] at this; omega
    refine ret_k (cb_k (ac_k (lc_new (K := K) (L := nrm (ws.map (·.1))) (fun x v B => ∃ T c, v = .ref T ∧ (∀ p, H p ≠ none → wo B p T = some (.tup [.str x, wV c]) ∧ Tab K C (wo B p) c.1 c.2) ∧ Good c.2 ∧ c.2 = wdOf ws x) (fun x v B B' e ⟨T, c, h1, h2, h3⟩ => ⟨T, c, h1, fun p hp => ⟨wo_mono e _ _ (h2 p hp).1, (h2 p hp).2.mono (wo_mono e)⟩, h3⟩)
      (el_sortedD (ev_var rfl) hw.1 (by rw [keyed_keys, List.map_map]; rfl) hn (by rw [List.length_map]; exact hz)) hlen (fun _ => rfl) (fun x hx H1 e1 Q' q' => ?_) (fun D us H2 hD e2 h2 hl hZ => ?_))))
    · obtain ⟨c, hc, hm⟩ := look_some (mem_nrm.mp hx)
      obtain ⟨_, hg, _, _⟩ := hw.2.1 _ hm
      have hs := hraw _ hm
      refine tup_k (ac_v (ev_var (i := 1) rfl) fun H2 e2 => ac_k (make_tab (ns := c.2) (ev_dget (k := kS x) (ev_var rfl) (ev_var rfl) ((e1.trans e2) r _ hw.1) (by rw [valV_keyed, hc] <;> rfl)) (.inl ((e1.trans e2) _ _ hs)) hg fun y l dx H3 hy hl e3 h3 h3l => ac_nil ⟨sz_of (by show 2 ≤ 100000; decide), fun T hT => ?_⟩))
      have e13 := e2.trans e3
      refine q' _ _ (e13.trans (Ex.new hT)) fun q hq => ⟨T, (y, c.2), rfl, fun p hp => ?_, hg, (wdOf_mem hn hm).symm⟩
      have new : ∀ (b : Addr) (o : HO), H2 b = none → upd H3 T (.tup [.str x, .ref y]) b = some o → wo (wo (upd H3 T (.tup [.str x, .ref y])) q) p b = some o := fun b o hb ho => by
        have h1b := fresh_back e2 hb
        have hbq : b ≠ q := fun z => by subst z; exact hq h1b
        have hbp : b ≠ p := fun z => by subst z; exact hp (fresh_back e1 h1b)
        rw [wo_ne hbp, wo_ne hbq]
        exact ho
      have hyT : y ≠ T := ne_of_none h3 hT
      have hlT : l ≠ T := ne_of_none h3l hT
      exact ⟨new T _ (fresh_back e3 hT) upd_same, dx, l, new y _ hy (by rw [upd_ne hyT]; exact h3), sq_of (new l _ hl (by rw [upd_ne hlT]; exact h3l))⟩
    · have hr0 : H r ≠ none := by rw [hw.1]; exact fun z => by cases z
      obtain ⟨ps, ws', rfl, hkeys, hpr, hG⟩ := pairs_ex (K := K) (H := H2) (g := wV) (G := fun x c => (∀ p, H p ≠ none → Tab K C (wo H2 p) c.1 c.2) ∧ Good c.2 ∧ c.2 = wdOf ws x) _ us hl fun i x v a b => by
        obtain ⟨T, c, h1, h3, h4⟩ := hZ i x v a b
        exact ⟨T, c, h1, wo_ex T _ (wo_ex T _ (h3 r hr0).1), fun p hp => (h3 p hp).2.mono (wo_mono wo_ex), h4⟩
      have hn' : (ws'.map (·.1)).Nodup := by rw [hkeys]; exact nrm_nodup _
      refine ac_nil ⟨D, ps, keyed wV ws', rfl, sq_of h2, hpr, fun d hd => ?_⟩
      rw [merge_nil (keyed_nodup _ hn')]
      have hl' : ws'.length ≤ ws.length := by have h1 := congrArg List.length hkeys; have h2 := nrm_len (ws.map (·.1)); rw [List.length_map] at h1 h2; omega
      have hmem : ∀ x, x ∈ ws'.map (·.1) ↔ x ∈ ws.map (·.1) := fun x => by rw [hkeys]; exact mem_nrm
      refine k d ws' _ (fresh_back e2 hd) (e2.trans (Ex.new hd)) (fun p hp => ⟨?_, fun q hq => ⟨?_, (hG q hq).2.1, ((hG q hq).1 p hp).mono (wo_mono (Ex.new hd))⟩, by have := hw.2.2; omega⟩) hn' hmem (fun x hx => ?_) hl'
      · rw [wo_ne (fun z => by subst z; exact hp (fresh_back e2 hd))]
        exact upd_same
      · obtain ⟨q', h1, h2⟩ := List.mem_map.mp ((hmem q.1).mp (List.mem_map.mpr ⟨q, hq, rfl⟩))
        rw [← h2]
        exact (hw.2.1 q' h1).1
      · obtain ⟨q, h1, h2⟩ := List.mem_map.mp ((hmem x).mpr hx)
        subst h2
        rw [wdOf_mem hn' (x := q.1) (c := q.2) h1]
        exact (hG q h1).2.2
end
end K22
end
section
set_option maxHeartbeats 4000000
namespace K22
open PySem L2 Evl G TM TD
/-! ### lists of texts as data -/
def dStrs (L : List Str) : PyData := .list (L.map PyData.str)
theorem dpAll_strs {K : PySem.W.Frag} {H : Hp} : ∀ L : List Str, DpAll K H (L.map V.str) (L.map PyData.str)
  | [] => .nil
  | x :: L => .cons (.str x) (dpAll_strs L)
theorem dp_strs {K : PySem.W.Frag} {H : Hp} {a : Addr} {L : List Str} (h : SqL K H a (L.map V.str)) : Dp K H (.ref a) (dStrs L) := .lst h (dpAll_strs L)
def TxtOk (L : List Str) : Prop := ∀ x ∈ L, PyData.strOk x = true
theorem can_strs : ∀ {L : List Str}, TxtOk L → PyData.canLayAll0 (L.map PyData.str) = true
  | [], _ => by simp [PyData.canLayAll0]
  | x :: L, h => by
    have h1 := h x List.mem_cons_self
    have h2 := can_strs (L := L) fun y hy => h y (List.mem_cons_of_mem _ hy)
    simp [PyData.canLayAll0, PyData.canLay0, h1, h2]
theorem depth_all {ds : List PyData} {k : Nat} (h : ∀ d, d ∈ ds → d.depth ≤ k) : PyData.depthAll ds ≤ k := by
  induction ds with
  | nil => simp [PyData.depthAll]
  | cons d ds ih =>
    have h1 := h d (List.mem_cons_self ..)
    have h2 := ih fun x hx => h x (List.mem_cons_of_mem _ hx)
    simp only [PyData.depthAll]
    omega
theorem depth_strs (L : List Str) : (dStrs L).depth ≤ 1 := by
  unfold dStrs
  simp only [PyData.depth]
  have := depth_all (ds := L.map PyData.str) (k := 0) fun d hd => by
    obtain ⟨n, _, rfl⟩ := List.mem_map.mp hd
    simp [PyData.depth]
  omega
theorem can_dStrs {L : List Str} (h : TxtOk L) : (dStrs L).canLay0 = true := by unfold dStrs; simpa [PyData.canLay0] using can_strs h
theorem shaped_of {d : PyData} (h : d.canLay0 = true) (hd : d.depth ≤ 64) : SeqAt.shaped d = true := by
  unfold SeqAt.shaped
  rw [h, decide_eq_true hd] <;> rfl
theorem shaped_strs {L : List Str} (h : TxtOk L) : SeqAt.shaped (dStrs L) = true := shaped_of (can_dStrs h) (by have := depth_strs L; omega)
theorem txt_name : ∀ x ∈ nameL, PyData.strOk x = true := by decide +kernel
theorem txt_rule : ∀ x ∈ ruleL, PyData.strOk x = true := by decide +kernel
section
variable {K : PySem.W.Frag} {σ : L2.St} {H : Hp} {p C : Addr} {ta tb tl te : TE} {tA tk : TA} {d : PyData} {sp : Sp} {E : XK} {zs : List V} {gV : List V → List V → List V} {xs : List V} {L : List Str}
theorem ev_neD (ha : EvD K ta σ H d) (hb : EvD K tb σ H d) (hs : SeqAt.shaped d = true) (hc : d.canLay0 = true) : Ev (tOp (rNeD K) ta tb) σ H (.bl false) := fun H1 e Q q =>
  ha H1 e _ fun v H2 e2 hv => hb H2 (e.trans e2) _ fun u H3 e3 hu => ⟨d, d, dp_mono e3 hv, hu, hs, hs, by rw [SeqAt.eqv_refl d hc]; exact q H3 (e2.trans e3)⟩
theorem el_callN0 {n : Nat} (h : EvA tk σ H zs) (hn : zs.length = n) (hs : SpL sp (gV [] zs) H xs) : EvL (tCallN0 n sp gV E tk) σ H xs := fun H1 e Q q =>
  h H1 e _ fun H2 e2 => ⟨hn, hs H2 (e.trans e2) Q (fun p H3 hp e3 h3 => q p H3 (fresh_back e2 hp) (e2.trans e3) h3) E⟩
theorem evd_strs (h : EvL te σ H (L.map V.str)) : EvD K te σ H (dStrs L) := evd_l h fun _ _ => dpAll_strs L
theorem el_letters {n : Nat} {x : V} {t : Td} {ws : List Str} (hx : Ev ta σ H x) (hl : EvL tl σ H (ws.map V.str)) (h : At H x t) (o : Told t) (dd : depth t < n) (hn : NiceW ws t) (z : (pcs t).length ≤ 63) :
    EvL (tCall (sp_letters K n) [] E (tCons ta (tCons tl tNil))) σ H ((nrm (letL ws t)).map V.str) := fun H1 e Q q =>
  hx H1 e _ fun H2 e2 => hl H2 (e.trans e2) _ fun p H3 hp e3 h3 => spl_letters (h.mono (Tu.ex ((e.trans e2).trans e3))) o dd (sq_of h3) hn z H3 (Ex.refl _) Q (fun p' H4 hp' e4 h4 => q p' H4 (fresh_back (e2.trans e3) hp') ((e2.trans e3).trans e4) h4) E
end
theorem let_nm (t : Td) : letL ["day"] t = nmsOf t := by
  unfold letL nmsOf
  congr 1
  apply List.filter_congr
  intro u _
  unfold isNm
  simp
theorem let_rl (t : Td) : letL ["on", "by", "til"] t = rlsOf t := rfl
theorem nice_nm {t : Td} (h : NiceD t) : NiceW ["day"] t := fun u hu hw => (h u hu).1 (decide_eq_true (List.mem_singleton.mp hw))
theorem nice_rl {t : Td} (h : NiceD t) : NiceW ["on", "by", "til"] t := fun u hu hw => (h u hu).2 (decide_eq_true hw)
def sp_told_right : Sp := fun vs H Q _ => ∃ (x : V) (t : Td) (s : Str) (N R : List Str), vs = [x, .str s] ∧ At H x t ∧ Told t ∧ Has N R t ∧ (∀ x ∈ N, x ∈ nameL) ∧ (∀ x ∈ R, x ∈ ruleL) ∧ depth t < 10 ∧ (pcs t).length ≤ 60 ∧ RetV (.bl true) H Q
theorem spv_told_right {x : V} {t : Td} {s : Str} {N R : List Str} {H : Hp} (h : At H x t) (o : Told t) (hh : Has N R t) (hN : ∀ x ∈ N, x ∈ nameL) (hR : ∀ x ∈ R, x ∈ ruleL) (d : depth t < 10) (z : (pcs t).length ≤ 60) : SpV sp_told_right ([x, .str s] ++ []) H (.bl true) := fun H1 e Q q E => ⟨x, t, s, N, R, rfl, h.mono (Tu.ex e), o, hh, hN, hR, d, z, q⟩
section
variable {P : Program} {w : World} {K : PySem.W.Frag} {mg : Str → Option Value} {base : Heap} {C SZ SY : Addr}
theorem ok_told_right {f f1 f2 f3 f4 f5 : Addr} {fd fd1 fd2 fd3 fd4 fd5 : FuncData} (F : Fun K "_law_told_right" "_law_told_right" s__law_told_right f fd) (T : Txt P w K mg C SZ SY) (c__law_letters : Cal P w K mg base "_law_letters" f1 fd1 ["_law_told", "_law_words"] 12 (sp_letters K 10)) (c_names_of : Cal P w K mg base "names_of" f2 fd2 ["told"] 6 sp_names_of)
    (c_rules_of : Cal P w K mg base "rules_of" f3 fd3 ["told"] 6 sp_rules_of) (c_pieces : Cal P w K mg base "pieces" f4 fd4 ["told"] 6 sp_pieces) (c__law_size : Cal P w K mg base "_law_size" f5 fd5 ["_law_told"] 12 (sp_size 10))
    (kb_pieces_told : KBn K fd4 ["told"] 0 ["told"] (fun us ws => us ++ ws) (fun vs zs => vs ++ zs)) (kb_names_of_told : KBn K fd2 ["told"] 0 ["told"] (fun us ws => us ++ ws) (fun vs zs => vs ++ zs)) (kb_rules_of_told : KBn K fd3 ["told"] 0 ["told"] (fun us ws => us ++ ws) (fun vs zs => vs ++ zs)) :
    FnOk P w K mg base CX0 13 f fd ["_law_told", "_law_words"] sp_told_right := by
  refine F.ok sc__law_told_right (fun vs H Q E h => ?_) (fun cdv A outer s H vs Q E hr h => ?_)
  · obtain ⟨x, t, z, N, R, rfl, _⟩ := h
    rfl
  · obtain ⟨x, t, z, N, R, rfl, ht, hk, hh, hN, hR, hd, hz, k⟩ := h
    refine ⟨_, (pss_cons (ps_par (i := 2) (j := 3) (by rfl) sc__law_told_right.nd rfl rfl (by decide) rfl rfl (pa_cons (pe_call c__law_letters.ok (hr.mono (by decide)) (by rfl) c__law_letters.mgx c__law_letters.kp c__law_letters.bd .nil pass0 (pa_cons (pv 0) (pa_cons (pe_lst (pa_cons pe_str pa_nil)) pa_nil))) (pa_cons (pe_call c__law_letters.ok (hr.mono (by decide)) (by rfl) c__law_letters.mgx c__law_letters.kp c__law_letters.bd .nil pass0 (pa_cons (pv 0) (pa_cons (pe_lst (pa_cons pe_str (pa_cons pe_str (pa_cons pe_str pa_nil)))) pa_nil))) pa_nil)) (by rfl)) (pss_cons (ps_for PassesOwn.never rfl (pi_range1 (by rfl) T.b_range (pa_cons pe_int pa_nil)) (pg_name (i := 4) sc__law_told_right.nd rfl (Or.inl rfl)) (pss_cons (ps_par (i := 5) (j := 6) (by rfl) sc__law_told_right.nd rfl rfl (by decide) rfl rfl (pa_cons (pe_call c_names_of.ok (hr.mono (by decide)) (by rfl) c_names_of.mgx c_names_of.kp c_names_of.bd .nil pass0 (pa_cons (pv 0) pa_nil)) (pa_cons (pe_call c_rules_of.ok (hr.mono (by decide)) (by rfl) c_rules_of.mgx c_rules_of.kp c_rules_of.bd .nil pass0 (pa_cons (pv 0) pa_nil)) pa_nil)) (by rfl)) (pss_cons (ps_if (PW.pt (pw_or (pt_cmpR op_ne (pe_call c_pieces.ok (hr.mono (by decide)) (by rfl) c_pieces.mgx c_pieces.kp c_pieces.bd .nil pass0 (pa_cons (pv 0) pa_nil)) (pe_call c__law_size.ok (hr.mono (by decide)) (by rfl) c__law_size.mgx c__law_size.kp c__law_size.bd .nil pass0 (pa_cons (pv 0) pa_nil)) (nomark _)) (pw_or (pt_val (pe_callB (isiS (K := K) rfl) (by rfl) T.b_isinstance (by decide +kernel) (pa_cons (pe_call c_pieces.ok (hr.mono (by decide)) (by rfl) c_pieces.mgx c_pieces.kp c_pieces.bd .nil pass0 (pa_cons (pv 0) pa_nil)) (pa_cons (pe_bltn (v := .ty "bool") (u := .type "bool") (by rfl) T.b_bool (by decide +kernel) rfl) pa_nil)))) (pw_or (pt_cmpR (neD (K := K) rfl hr.units) (pv 5) (pv 2) (nomark _)) (pw_or1 (pt_cmpR (neD (K := K) rfl hr.units) (pv 6) (pv 3) (nomark _))))))) (pss_one (ps_ret pe_bl)) pss_nil) (pss_cons (ps_if (pt_cmpR (neD (K := K) rfl hr.units) (pe_lst (pa_cons (pe_callN0 c_pieces.ok (hr.mono (by decide)) (by rfl) c_pieces.mgx c_pieces.kp kb_pieces_told pass0 (pk_cons (pv 0) pk_nil)) (pa_cons (pe_callN0 c_names_of.ok (hr.mono (by decide)) (by rfl) c_names_of.mgx c_names_of.kp kb_names_of_told pass0 (pk_cons (pv 0) pk_nil)) (pa_cons (pe_callN0 c_rules_of.ok (hr.mono (by decide)) (by rfl) c_rules_of.mgx c_rules_of.kp kb_rules_of_told pass0 (pk_cons (pv 0) pk_nil)) pa_nil)))) (pe_lst (pa_cons (pe_call c__law_size.ok (hr.mono (by decide)) (by rfl) c__law_size.mgx c__law_size.kp c__law_size.bd .nil pass0 (pa_cons (pv 0) pa_nil)) (pa_cons (pv 2) (pa_cons (pv 3) pa_nil)))) (nomark _)) (pss_one (ps_ret pe_bl)) pss_nil) (pss_cons (ps_if (PW.pt (pw_or (pt_not (pt_val (pe_callB (isiS (K := K) rfl) (by rfl) T.b_isinstance (by decide +kernel) (pa_cons (pv 5) (pa_cons (pe_bltn (v := .ty "list") (u := .type "list") (by rfl) T.b_list (by decide +kernel) rfl) pa_nil))))) (pw_or1 (pt_not (pt_val (pe_callB (isiS (K := K) rfl) (by rfl) T.b_isinstance (by decide +kernel) (pa_cons (pv 6) (pa_cons (pe_bltn (v := .ty "list") (u := .type "list") (by rfl) T.b_list (by decide +kernel) rfl) pa_nil)))))))) (pss_one (ps_ret pe_bl)) pss_nil) (pss_cons (ps_expr (pe_bm PySem.F.plainAttrs_list PySem.F.slot_list_append PySem.F.type_list_append mt_append (pv 5) (pa_cons pe_str pa_nil))) (pss_one (ps_expr (pe_bm PySem.F.plainAttrs_list PySem.F.slot_list_append PySem.F.type_list_append mt_append (pv 6) (pa_cons (pv 1) pa_nil)))))))))) (pss_one (ps_ret pe_bl)))), ?_⟩
    have nc := told_nice hk
    have n1 : TxtOk (nrm (nmsOf t)) := fun y hy => txt_name y (hN y (has_nms hh (told_ok hk) nc y (mem_nrm.mp hy)))
    have n2 : TxtOk (nrm (rlsOf t)) := fun y hy => txt_rule y (hR y (has_rls hh (told_ok hk) nc y (mem_nrm.mp hy)))
    have l1 : (nrm (nmsOf t)).length ≤ 63 := by have := nrm_len (nmsOf t); have := nms_len t; omega
    have l2 : (nrm (rlsOf t)).length ≤ 63 := by have := nrm_len (rlsOf t); have := rls_len t; omega
    have hN1 : EvL (tCall (sp_letters K 10) [] E (tCons (tVar 0) (tCons (tLst (tCons (tC (.str "day")) tNil)) tNil))) [some x, some (.str z), none, none, none, none, none] H ((nrm (nmsOf t)).map V.str) := by
      rw [← let_nm]
      exact el_letters (ev_var rfl) (el_lst (ea_cons ev_c ea_nil) (by show 1 ≤ 100000; decide)) ht hk hd (nice_nm nc) (by omega)
    have hR1 : EvL (tCall (sp_letters K 10) [] E (tCons (tVar 0) (tCons (tLst (tCons (tC (.str "on")) (tCons (tC (.str "by")) (tCons (tC (.str "til")) tNil)))) tNil))) [some x, some (.str z), none, none, none, none, none] H ((nrm (rlsOf t)).map V.str) := by
      rw [← let_rl]
      exact el_letters (ev_var rfl) (el_lst (ea_cons ev_c (ea_cons ev_c (ea_cons ev_c ea_nil))) (by show 3 ≤ 100000; decide)) ht hk hd (nice_rl nc) (by omega)
    refine q_par2L hN1 (fun H1 e => hR1.mono e) fun nl rl H1 hnl hrl hne e1 h1 h2 => ?_
    refine q_forR1 (n := 2) (ea_cons ev_c ea_nil) (by omega) (fun i σ' H' => ∃ o4 o5 o6 : Option V, σ' = [some x, some (.str z), some (.ref nl), some (.ref rl), o4, o5, o6] ∧ Ex H1 H') (fun H2 e2 => ⟨none, none, none, rfl, e2⟩) (fun i σ' H' hi h => ?_) (fun σ' H' h => ?_)
    · obtain ⟨o4, o5, o6, rfl, e2⟩ := h
      have t2 := ht.mono (Tu.ex (e1.trans e2))
      refine q_par2L (el_call (ea_cons (ev_var rfl) ea_nil) (spl_names_of t2 (by omega) hk)) (fun H3 e3 => el_call (ea_cons (ev_var rfl) ea_nil) (spl_rules_of (t2.mono (Tu.ex e3)) (by omega) hk)) fun fo ru H3 hfo hru hfr e3 h3 h4 => ?_
      have t3 := t2.mono (Tu.ex e3)
      have e13 := e2.trans e3
      have hn3 := e13 nl _ h1
      have hr3 := e13 rl _ h2
      have size : ∀ {σ : L2.St} {H' : Hp} {E : XK}, Ex H3 H' → σ[0]? = some (some x) → Ev (tCall (sp_size 10) [] E (tCons (tVar 0) tNil)) σ H' (.int ((pcs t).length : Int)) := fun e hv => ev_call (ea_cons (ev_var hv) ea_nil) (spv_size (t3.mono (Tu.ex e)) hk hd)
      have pcsE : ∀ {σ : L2.St} {H' : Hp} {E : XK}, Ex H3 H' → σ[0]? = some (some x) → Ev (tCall sp_pieces [] E (tCons (tVar 0) tNil)) σ H' (.int ((pcs t).length : Int)) := fun e hv => ev_call (ea_cons (ev_var hv) ea_nil) (spv_pieces (t3.mono (Tu.ex e)) (by omega) hk)
      refine q_when (b := false) (et_or (a := false) (b := false) (et_is (et_test (ev_op (pcsE (Ex.refl _) rfl) (size (Ex.refl _) rfl) (rv_ne rfl))) (by simp)) fun _ => et_or (a := false) (b := false) (et_test (ev_isiB (b := false) (pcsE (Ex.refl _) rfl) (fun _ _ => .base (.int _)) (by decide +kernel))) fun _ =>
        et_or (a := false) (b := false) (et_test (ev_neD (evd_ref (ev_var rfl) (dp_strs (sq_of h3))) (evd_ref (ev_var rfl) (dp_strs (sq_of hn3))) (shaped_strs n1) (can_dStrs n1))) fun _ => et_test (ev_neD (evd_ref (ev_var rfl) (dp_strs (sq_of h4))) (evd_ref (ev_var rfl) (dp_strs (sq_of hr3))) (shaped_strs n2) (can_dStrs n2))) (fun z => by cases z) fun _ H4 e4 => ?_
      have dt : (PyData.list [.int ((pcs t).length : Int), dStrs (nrm (nmsOf t)), dStrs (nrm (rlsOf t))]).canLay0 = true := by simp [PyData.canLay0, PyData.canLayAll0, can_dStrs n1, can_dStrs n2]
      have ds : SeqAt.shaped (PyData.list [.int ((pcs t).length : Int), dStrs (nrm (nmsOf t)), dStrs (nrm (rlsOf t))]) = true := shaped_of dt (by
        have := depth_strs (nrm (nmsOf t)); have := depth_strs (nrm (rlsOf t))
        simp only [PyData.depth, PyData.depthAll]
        omega)
      have t4 := t3.mono (Tu.ex e4)
      refine q_when (b := false) (et_test (ev_neD (evd_lst (evad_cons (evd_int (ev_callN0 (ea_cons (ev_var rfl) ea_nil) rfl (spv_pieces t4 (by omega) hk))) (evad_cons (evd_strs (el_callN0 (ea_cons (ev_var rfl) ea_nil) rfl (spl_names_of t4 (by omega) hk))) (evad_cons (evd_strs (el_callN0 (ea_cons (ev_var rfl) ea_nil) rfl (spl_rules_of t4 (by omega) hk))) evad_nil))) (by show 3 ≤ 100000; decide))
        (evd_lst (evad_cons (evd_int (size e4 rfl)) (evad_cons (evd_ref (ev_var rfl) (dp_strs (sq_of (e4 nl _ hn3)))) (evad_cons (evd_ref (ev_var rfl) (dp_strs (sq_of (e4 rl _ hr3)))) evad_nil))) (by show 3 ≤ 100000; decide)) ds dt)) (fun z => by cases z) fun _ H5 e5 => ?_
      refine q_when (b := false) (et_or (a := false) (b := false) (et_not (a := true) (et_test (ev_isiB (b := true) (ev_var rfl) (fun H6 e6 => .base (.lst ((e4.trans (e5.trans e6)) fo _ h3))) (by decide +kernel)))) fun _ => et_not (a := true) (et_test (ev_isiB (b := true) (ev_var rfl) (fun H6 e6 => .base (.lst ((e4.trans (e5.trans e6)) ru _ h4))) (by decide +kernel)))) (fun z => by cases z) fun _ H6 e6 => ?_
      have e46 := e4.trans (e5.trans e6)
      refine q_app (e46 fo _ h3) (ev_var rfl) ev_c (by rw [List.length_map]; omega) fun H7 e7 => ?_
      have hfoH : H1 fo = none := fresh_back e2 hfo
      have hruH : H1 ru = none := fresh_back e2 hru
      have e17 : Ex H1 (upd H7 fo (.lst ((nrm (nmsOf t)).map V.str ++ [.str "x"]))) := ((e13.trans e46).trans e7).mut hfoH
      refine s_app (l := ru) (xs := (nrm (rlsOf t)).map V.str) (by rw [upd_ne (Ne.symm hfr)]; exact e7 ru _ (e46 ru _ h4)) (ev_var rfl) (ev_var rfl) (by rw [List.length_map]; omega) fun H8 e8 => ⟨_, _, _, rfl, (e17.trans e8).mut hruH⟩
    · obtain ⟨o4, o5, o6, rfl, e2⟩ := h
      exact s_ret ev_c fun H3 e3 => k H3 ((e1.trans e2).trans e3)
end
end K22
end
section
set_option maxHeartbeats 4000000
namespace K22
open PySem L2 Evl G TM TD
/-! ### Tables made of one: told longer, made shortest -/
/-- a new Table, its list new too -/
def TabN (C : Addr) (H H2 : Hp) (p : Addr) (ns : List Int) : Prop := ∃ dx l, H l = none ∧ H2 p = some (.ins C dx [("_days", .ref l)]) ∧ H2 l = some (.lst (ns.map V.int))
theorem TabN.tab {K : PySem.W.Frag} {C p : Addr} {H H2 : Hp} {ns : List Int} (t : TabN C H H2 p ns) : Tab K C H2 p ns := let ⟨dx, l, _, h1, h2⟩ := t; ⟨dx, l, h1, sq_of h2⟩
theorem TabN.back {C p : Addr} {H0 H H2 : Hp} {ns : List Int} (t : TabN C H H2 p ns) (e : Ex H0 H) : TabN C H0 H2 p ns := let ⟨dx, l, h, h1, h2⟩ := t; ⟨dx, l, fresh_back e h, h1, h2⟩
theorem TabN.mono {C p : Addr} {H H2 H3 : Hp} {ns : List Int} (t : TabN C H H2 p ns) (e : Ex H2 H3) : TabN C H H3 p ns := let ⟨dx, l, h, h1, h2⟩ := t; ⟨dx, l, h, e p _ h1, e l _ h2⟩
def RetT (C : Addr) (ns : List Int) (H : Hp) (Q : VK) : Prop := ∀ p H2, H p = none → Ex H H2 → TabN C H H2 p ns → Q (.ref p) H2
def repB (ns : List Int) (n : Int) : Bool := ((List.range ns.length).map fun (i : Nat) => decide (onL ns ((i : Int) + n) = ns.getD i 0 + n)).all id
theorem repB_iff {ns : List Int} (g : Good ns) {n : Int} : repB ns n = true ↔ Per (onL ns) n := by
  unfold repB
  rw [List.all_map, List.all_eq_true]
  constructor
  · exact fun h => per_of_first g fun i hi => of_decide_eq_true (h i (List.mem_range.mpr hi))
  · exact fun h i hi => decide_eq_true (first_of_per g h (List.mem_range.mp hi))
theorem list_map_on {ns : List Int} (g : Good ns) : ns = listF ns.length (onL ns) := (list_on g).symm
theorem cut_take {xs : List V} {d : Nat} (h : d ≤ xs.length) : cutV xs none (some (d : Int)) = xs.take d := by
  unfold cutV
  simp [HT.sIx, h]
  rw [if_neg (by omega)]
  omega
theorem given_if {n : Nat} {f : Nat → Bool} {v : Nat → Int} : given n f (fun i => V.int (v i)) = (((List.range n).filter f).map v).map V.int := by unfold given; rw [List.map_map]; rfl
theorem listF_map {n : Nat} {f : Int → Int} : (listF n f).map V.int = (List.range n).map fun (i : Nat) => V.int (f (i : Int)) := by unfold listF; rw [List.map_map]; rfl
/-- the lengths that divide -/
def lens (L : Nat) : List Int := ((List.range L).filter fun (i : Nat) => decide (V.int (((L : Int)).fmod (1 + (i : Int))) = V.int 0)).map fun (i : Nat) => 1 + (i : Int)
theorem lens_given (L : Nat) : (lens L).map V.int = given ((L : Int) + 1 - 1).toNat (fun i => decide (V.int (((L : Int)).fmod (1 + (i : Int))) = V.int 0)) (fun i => V.int (1 + (i : Int))) := by
  rw [show ((L : Int) + 1 - 1).toNat = L by omega, given_if]; rfl
theorem mem_lens {L : Nat} {y : Int} : y ∈ lens L ↔ ∃ e : Nat, 1 ≤ e ∧ e ≤ L ∧ e ∣ L ∧ y = (e : Int) := by
  unfold lens
  rw [List.mem_map]
  constructor
  · rintro ⟨i, hi, rfl⟩
    rw [List.mem_filter, List.mem_range] at hi
    refine ⟨1 + i, by omega, by omega, ?_, by omega⟩
    have h := of_decide_eq_true hi.2
    injection h with h
    rw [Int.fmod_eq_emod_of_nonneg _ (by omega)] at h
    exact Nat.dvd_of_mod_eq_zero (by exact_mod_cast h)
  · rintro ⟨e, h1, h2, h3, rfl⟩
    refine ⟨e - 1, ?_, by omega⟩
    rw [List.mem_filter, List.mem_range]
    refine ⟨by omega, decide_eq_true ?_⟩
    congr 1
    rw [Int.fmod_eq_emod_of_nonneg _ (by omega), show 1 + ((e - 1 : Nat) : Int) = (e : Int) by omega]
    have := Nat.mod_eq_zero_of_dvd h3
    omega
def sp_is_count : Sp := fun vs H Q _ => ∃ i, vs = [.int i] ∧ RetV (.bl (decide (0 ≤ i))) H Q
def sp_need_length : Sp := fun vs H Q _ => ∃ n : Nat, vs = [.int (n : Int)] ∧ 1 ≤ n ∧ RetV .non H Q
def sp_repeats (K : PySem.W.Frag) (C : Addr) : Sp := fun vs H Q _ => ∃ (a : Addr) (ns : List Int) (n : Int), vs = [.ref a, .int n] ∧ Tab K C H a ns ∧ Good ns ∧ RetV (.bl (repB ns n)) H Q
def sp_shortest (K : PySem.W.Frag) (C : Addr) : Sp := fun vs H Q _ => ∃ (a : Addr) (ns : List Int) (d : Nat), vs = [.ref a] ∧ Tab K C H a ns ∧ Good ns ∧ Least ns d ∧ RetT C (listF d (onL ns)) H Q
def sp_stretched (K : PySem.W.Frag) (C : Addr) : Sp := fun vs H Q _ => ∃ (a : Addr) (ns : List Int) (m : Nat), vs = [.ref a, .int (m : Int)] ∧ Tab K C H a ns ∧ Good ns ∧ 1 ≤ m ∧ m * ns.length ≤ 600 ∧ m ≤ 600 ∧ RetT C (listF (m * ns.length) (onL ns)) H Q
section
variable {K : PySem.W.Frag} {σ : L2.St} {H : Hp} {a p C : Addr} {te ta : TE} {tA : TA} {D : Ends} {tz : TS} {M : Hp → Addr → Prop} {ns : List Int} {m : Nat} {i : Int} {vs : List Nat} {j : Nat} {t : TT} {E : XK}
theorem spv_is_count : SpV sp_is_count ([.int i] ++ []) H (.bl (decide (0 ≤ i))) := fun H1 _ Q q E => ⟨i, rfl, q⟩
theorem spv_need_length (h : 1 ≤ m) : SpV sp_need_length ([.int (m : Int)] ++ []) H .non := fun H1 e Q q E => ⟨m, rfl, h, q⟩
theorem spv_repeats (h : Tab K C H a ns) (g : Good ns) : SpV (sp_repeats K C) ([.ref a, .int i] ++ []) H (.bl (repB ns i)) := fun H1 e Q q E => ⟨a, ns, i, rfl, h.mono e, g, q⟩
theorem spm_shortest {d : Nat} (h1 : Tab K C H a ns) (g : Good ns) (hd : Least ns d) : SpM (sp_shortest K C) [.ref a] H (fun H2 p => TabN C H H2 p (listF d (onL ns))) := fun H1 e Q q E => ⟨a, ns, d, rfl, h1.mono e, g, hd, fun p H2 hp e2 t => q p H2 hp e2 (t.back e)⟩
theorem s_retM (h : EvM te σ H M) (k : ∀ p H1, H p = none → Ex H H1 → M H1 p → D.rt (.ref p) H1) : tRet te D σ H := h H (Ex.refl H) _ k
theorem evm_makeL (ha : EvL ta σ H (ns.map V.int)) (g : Good ns) : EvM (tMake C (sp_init K C) [] E (tCons ta tNil)) σ H (fun H2 p => TabN C H H2 p ns) := fun H1 e Q q =>
  ha H1 e _ fun s H2 hs e2 h2 => make_tab (σ := σ) (ta := tC (.ref s)) ev_c (.inl h2) g fun x l dx H3 hx hl e3 h3 h4 => q x H3 (fresh_back e2 hx) (e2.trans e3) ⟨dx, l, fresh_back (e.trans e2) hl, h3, h4⟩
theorem el_lcR2 {lo hi : Int} (f : Nat → Bool) (v : Nat → V) (h : EvA tA σ H [.int lo, .int hi]) (hn : -100000 ≤ lo ∧ lo ≤ hi ∧ hi ≤ 40000 ∧ hi - lo ≤ 40000) (hw : ∀ x, wipe ((wipe σ vs).set j (some x)) vs = wipe σ vs)
    (ht : ∀ (i : Nat) H1, Ex H H1 → lo + (i : Int) < hi → EvT t ((wipe σ vs).set j (some (.int (lo + (i : Int))))) H1 (f i)) (he : ∀ (i : Nat) H1, Ex H H1 → lo + (i : Int) < hi → f i = true → Ev te ((wipe σ vs).set j (some (.int (lo + (i : Int))))) H1 (v i)) :
    EvL (tLc (iRng2 tA) (gName j) t te vs) σ H (given (hi - lo).toNat f v) := fun H0 e Q q => h H0 e _ fun H1 e1 => ⟨lo, hi, rfl, ⟨by omega, by omega, by omega, by omega⟩, fun Dl hD =>
  lc_range (lo := lo) (n := (hi - lo).toNat) (Cw H1 f v Dl) ⟨hD, Ex.new hD, upd_same⟩ (fun i H' hi p => ⟨hw _, cw_turn p (by omega) (ht i H1 (e.trans e1) (by omega)) (fun hf => he i H1 (e.trans e1) (by omega) hf)⟩) (fun H' p => q Dl H' (fresh_back e1 p.1) (e1.trans p.2.1) p.2.2)⟩
end
section
variable {P : Program} {w : World} {K : PySem.W.Frag} {mg : Str → Option Value} {base : Heap} {C SZ SY : Addr}
theorem ok_is_count {f f1 : Addr} {fd fd1 : FuncData} (F : Fun K "is_count" "is_count" s_is_count f fd) (T : Txt P w K mg C SZ SY) (c_is_day : Cal P w K mg base "is_day" f1 fd1 ["value"] 1 sp_is_day) : FnOk P w K mg base CX0 2 f fd ["value"] sp_is_count := by
  refine F.ok sc_is_count (fun vs H Q E h => ?_) (fun cdv A outer s H vs Q E hr h => ?_)
  · obtain ⟨i, rfl, _⟩ := h
    rfl
  · obtain ⟨i, rfl, k⟩ := h
    refine ⟨_, (pss_one (ps_ret (pe_and (pe_call c_is_day.ok (hr.mono (by decide)) (by rfl) c_is_day.mgx c_is_day.kp c_is_day.bd .nil pass0 (pa_cons (pv 0) pa_nil)) (pe_one (pe_cmpR op_ge (pv 0) pe_int (nomark _)))))), ?_⟩
    exact s_ret (ev_andV (ev_call (ea_cons (ev_var rfl) ea_nil) spv_is_day) fun _ => ev_op (ev_var rfl) ev_c rv_I0) fun H1 e => k H1 e
theorem ok_need_length {f f1 : Addr} {fd fd1 : FuncData} (F : Fun K "need_length" "need_length" s_need_length f fd) (T : Txt P w K mg C SZ SY) (c_is_count : Cal P w K mg base "is_count" f1 fd1 ["value"] 2 sp_is_count) : FnOk P w K mg base CX0 3 f fd ["value"] sp_need_length := by
  refine F.ok sc_need_length (fun vs H Q E h => ?_) (fun cdv A outer s H vs Q E hr h => ?_)
  · obtain ⟨i, rfl, _⟩ := h
    rfl
  · obtain ⟨n, rfl, h0, k⟩ := h
    refine ⟨_, (pss_one (ps_if (PW.pt (pw_or (pt_not (pt_val (pe_call c_is_count.ok (hr.mono (by decide)) (by rfl) c_is_count.mgx c_is_count.kp c_is_count.bd .nil pass0 (pa_cons (pv 0) pa_nil)))) (pw_or1 (pt_cmpR op_eq (pv 0) pe_int (nomark _))))) (pss_one ps_never) pss_nil)), ?_⟩
    exact s_when (b := false) (et_or (a := false) (b := false) (et_is (et_not (et_B (ev_call (ea_cons (ev_var rfl) ea_nil) spv_is_count))) (by rw [decide_eq_true (by omega)]; rfl)) fun _ => et_is (et_test (ev_op (ev_var rfl) ev_c (rv_eq rfl))) (decide_eq_false (fun z => by injection z with z; omega))) (fun q => nomatch q) fun _ H1 e => k H1 e
theorem ok_rows {f : Addr} {fd : FuncData} (F : Fun K "asked_rows" "Table.asked_rows" s_Table_asked_rows f fd) (T : Txt P w K mg C SZ SY) : FnOk P w K mg base CX0 1 f fd ["self"] (sp_rows K C) := by
  refine F.ok sc_Table_asked_rows (fun vs H Q E h => ?_) (fun cdv A outer s H vs Q E hr h => ?_)
  · obtain ⟨p, ns, rfl, _⟩ := h
    rfl
  · obtain ⟨p, ns, rfl, ⟨dx, l, h1, h2⟩, k⟩ := h
    refine ⟨_, (pss_one (ps_ret (pe_listEn rfl (by rfl) T.b_list (by rfl) T.b_enumerate (pe_fldK (K := K) rfl (pv 0) rfl)))), ?_⟩
    exact (evr_en (ev_fld (ev_var rfl) h1 T.cl T.nD lk_days) h2) H (Ex.refl H) _ k
theorem ok_repeats {f f1 f2 : Addr} {fd fd1 fd2 : FuncData} (F : Fun K "_repeats" "_repeats" s__repeats f fd) (T : Txt P w K mg C SZ SY) (m_on : Met P w K mg base C "on" f1 fd1 ["self", "day"] 3 (sp_on K C)) (m_asked_rows : Met P w K mg base C "asked_rows" f2 fd2 ["self"] 1 (sp_rows K C)) :
    FnOk P w K mg base CX0 4 f fd ["table", "length"] (sp_repeats K C) := by
  refine F.ok sc__repeats (fun vs H Q E h => ?_) (fun cdv A outer s H vs Q E hr h => ?_)
  · obtain ⟨a, ns, n, rfl, _⟩ := h
    rfl
  · obtain ⟨a, ns, n, rfl, t, g, k⟩ := h
    obtain ⟨dx, l, h1, h2⟩ := id t
    have hgm := g.most
    have e0 : (ns.map V.int).length = ns.length := List.length_map ..
    refine ⟨_, (pss_one (ps_ret (pe_callB (allL (K := K) rfl rfl) (by rfl) T.b_all (by decide +kernel) (pa_cons (pe_lc (own := [("asked", 2), ("served", 3)]) (g := (gTup K 2 (gCons (gName 2) (gCons (gName 3) gNil)))) (by rfl) sc__repeats.nd (piL (K := K) rfl (pe_meth0 (pv 0) T.cl m_asked_rows.me m_asked_rows.ok (hr.mono (by decide)) m_asked_rows.bd .nil pass0)) (blkOk_by (own := [("asked", 2), ("served", 3)]) (N := ["table", "length", "asked", "served"]) (sc := defScope s__repeats) (by decide +kernel)) (fun _ _ _ _ _ => (pg_tup (by rfl) (pgs_cons (pg_name (i := 2) sc__repeats.nd rfl (Or.inl rfl)) (pgs_cons (pg_name (i := 3) sc__repeats.nd rfl (Or.inl rfl)) pgs_nil)))) (fun _ _ _ _ _ => pts_nil) (fun _ _ _ _ _ => (pe_cmpR op_eq (pe_meth (pv 0) T.cl m_on.me m_on.ok (hr.mono (by decide)) m_on.bd .nil pass0 (pa_cons (pe_op op_add (pv 2) (pv 1)) pa_nil)) (pe_op op_add (pv 3) (pv 1)) (nomark _)))) pa_nil)))), ?_⟩
    refine s_ret (ev_cbL (el_lcR (fun _ => true) (fun i => V.bl (decide (onL ns ((i : Int) + n) = ns.getD i 0 + n))) (evr_meth (ev_var rfl) h1 rfl ea_nil (spr_rows t)) (by omega) (fun _ _ => rfl) (fun _ _ _ _ _ => lc_yes) (fun i x H1 e1 hx _ => ?_)) fun p H1 e1 hp => ?_) k
    · have hi : i < ns.length := by have := (List.getElem?_eq_some_iff.mp hx).1; omega
      have e2 : x = .int (ns.getD i 0) := by have := getI hi; rw [hx] at this; exact Option.some.inj this
      subst e2
      exact ev_is (ev_op (ev_meth (ev_var rfl) (e1 a _ h1) rfl (ea_cons (ev_op (ev_var rfl) (ev_var rfl) rv_I0) ea_nil) (spv_on (t.mono e1) g)) (ev_op (ev_var rfl) (ev_var rfl) rv_I0) (rv_eq rfl)) (congrArg V.bl (by simp))
    · have := rc_all (K := K) (H := H1) (p := p) (bs := (List.range ns.length).map fun (i : Nat) => decide (onL ns ((i : Int) + n) = ns.getD i 0 + n)) (sq_of (by rw [hp, given_all, e0, List.map_map]; rfl))
      exact this
theorem ok_shortest {f f1 f2 f3 p1 : Addr} {fd fd1 fd2 fd3 : FuncData} (F : Fun K "shortest" "Table.shortest" s_Table_shortest f fd) (T : Txt P w K mg C SZ SY) (mkI : Mk K C f3) (m_length : Prp P w K mg base C "length" p1 f1 fd1 ["self"] 1 (sp_length K C)) (c__repeats : Cal P w K mg base "_repeats" f2 fd2 ["table", "length"] 4 (sp_repeats K C)) (m_init : Ini P w K mg base C f3 fd3) :
    FnOk P w K mg base CX0 5 f fd ["self"] (sp_shortest K C) := by
  refine F.ok sc_Table_shortest (fun vs H Q E h => ?_) (fun cdv A outer s H vs Q E hr h => ?_)
  · obtain ⟨a, ns, d, rfl, _⟩ := h
    rfl
  · obtain ⟨a, ns, d, rfl, t, g, hd, k⟩ := h
    obtain ⟨dx, l, h1, h2⟩ := id t
    have hgm := g.most
    have hgp := g.pos
    have hdr := hd.rule g
    have hdL : d ≤ ns.length := Nat.le_of_dvd (by omega) hd.dvd
    refine ⟨_, (pss_cons (ps_setLc (i := 1) (own := [("length", 2)]) (g := (gName 2)) (by rfl) sc_Table_shortest.nd rfl rfl (sw_true rfl rfl rfl (by decide +kernel)) (pi_range2 (by rfl) T.b_range (pa_cons pe_int (pa_cons (pe_op op_add (pe_prop (pv 0) T.cl m_length.pr m_length.ok (hr.mono (by decide)) m_length.bd .nil pass0 (by rfl)) pe_int) pa_nil))) (blkOk_by (own := [("length", 2)]) (N := ["self", "lengths", "length"]) (sc := defScope s_Table_shortest) (by decide +kernel)) (fun _ _ _ _ _ => (pg_name (i := 2) sc_Table_shortest.nd rfl (Or.inl rfl))) (fun _ _ _ _ _ => (pts_one (pt_cmpR op_eq (pe_op op_modN (pe_prop (pv 0) T.cl m_length.pr m_length.ok (hr.mono (by decide)) m_length.bd .nil pass0 (by rfl)) (pv 2)) pe_int (nomark _)))) (fun _ _ _ _ _ => (pv 2))) (pss_one (ps_ret (pe_make mkI m_init.ok (hr.mono (by decide)) (by rfl) T.mg_Table m_init.bd .nil pass0 (pa_cons (pe_slice sl_list (pe_fldK (K := K) rfl (pv 0) rfl) po_none (po_some (pe_callB (minL (K := K) rfl rfl) (by rfl) T.b_min (by decide +kernel) (pa_cons (pe_lc (own := [("length", 2)]) (g := (gName 2)) (by rfl) sc_Table_shortest.nd (piL (K := K) rfl (pv 1)) (blkOk_by (own := [("length", 2)]) (N := ["self", "lengths", "length"]) (sc := defScope s_Table_shortest) (by decide +kernel)) (fun _ _ _ _ _ => (pg_name (i := 2) sc_Table_shortest.nd rfl (Or.inl rfl))) (fun _ _ _ _ _ => (pts_one (pt_val (pe_call c__repeats.ok (hr.mono (by decide)) (by rfl) c__repeats.mgx c__repeats.kp c__repeats.bd .nil pass0 (pa_cons (pv 0) (pa_cons (pv 2) pa_nil)))))) (fun _ _ _ _ _ => (pv 2))) pa_nil)))) pa_nil))))), ?_⟩
    refine q_asgL (xs := (lens ns.length).map V.int) (by
      rw [lens_given]
      exact el_lcR2 (fun i => decide (V.int (((ns.length : Int)).fmod (1 + (i : Int))) = V.int 0)) (fun i => V.int (1 + (i : Int))) (ea_cons ev_c (ea_cons (ev_op (ev_prop (ev_var rfl) h1 (spv_length t)) ev_c rv_I0) ea_nil)) (by omega) (fun _ => rfl)
        (fun i H1 e1 hi => et_test (ev_op (ev_op (ev_prop (ev_var rfl) (e1 a _ h1) (spv_length (t.mono e1))) (ev_var rfl) (rv_I (by omega))) ev_c (rv_eq rfl))) (fun i H1 e1 hi _ => ev_var rfl)) fun q H1 hq e1 hql => ?_
    have e0 : ((lens ns.length).map V.int).length = (lens ns.length).length := List.length_map ..
    have hl600 : (lens ns.length).length ≤ 600 := by
      unfold lens
      rw [List.length_map]
      have := List.length_filter_le (fun (i : Nat) => decide (V.int (((ns.length : Int)).fmod (1 + (i : Int))) = V.int 0)) (List.range ns.length)
      rw [List.length_range] at this
      omega
    have t1 := t.mono e1
    have hcut : cutV (ns.map V.int) none (some (d : Int)) = (listF d (onL ns)).map V.int := by
      rw [cut_take (by rw [List.length_map]; exact hdL), ← List.map_take]
      conv => lhs; rw [list_map_on g]
      rw [listF_take hdL]
    refine s_retM (evm_makeL (el_eq (el_sl (ev_fld (ev_var rfl) (e1 a _ h1) T.cl T.nD lk_days) eo_none (eo_some (ev_cbL (el_lcL (fun i => repB ns ((lens ns.length).getD i 0)) (fun i => V.int ((lens ns.length).getD i 0)) (ev_var rfl) (sq_of hql) (by omega) (fun _ => rfl) (fun i x H2 e2 hx => ?_) (fun i x H2 e2 hx _ => ?_)) (fun p H2 e2 hp => ?_))) (ex_l e1 h2)) hcut) hdr.good) fun p H2 hp e2 t2 => k p H2 (fresh_back e1 hp) (e1.trans e2) (t2.back e1)
    · have hi : i < (lens ns.length).length := by have := (List.getElem?_eq_some_iff.mp hx).1; omega
      have e3 : x = .int ((lens ns.length).getD i 0) := by have := getI hi; rw [hx] at this; exact Option.some.inj this
      subst e3
      exact et_test (ev_call (ea_cons (ev_var rfl) (ea_cons (ev_var rfl) ea_nil)) (spv_repeats (t1.mono e2) g))
    · have hi : i < (lens ns.length).length := by have := (List.getElem?_eq_some_iff.mp hx).1; omega
      have e3 : x = .int ((lens ns.length).getD i 0) := by have := getI hi; rw [hx] at this; exact Option.some.inj this
      subst e3
      exact ev_var rfl
    · rw [e0, given_if] at hp
      refine rc_min (sq_of hp) ?_ ?_
      · obtain ⟨i, hi, hv⟩ := List.mem_iff_getElem.mp (mem_lens.mpr ⟨d, hd.pos, hdL, hd.dvd, rfl⟩)
        have hv2 : (lens ns.length).getD i 0 = (d : Int) := by rw [List.getD_eq_getElem?_getD, List.getElem?_eq_getElem hi]; exact hv
        exact List.mem_map.mpr ⟨i, List.mem_filter.mpr ⟨List.mem_range.mpr hi, by rw [hv2]; exact (repB_iff g).mpr hd.per⟩, hv2⟩
      · intro y hy
        obtain ⟨i, hi, rfl⟩ := List.mem_map.mp hy
        rw [List.mem_filter, List.mem_range] at hi
        have hm : (lens ns.length).getD i 0 ∈ lens ns.length := by rw [List.getD_eq_getElem?_getD, List.getElem?_eq_getElem hi.1]; exact List.getElem_mem hi.1
        obtain ⟨e, p1, p2, p3, p4⟩ := mem_lens.mp hm
        have := hi.2
        rw [p4] at this ⊢
        have := hd.min e p1 p3 ((repB_iff g).mp this)
        omega
theorem ok_stretched {f f1 f2 f3 f4 p1 : Addr} {fd fd1 fd2 fd3 fd4 : FuncData} (F : Fun K "stretched" "Table.stretched" s_Table_stretched f fd) (T : Txt P w K mg C SZ SY) (mkI : Mk K C f3) (c_need_length : Cal P w K mg base "need_length" f4 fd4 ["value"] 3 sp_need_length) (m_length : Prp P w K mg base C "length" p1 f1 fd1 ["self"] 1 (sp_length K C)) (m_on : Met P w K mg base C "on" f2 fd2 ["self", "day"] 3 (sp_on K C)) (m_init : Ini P w K mg base C f3 fd3) :
    FnOk P w K mg base CX0 5 f fd ["self", "count"] (sp_stretched K C) := by
  refine F.ok sc_Table_stretched (fun vs H Q E h => ?_) (fun cdv A outer s H vs Q E hr h => ?_)
  · obtain ⟨a, ns, m, rfl, _⟩ := h
    rfl
  · obtain ⟨a, ns, m, rfl, t, g, hm1, hm2, hm3, k⟩ := h
    obtain ⟨dx, l, h1, h2⟩ := id t
    obtain ⟨tk, cL⟩ := T.cL
    have hgm := g.most
    have hgp := g.pos
    have r : Rule (m * ns.length) (onL ns) := ⟨Nat.mul_pos hm1 hgp, hm2, onL_mono g, per_dvd (onL_per g) (Nat.dvd_mul_left _ _)⟩
    refine ⟨_, (pss_cons (ps_expr (pe_call c_need_length.ok (hr.mono (by decide)) (by rfl) c_need_length.mgx c_need_length.kp c_need_length.bd .nil pass0 (pa_cons (pv 1) pa_nil))) (pss_cons (ps_if (pt_cmpR op_gt (pe_op op_mul (pv 1) (pe_prop (pv 0) T.cl m_length.pr m_length.ok (hr.mono (by decide)) m_length.bd .nil pass0 (by rfl))) (pe_con (pv 0) (by rfl)) (nomark _)) (pss_one ps_never) pss_nil) (pss_one (ps_ret (pe_make mkI m_init.ok (hr.mono (by decide)) (by rfl) T.mg_Table m_init.bd .nil pass0 (pa_cons (pe_lc (own := [("day", 2)]) (g := (gName 2)) (by rfl) sc_Table_stretched.nd (pi_range1 (by rfl) T.b_range (pa_cons (pe_op op_mul (pv 1) (pe_prop (pv 0) T.cl m_length.pr m_length.ok (hr.mono (by decide)) m_length.bd .nil pass0 (by rfl))) pa_nil)) (blkOk_by (own := [("day", 2)]) (N := ["self", "count", "day"]) (sc := defScope s_Table_stretched) (by decide +kernel)) (fun _ _ _ _ _ => (pg_name (i := 2) sc_Table_stretched.nd rfl (Or.inl rfl))) (fun _ _ _ _ _ => pts_nil) (fun _ _ _ _ _ => (pe_meth (pv 0) T.cl m_on.me m_on.ok (hr.mono (by decide)) m_on.bd .nil pass0 (pa_cons (pv 2) pa_nil)))) pa_nil)))))), ?_⟩
    refine q_drop (ev_call (ea_cons (ev_var rfl) ea_nil) (spv_need_length hm1)) fun H1 e1 => ?_
    have hmul : ∀ {σ : L2.St} {H' : Hp} {E : XK}, Ex H H' → σ[0]? = some (some (.ref a)) → σ[1]? = some (some (.int (m : Int))) → Ev (tOp (rI CMul fun i j => .int (i * j)) (tVar 1) (tProp C (sp_length K C) [] E (tVar 0))) σ H' (.int ((m * ns.length : Nat) : Int)) := fun e q1 q2 => ev_is (ev_op (ev_var q2) (ev_prop (ev_var q1) (e a _ h1) (spv_length (t.mono e))) (rv_I (by simp [CMul]; omega))) (by rw [Int.natCast_mul])
    refine q_when (b := false) (et_test (ev_op (hmul e1 rfl rfl) (ev_con (ev_var rfl) (e1 a _ h1) T.cl cL rfl) (rv_res rv_I0 (by simp; omega)))) (fun q => nomatch q) fun _ H2 e2 => ?_
    have e12 := e1.trans e2
    have eg : given (((m * ns.length : Nat) : Int)).toNat (fun _ => true) (fun i => V.int (onL ns (i : Int))) = (listF (m * ns.length) (onL ns)).map V.int := by
      rw [given_all, Int.toNat_natCast, listF_map]
    refine s_retM (evm_makeL (el_eq (el_lcR1 (fun _ => true) (fun i => V.int (onL ns (i : Int))) (ea_cons (hmul e12 rfl rfl) ea_nil) (n := ((m * ns.length : Nat) : Int)) (by omega) (fun _ => rfl) (fun _ _ _ _ => lc_yes) (fun i H4 e6 _ _ => ev_meth (ev_var rfl) ((e12.trans e6) a _ h1) rfl (ea_cons (ev_var rfl) ea_nil) (spv_on (t.mono (e12.trans e6)) g))) eg) r.good) fun p H3 hp e3 t3 => k p H3 (fresh_back e12 hp) (e12.trans e3) (t3.back e12)
end
end K22
end
section
set_option maxHeartbeats 4000000
namespace K22
open PySem L2 Evl G TM TD
section
variable {X : Cx} {o i value : Expr} {pos pos' : Pos} {td ty tv : TE}
theorem ps_dputR (hu : X.A.units + 64 < cLine) (ho : PE X o td) (hi : PE X i ty) (hv : PE X value tv) (hs : swapsWith value (some (.Subscript o i pos')) pos.line X.env = pure false) :
    PS X (.Assign [.Subscript o i pos'] value pos) (sDPut td ty tv) := ps_dput (by omega) ho hi hv hs
end
section
variable {K : PySem.W.Frag} {σ : L2.St} {H : Hp} {p q C F dx : Addr} {i j : Nat} {tA tr : TA} {te ta td ty tv : TE} {Q : VK} {E : XK} {D : Ends} {tz : TS} {xs : List V} {QA : List V → Hp → Prop} {M : Hp → Addr → Prop} {m : Str} {fs : List (Str × V)} {sp : Sp} {dvs : List V}
theorem ac_m (h : EvM te σ H M) (k : ∀ p H1, H p = none → Ex H H1 → M H1 p → tr σ H1 fun xs H2 => QA (.ref p :: xs) H2) : tCons te tr σ H QA := h H (Ex.refl H) _ k
theorem evm_meth {ws : List V} {MM : Hp → Addr → Prop} (h : Ev ta σ H (.ref p)) (ho : H p = some (.ins C dx fs)) (hl : fs.lookup m = none) (ha : EvA tA σ H ws) (hs : SpM sp (.ref p :: (ws ++ dvs)) H MM) : EvM (tMeth C m sp dvs E ta tA) σ H MM := fun H1 e Q q =>
  h H1 e _ fun H2 e2 => ⟨p, dx, fs, rfl, (e.trans e2) p _ ho, hl, ha H2 (e.trans e2) _ fun H3 e3 => hs H3 ((e.trans e2).trans e3) Q (fun q' H4 n4 e4 h4 => q q' H4 (fresh_back (e2.trans e3) n4) ((e2.trans e3).trans e4) h4) E⟩
theorem meth_k (h : Ev ta σ H (.ref p)) (ho : H p = some (.ins C dx fs)) (hl : fs.lookup m = none) (k : ∀ H1, Ex H H1 → tA σ H1 fun ws H2 => sp (.ref p :: (ws ++ dvs)) H2 Q E) : tMeth C m sp dvs E ta tA σ H Q :=
  h H (Ex.refl H) _ fun H1 e1 => ⟨p, dx, fs, rfl, e1 p _ ho, hl, k H1 e1⟩
theorem dput_k (h : tv σ H fun v H1 => td σ H1 fun x H2 => ty σ H2 fun y H3 => ∃ a H4, x = .ref a ∧ DPut H3 a y v H4 ∧ D.nx σ H4) : sDPut td ty tv D σ H := h
theorem dput_end {x : Str} {v : V} {kvs : List (Key × V)} (hd : Ev td σ H (.ref F)) (hy : Ev ty σ H (.str x)) (hF : H F = some (.dK kvs)) (hz : kvs.length < 100000) (k : ∀ H1, Ex H H1 → D.nx σ (upd H1 F (.dK (putK kvs (kS x) v)))) :
    td σ H fun u H2 => ty σ H2 fun y H3 => ∃ a H4, u = .ref a ∧ DPut H3 a y v H4 ∧ D.nx σ H4 := hd H (Ex.refl H) _ fun H1 e1 => hy H1 e1 _ fun H2 e2 => ⟨F, _, rfl, DPut.k (k := kS x) ((e1.trans e2) F _ hF) (sz_lt hz), k H2 (e1.trans e2)⟩
theorem dnew_k (h : ∀ F, H F = none → tz D (σ.set i (some (.ref F))) (upd H F (.dK []))) : tSeq (tAsg tDNewK (gName i)) tz D σ H := h
theorem pot_off {o : HO} (h : PotAt H p) (hq : p ≠ q) : PotAt (upd H q o) p := by obtain ⟨a, b, h1, h2⟩ := h; exact ⟨a, b, h1, by rw [upd_ne hq]; exact h2⟩
end
/-- a new Table stands apart from the pot and from what stood there -/
theorem TabN.off {K : PySem.W.Frag} {C p F q : Addr} {H H2 : Hp} {ns : List Int} {o : HO} (t : TabN C H H2 q ns) (hq : H q = none) (hp : PotAt H p) (hF : H F = some o) : Tab K C (wo (wo H2 p) F) q ns := by
  obtain ⟨o', ho'⟩ := hp.some
  obtain ⟨dx, l, h, h1, h2⟩ := t
  refine ⟨dx, l, ?_, sq_of ?_⟩
  · rw [wo_ne (ne_of_none hF hq).symm, wo_ne (ne_of_none ho' hq).symm]; exact h1
  · rw [wo_ne (ne_of_none hF h).symm, wo_ne (ne_of_none ho' h).symm]; exact h2
/-- as rules: the same -/
def OnEq (ns ms : List Int) : Prop := ∀ y, onL ns y = onL ms y
/-- a dict of other Tables for the same rules -/
def sp_other (K : PySem.W.Frag) (C : Addr) : Sp := fun vs H Q _ => ∃ (p d : Addr) (ws : Ws), vs = [.ref p, .ref d] ∧ PotAt H p ∧ WorldAt K C (wo H p) d ws ∧ (ws.map (·.1)).Nodup ∧ ws.length < 64 ∧ (∀ q ∈ ws, q.2.2.length ≤ 8) ∧
  ∀ d' ws' H2, H d' = none → Ex (wo H p) H2 → PotAt H2 p → WorldAt K C (wo H2 p) d' ws' → (ws'.map (·.1)).Nodup → (∀ x, x ∈ ws'.map (·.1) ↔ x ∈ ws.map (·.1)) → (∀ x ∈ ws.map (·.1), OnEq (wdOf ws' x) (wdOf ws x)) → ws'.length ≤ ws.length → Q (.ref d') H2
section
variable {P : Program} {w : World} {K : PySem.W.Frag} {mg : Str → Option Value} {base : Heap} {C SZ SY : Addr}
theorem ok_other {f f1 f2 f3 : Addr} {fd fd1 fd2 fd3 : FuncData} (F : Fun K "_law_other_tables" "_law_other_tables" s__law_other_tables f fd) (T : Txt P w K mg C SZ SY) (m_stretched : Met P w K mg base C "stretched" f1 fd1 ["self", "count"] 5 (sp_stretched K C)) (m_shortest : Met P w K mg base C "shortest" f2 fd2 ["self"] 5 (sp_shortest K C)) (c__law_draw : Cal P w K mg base "_law_draw" f3 fd3 ["_law_pot_here", "_law_many"] 1 sp_draw) :
    FnOk P w K mg base CX0 7 f fd ["_law_pot_here", "_law_tables_here"] (sp_other K C) := by
  refine F.ok sc__law_other_tables (fun vs H Q E h => ?_) (fun cdv A outer s H vs Q E hr h => ?_)
  · obtain ⟨p, d, ws, rfl, _⟩ := h
    rfl
  · obtain ⟨p, d, ws, rfl, hp, hw, hn, hz, h8, k⟩ := h
    refine ⟨_, (pss_cons (ps_set (i := 2) sc__law_other_tables.nd rfl (Or.inl rfl) pe_dnewK) (pss_cons (ps_for PassesOwn.never rfl (piL (K := K) rfl (pe_callB (call_sortedD rfl) (by rfl) T.b_sorted (by decide +kernel) (pa_cons (pv 1) pa_nil))) (pg_name (i := 3) sc__law_other_tables.nd rfl (Or.inl rfl)) (pss_cons (ps_set (i := 4) sc__law_other_tables.nd rfl (Or.inl rfl) (pe_dgetR hr.units (pv 1) (pv 3) (fun _ _ => rfl))) (pss_one (ps_dputR hr.units (pv 2) (pv 3) (pe_ix (ixL (K := K) rfl) (pe_lst (pa_cons (pv 4) (pa_cons (pe_meth (pv 4) T.cl m_stretched.me m_stretched.ok (hr.mono (by decide)) m_stretched.bd .nil pass0 (pa_cons (pe_op op_add pe_int (pe_call c__law_draw.ok (hr.mono (by decide)) (by rfl) c__law_draw.mgx c__law_draw.kp c__law_draw.bd .nil pass0 (pa_cons (pv 0) (pa_cons pe_int pa_nil)))) pa_nil)) (pa_cons (pe_meth0 (pv 4) T.cl m_shortest.me m_shortest.ok (hr.mono (by decide)) m_shortest.bd .nil pass0) pa_nil)))) (pe_call c__law_draw.ok (hr.mono (by decide)) (by rfl) c__law_draw.mgx c__law_draw.kp c__law_draw.bd .nil pass0 (pa_cons (pv 0) (pa_cons pe_int pa_nil))) (fun _ _ => rfl)) (by rfl))))) (pss_one (ps_ret (pv 2))))), ?_⟩
    obtain ⟨o0, ho0⟩ := hp.some
    refine dnew_k fun Fa hFa => ?_
    have hFp : Fa ≠ p := (ne_of_none ho0 hFa).symm
    have e1 : Ex H (upd H Fa (.dK [])) := Ex.new hFa
    have hd1 := e1 d _ (wo_ex d _ hw.1)
    have hdF : d ≠ Fa := ne_of_none (wo_ex d _ hw.1) hFa
    have hkl := nrm_len (ws.map (·.1))
    rw [List.length_map] at hkl
    have up : ∀ {H2 : Hp}, Ex (wo H p) H2 → Ex (wo H p) (wo (wo H2 p) Fa) := fun e b o h => by
      have hbp : b ≠ p := fun z => by subst z; rw [wo_at] at h; cases h
      have hbF : b ≠ Fa := fun z => by subst z; rw [wo_ne hFp, hFa] at h; cases h
      rw [wo_ne hbF, wo_ne hbp]
      exact e b o h
    refine q_forNLn (el_sortedD (ev_var rfl) hd1 (by rw [keyed_keys, List.map_map]; rfl) hn (by rw [List.length_map]; exact hz)) (fun l i σ' H' => ∃ (o3 o4 : Option V) (wi : Ws), σ' = [some (.ref p), some (.ref d), some (.ref Fa), o3, o4] ∧ Ex (wo H p) H' ∧ PotAt H' p ∧ l ≠ p ∧ H' l = some (.lst ((nrm (ws.map (·.1))).map V.str)) ∧ H' Fa = some (.dK (keyed wV wi)) ∧ wi.map (·.1) = (nrm (ws.map (·.1))).take i ∧ ∀ q ∈ wi, q.1 ∈ ruleL ∧ Good q.2.2 ∧ OnEq q.2.2 (wdOf ws q.1) ∧ Tab K C (wo (wo H' p) Fa) q.2.1 q.2.2)
      (fun l H1 hl e2 h2 => ?_) (fun l i σ' H' _ h => ?_) (fun l i x σ' H' hi h => ?_) (fun l σ' H' h => ?_)
    · refine ⟨none, none, [], rfl, wo_ex.trans (e1.trans e2), (hp.mono e1).mono e2, fun z => ?_, h2, e2 Fa _ upd_same, by simp, fun q hq => by cases hq⟩
      subst z
      rw [e1 l _ ho0] at hl
      cases hl
    · obtain ⟨_, _, _, _, _, _, _, h2, _⟩ := h
      exact sq_of h2
    · obtain ⟨o3, o4, wi, rfl, e2, hp2, hlp, h2, hF2, hk2, hall⟩ := h
      rw [List.getElem?_map] at hi
      obtain ⟨x, hx, rfl⟩ := Option.map_eq_some_iff.mp hi
      have hmx : x ∈ ws.map (·.1) := mem_nrm.mp (List.mem_of_getElem? hx)
      obtain ⟨⟨a, ns⟩, hm, hv, hwd⟩ := valV_world hmx
      obtain ⟨hru, hg, ht⟩ := hw.2.1 _ hm
      have hl8 := h8 _ hm
      have hlF : l ≠ Fa := ne_of h2 hF2 (fun z => by cases z)
      refine q_asg (ev_dget (k := kS x) (ev_var rfl) (ev_var rfl) (e2 d _ hw.1) hv) fun H3 e3 => ?_
      have x3 := e2.trans e3
      have hp3 := hp2.mono e3
      have hF3 := e3 Fa _ hF2
      -- what is put is a Table of the same rule
      have fin : ∀ (v : V) (b : Addr) (ms : List Int) (H4 : Hp), v = .ref b → Good ms → OnEq ms ns → Tab K C (wo (wo H4 p) Fa) b ms → Ex (wo H3 p) H4 → PotAt H4 p → (tVar 2) [some (.ref p), some (.ref d), some (.ref Fa), some (.str x), some (.ref a)] H4 fun u H5 => (tVar 3) [some (.ref p), some (.ref d), some (.ref Fa), some (.str x), some (.ref a)] H5 fun y H6 => ∃ c H7, u = .ref c ∧ DPut H6 c y v H7 ∧
          (∃ (o3 o4 : Option V) (wi : Ws), [some (.ref p), some (.ref d), some (.ref Fa), some (.str x), some (.ref a)] = [some (.ref p), some (.ref d), some (.ref Fa), o3, o4] ∧ Ex (wo H p) H7 ∧ PotAt H7 p ∧ l ≠ p ∧ H7 l = some (.lst ((nrm (ws.map (·.1))).map V.str)) ∧ H7 Fa = some (.dK (keyed wV wi)) ∧ wi.map (·.1) = (nrm (ws.map (·.1))).take (i + 1) ∧ ∀ q ∈ wi, q.1 ∈ ruleL ∧ Good q.2.2 ∧ OnEq q.2.2 (wdOf ws q.1) ∧ Tab K C (wo (wo H7 p) Fa) q.2.1 q.2.2) := by
        intro v b ms H4 hvb hgm hon htb x4 hp4
        subst hvb
        have keep4 : ∀ c o, c ≠ p → H3 c = some o → H4 c = some o := fun c o hc h => x4 c o (by rw [wo_ne hc]; exact h)
        have hF4 := keep4 Fa _ hFp hF3
        have hlen : wi.length ≤ 64 := by have := congrArg List.length hk2; rw [List.length_map, List.length_take] at this; omega
        refine dput_end (D := { nx := fun σ H7 => ∃ (o3 o4 : Option V) (wi : Ws), σ = [some (.ref p), some (.ref d), some (.ref Fa), o3, o4] ∧ Ex (wo H p) H7 ∧ PotAt H7 p ∧ l ≠ p ∧ H7 l = some (.lst ((nrm (ws.map (·.1))).map V.str)) ∧ H7 Fa = some (.dK (keyed wV wi)) ∧ wi.map (·.1) = (nrm (ws.map (·.1))).take (i + 1) ∧ ∀ q ∈ wi, q.1 ∈ ruleL ∧ Good q.2.2 ∧ OnEq q.2.2 (wdOf ws q.1) ∧ Tab K C (wo (wo H7 p) Fa) q.2.1 q.2.2, rt := fun _ _ => True, ct := fun _ _ => True, bk := fun _ _ => True }) (ev_var rfl) (ev_var rfl) hF4 (by unfold keyed; rw [List.length_map]; omega) fun H5 e5 => ?_
        have hnew : valV (keyed wV wi) (kS x) = none := valV_none (by
          rw [keyed_keys]
          intro z
          obtain ⟨q, hq, hqe⟩ := List.mem_map.mp z
          have hq1 : q.1 = x := Sum.inr.inj hqe
          have hin : x ∈ (nrm (ws.map (·.1))).take i := by rw [← hk2]; exact List.mem_map.mpr ⟨q, hq, hq1⟩
          obtain ⟨j, hj, hjx⟩ := List.mem_iff_getElem.mp hin
          rw [List.length_take] at hj
          have hi' := (List.getElem?_eq_some_iff.mp hx).1
          rw [List.getElem_take] at hjx
          have h3 := (List.getElem?_eq_some_iff.mp hx).2
          have : j = i := (List.getElem_inj (nrm_nodup (ws.map (·.1)))).mp (hjx.trans h3.symm)
          omega)
        have hkk : keyed wV wi ++ [(kS x, .ref b)] = keyed wV (wi ++ [(x, (b, ms))]) := by unfold keyed; rw [List.map_append] <;> rfl
        rw [putK_new _ hnew, hkk]
        have xo : ∀ {o : HO}, Ex (wo (wo H5 p) Fa) (wo (wo (upd H5 Fa o) p) Fa) := fun {o} c u h => by
          have hcF : c ≠ Fa := fun z => by subst z; rw [wo_at] at h; cases h
          rw [wo_ne hcF] at h ⊢
          have hcp : c ≠ p := fun z => by subst z; rw [wo_at] at h; cases h
          rw [wo_ne hcp] at h ⊢
          rw [upd_ne hcF]; exact h
        have x5 : Ex (wo H p) H5 := (wo_tr x3 x4).trans e5
        have y5 : ∀ {c : Addr} {ks : List Int}, Tab K C (wo (wo H' p) Fa) c ks → Tab K C (wo (wo H5 p) Fa) c ks := fun t => t.mono (wo_mono ((wo_mono e3).trans ((wo_sub x4).trans (wo_mono e5))))
        refine ⟨some (.str x), some (.ref a), wi ++ [(x, (b, ms))], rfl, x5.mut (by rw [wo_ne hFp]; exact hFa), pot_off (hp4.mono e5) (Ne.symm hFp), hlp, ?_, upd_same, ?_, fun q hq => ?_⟩
        · rw [upd_ne hlF]; exact e5 l _ (keep4 l _ hlp (e3 l _ h2))
        · rw [List.map_append, hk2, List.take_add_one, hx] <;> rfl
        · rcases List.mem_append.mp hq with hq | hq
          · obtain ⟨r1, r2, r3, r4⟩ := hall q hq
            exact ⟨r1, r2, r3, (y5 r4).mono xo⟩
          · cases List.mem_singleton.mp hq
            exact ⟨hru, hgm, by rw [hwd]; exact hon, (htb.mono (wo_mono (wo_mono e5))).mono xo⟩
      have t3 : Tab K C H3 a ns := ht.mono x3
      have tF3 : Tab K C (wo (wo H3 p) Fa) a ns := ht.mono (up x3)
      obtain ⟨dd, hd⟩ := least_ex hg
      refine dput_k (op_k (lst_k (ac_v (ev_var (i := 4) rfl) fun H4 e4 => ?_)))
      have t4 := t3.mono e4
      obtain ⟨dx, ll, ha4, _⟩ := id t4
      refine ac_k (meth_k (ev_var (i := 4) rfl) ha4 rfl fun H5 e5 => ac_k (op_k (v_k ev_c fun H6 e6 => drawC (((hp3.mono e4).mono e5).mono e6) rfl ev_c (by decide) (by decide) fun n H7 n0 n1 e7 hp7 => ⟨1, n, rfl, rfl, ac_nil ?_⟩)))
      have x36 : Ex H3 H6 := (e4.trans e5).trans e6
      have x37 : Ex (wo H3 p) H7 := (wo_mono x36).trans e7
      have t7 : Tab K C H7 a ns := (ht.mono (wo_sub x3)).mono x37
      have hF7 := x37 Fa _ (by rw [wo_ne hFp]; exact hF3)
      have hgl := hg.pos
      refine ⟨a, ns, (1 + n).toNat, by rw [Int.toNat_of_nonneg (by omega)] <;> rfl, t7, hg, by omega, ?_, by omega, fun q1 H8 hq1 e8 tn1 => ?_⟩
      · have h3 : (1 + n).toNat ≤ 3 := by omega
        calc (1 + n).toNat * ns.length ≤ 3 * 8 := Nat.mul_le_mul h3 hl8
          _ ≤ 600 := by decide
      have r1 : Rule ((1 + n).toNat * ns.length) (onL ns) := ⟨Nat.mul_pos (by omega) hgl, by
        calc (1 + n).toNat * ns.length ≤ 3 * 8 := Nat.mul_le_mul (by omega) hl8
          _ ≤ 600 := by decide, onL_mono hg, per_dvd (onL_per hg) (Nat.dvd_mul_left _ _)⟩
      have t8 := t7.mono e8
      obtain ⟨dx8, ll8, ha8, _⟩ := id t8
      refine ac_m (evm_meth (ev_var (i := 4) rfl) ha8 rfl ea_nil (spm_shortest t8 hg hd)) fun q2 H9 hq2 e9 tn2 => ac_nil ⟨sz_of (by show 3 ≤ 100000; decide), fun L hL => ?_⟩
      have r2 := hd.rule hg
      have hp9 := (hp7.mono e8).mono e9
      obtain ⟨o9, ho9⟩ := hp9.some
      have hLp : L ≠ p := (ne_of_none ho9 hL).symm
      have e10 : Ex H9 (upd H9 L (.lst [.ref a, .ref q1, .ref q2])) := Ex.new hL
      refine drawC (hp9.mono e10) rfl ev_c (by decide) (by decide) fun j H11 j0 j1 e11 hp11 => ?_
      have hL11 : H11 L = some (.lst [.ref a, .ref q1, .ref q2]) := e11 L _ (by rw [wo_ne hLp]; exact upd_same)
      have x79 : Ex (wo (wo H7 p) Fa) (wo (wo H11 p) Fa) := wo_mono ((wo_mono (e8.trans (e9.trans e10))).trans (wo_sub e11))
      have x311 : Ex (wo H3 p) H11 := wo_tr (wo_tr x37 (wo_ex.trans (e8.trans (e9.trans e10)))) e11
      have c0 : Tab K C (wo (wo H11 p) Fa) a ns := tF3.mono (wo_mono (wo_sub x311))
      have c1 : Tab K C (wo (wo H11 p) Fa) q1 (listF ((1 + n).toNat * ns.length) (onL ns)) := (tn1.off hq1 hp7 hF7).mono (wo_mono ((wo_mono (e9.trans e10)).trans (wo_sub e11)))
      have c2 : Tab K C (wo (wo H11 p) Fa) q2 (listF dd (onL ns)) := (tn2.off hq2 (hp7.mono e8) (e8 Fa _ hF7)).mono (wo_mono ((wo_mono e10).trans (wo_sub e11)))
      have hj : j = 0 ∨ j = 1 ∨ j = 2 := by omega
      rcases hj with rfl | rfl | rfl
      · exact ⟨L, _, 0, .ref a, rfl, rfl, sq_of hL11, rfl, fin _ a ns H11 rfl hg (fun _ => rfl) c0 x311 hp11⟩
      · exact ⟨L, _, 1, .ref q1, rfl, rfl, sq_of hL11, rfl, fin _ q1 _ H11 rfl r1.good (fun y => r1.on y) c1 x311 hp11⟩
      · exact ⟨L, _, 2, .ref q2, rfl, rfl, sq_of hL11, rfl, fin _ q2 _ H11 rfl r2.good (fun y => r2.on y) c2 x311 hp11⟩
    · obtain ⟨o3, o4, wi, rfl, e2, hp2, hlp, h2, hF2, hk2, hall⟩ := h
      rw [List.length_map, List.take_length] at hk2
      have hn' : (wi.map (·.1)).Nodup := by rw [hk2]; exact nrm_nodup _
      have hmem : ∀ x, x ∈ wi.map (·.1) ↔ x ∈ ws.map (·.1) := fun x => by rw [hk2]; exact mem_nrm
      have hlen : wi.length ≤ ws.length := by have := congrArg List.length hk2; rw [List.length_map] at this; omega
      exact s_ret (ev_var (i := 2) (v := .ref Fa) rfl) fun H3 e3 => k Fa wi H3 hFa (e2.trans e3) (hp2.mono e3) ⟨by rw [wo_ne hFp]; exact e3 Fa _ hF2, fun q hq => by
        obtain ⟨r1, r2, r3, r4⟩ := hall q hq
        exact ⟨r1, r2, r4.mono (wo_ex.trans (wo_mono e3))⟩, by omega⟩ hn' hmem (fun x hx => by
        obtain ⟨q, h1, h3⟩ := List.mem_map.mp ((hmem x).mpr hx)
        subst h3
        rw [wdOf_mem hn' (x := q.1) (c := q.2) h1]
        exact (hall q h1).2.2.1) hlen
end
end K22
end
section
set_option maxHeartbeats 2000000
namespace G
open PySem PySem.Spec PyProof.Rows L2 Evl
/-! ### d.items() as a value, its list, its sorted list -/
theorem pairs_get {P : Program} {w : World} {knd : PySem.KeyKind P w Key} : ∀ {es : List DictEntry} {vs : List (Key × Value)} {j : Nat} {e : DictEntry}, PySem.Pairs knd es vs → es[j]? = some e → ∃ q, vs[j]? = some q ∧ knd.is q.1 e.key = true ∧ e.val = q.2
  | _, _, _, _, .nil, h => by simp at h
  | _, _, 0, e, .cons (kv := kv) a b _, h => by
    simp only [List.getElem?_cons_zero, Option.some.injEq] at h
    subst h
    exact ⟨kv, rfl, a, b⟩
  | _, _, j + 1, e, .cons _ _ t, h => by
    obtain ⟨q, h1, h2⟩ := pairs_get (j := j) t (by simpa using h)
    exact ⟨q, by simpa using h1, h2⟩
theorem dk_entries {P : Program} {w : World} {H : Hp} {h : Heap} {a : Addr} {kvs : List (Key × V)} (ok : HOk P w H h) (e : H a = some (.dK kvs)) :
    ∃ es ep, DT.Raw h a es ep ∧ es.size = kvs.length ∧ kvs.length ≤ sizeLine ∧ (a == sysModules) = false ∧ ∀ (j : Nat) (en : DictEntry), es[j]? = some en → ∃ q, kvs[j]? = some q ∧ RelV (kV q.1) en.key ∧ RelV q.2 en.val := by
  obtain ⟨z, hd, vs, kv, o, es, ep, ho, hx, hdat, _, hp, _⟩ := dk_of ok e
  have hl : kvs.length = vs.length := Paired.length kv
  have len : ∀ {l : List DictEntry} {m : List (Key × Value)}, PySem.Pairs (mixKind P w) l m → l.length = m.length := by
    intro l m hlm
    induction hlm with
    | nil => rfl
    | cons _ _ _ ih => simp [ih]
  refine ⟨es, ep, ⟨o, ho, hx, hdat⟩, by have := len hp; rw [Array.length_toList] at this; omega, z, hd, fun j en hj => ?_⟩
  obtain ⟨q, h1, h2, h3⟩ := pairs_get (j := j) hp (by rw [Array.getElem?_toList]; exact hj)
  obtain ⟨y, y1, y2⟩ := DX.pget (F := fun (p : Key × V) (q : Key × Value) => p.1 = q.1 ∧ RelV p.2 q.2) kv h1
  exact ⟨y, y1, by rw [y2.1]; exact relV_key (show keyIs q.1 en.key = true from h2), by rw [h3]; exact y2.2⟩
variable {X : Cx}
def rItems : V → List V → Hp → VK → Prop := fun x xs H Q => ∃ (a : Addr) (kvs : List (Key × V)), x = .ref a ∧ xs = [] ∧ H a = some (.dK kvs) ∧ ∀ p, H p = none → Q (.ref p) (upd H p (DX.itemsO p a))
theorem mt_items : MtR X "dict.items" rItems := by
  intro pins s σ H x xs v us Q I rx rxs h
  obtain ⟨a, kvs, rfl, rfl, ha, q⟩ := h
  cases rx
  cases rxs
  obtain ⟨es, ep, hr, _, _, hd, _⟩ := dk_entries I.hok ha
  refine DT.callItems (es := es) (ep := ep) hd hr ?_
  have hf : H s.heap.objs.size = none := I.hok.fresh (Nat.le_refl _)
  exact ⟨.ref s.heap.objs.size, upd H s.heap.objs.size (DX.itemsO s.heap.objs.size a), I.laid (t' := s.toks) (fun b u e => Heap.get?_push_of_some _ e) (Nat.le_refl _) (DX.itemsO_ok (Heap.get?_push_size _ rfl)), rfl, q _ hf⟩
/-- list(view) -/
def rListItems : List V → Hp → VK → Prop := fun vs H Q => ∃ (p a : Addr) (kvs : List (Key × V)), vs = [.ref p] ∧ H p = some (DX.itemsO p a) ∧ H a = some (.dK kvs) ∧
  ∀ (H' : Hp) (l : Addr) (ts : List Addr), Ex H H' → H l = none → H' l = some (.lst (ts.map V.ref)) → Paired (fun T (q : Key × V) => H' T = some (.tup [kV q.1, q.2])) ts kvs → Q (.ref l) H'
theorem paired_idx {α β : Type} {F : α → β → Prop} : ∀ {as : List α} {bs : List β}, as.length = bs.length → (∀ (j : Nat) (a : α) (b : β), as[j]? = some a → bs[j]? = some b → F a b) → Paired F as bs
  | [], [], _, _ => .nil
  | [], _ :: _, h, _ => by cases h
  | _ :: _, [], h, _ => by cases h
  | a :: as, b :: bs, h, k => .cons (k 0 a b rfl rfl) (paired_idx (by simpa using h) fun j x y p q => k (j + 1) x y (by simpa using p) (by simpa using q))
theorem call_listItems (hc : X.calm = true) : CallR X (.type "list") rListItems := by
  intro pins s σ H xs us Q I r h
  obtain ⟨p, a, kvs, rfl, hp, ha, q⟩ := h
  obtain rfl := Vals.ref1 r
  have view : s.heap.IsItemsView p a := (show ObjOk X.prog X.w H s.heap p (DX.itemsO p a) from I.hok p _ hp).1
  obtain ⟨es, ep, ⟨o, ho, hx, hdat⟩, hes, z, hd, ent⟩ := dk_entries I.hok ha
  have hh : X.A.handled = none := I.ok.hd hc
  refine PySem.W.dil_call (es := es) (ep := ep) hh view ⟨o, ho, hx, hdat⟩ (by omega) fun h' tk acc c as hk hS hl hG hacc => ?_
  have nd : as.Nodup := List.Pairwise.imp (fun h => Nat.ne_of_lt h) hG.rise
  have I1 : Inv X pins σ H { s with heap := h', toks := tk } := I.kept (t' := tk) hk
  have hn0 : H s.heap.objs.size = none := I.hok.fresh (Nat.le_refl _)
  have rv : Vals (as.map V.ref) acc.toList := by
    rw [hacc]
    exact vals_maps (fun z : Addr => V.ref z) (fun z => Value.ref z) as fun _ _ => rfl
  have I2 : Inv X pins σ (upd H s.heap.objs.size (.lst (as.map V.ref))) { s with heap := h', toks := tk } :=
    I1.take (h' := h') (t' := tk) (fun b ob _ e => e) (I.fpOk (Nat.le_refl _) hn0) ⟨by rw [List.length_map]; omega, acc.toList, c, rv, by rw [hS]⟩
  obtain ⟨H2, I3, g, qt⟩ := DX.takeT (P := fun b vs => ∃ (j : Nat) (e : Key × V), as[j]? = some b ∧ kvs[j]? = some e ∧ vs = [kV e.1, e.2]) I as _ I2 nd fun b hb => by
    obtain ⟨j, hj⟩ := List.mem_iff_getElem?.mp hb
    obtain ⟨hjs, hg⟩ := hG.pairs j b hj
    obtain ⟨e, he, r1, r2⟩ := ent j es[j] (Array.getElem?_eq_getElem hjs)
    have hbl : s.heap.objs.size ≤ b := Nat.le_of_lt (hG.above b hb)
    refine ⟨hbl, ?_, [kV e.1, e.2], ⟨j, e, hj, he, rfl⟩, fun H3 => ⟨(by rw [sizeLine_eq]; show 2 ≤ 16777216; omega), [es[j].key, es[j].val], .cons r1 (.cons r2 .nil), ⟨_, hg, rfl, 0, rfl⟩⟩⟩
    rw [upd_ne (Nat.ne_of_gt (hG.above b hb))]
    exact I.hok.fresh hbl
  have gr : Ex H H2 := fun b o e => g b o (by rw [upd_ne (ne_of_none e hn0)]; exact e)
  refine ⟨.ref s.heap.objs.size, H2, I3, rfl, q H2 s.heap.objs.size as gr hn0 (g _ _ upd_same) (paired_idx (by omega) fun j T e hT he => ?_)⟩
  obtain ⟨vs, ⟨i, e', j1, j2, rfl⟩, hH⟩ := qt T (List.mem_of_getElem? hT)
  have eij : j = i := (List.getElem?_inj (List.getElem?_eq_some_iff.mp hT).1 nd).mp (hT.trans j1.symm)
  subst eij
  rw [he] at j2
  cases j2
  exact hH
/-- (text, number) -/
def dPr (q : Str × Int) : PyData := .tuple [.str q.1, .int q.2]
def srtI (ds : List (Str × Int)) : List (Str × Int) := ds.mergeSort (PySem.W.dataLe false dPr)
def rSortItems : List V → Hp → VK → Prop := fun vs H Q => ∃ (p a : Addr) (ds : List (Str × Int)), vs = [.ref p] ∧ H p = some (DX.itemsO p a) ∧ H a = some (.dK (ds.map fun q => (Sum.inr q.1, V.int q.2))) ∧
  ∀ (H' : Hp) (l : Addr) (ts : List Addr), Ex H H' → H l = none → H' l = some (.lst (ts.map V.ref)) → Paired (fun T (q : Str × Int) => H' T = some (.tup [.str q.1, .int q.2])) ts (srtI ds) → Q (.ref l) H'
theorem each_refs {R : Addr → (Str × Int) → Prop} : ∀ {out : List Value} {L : List (Str × Int)}, PySem.W.EachIs (fun v b => ∃ T, v = Value.ref T ∧ R T b) out L → ∃ ts : List Addr, out = ts.map Value.ref ∧ Paired R ts L
  | _, _, .nil => ⟨[], rfl, .nil⟩
  | _, _, .cons ⟨T, e, h⟩ t => by
    obtain ⟨ts, h1, h2⟩ := each_refs t
    exact ⟨T :: ts, by rw [h1, e] <;> rfl, .cons h h2⟩
theorem each_idx {R : Value → (Str × Int) → Prop} : ∀ {vs : List Value} {L : List (Str × Int)}, vs.length = L.length → (∀ (j : Nat) (v : Value) (b : Str × Int), vs[j]? = some v → L[j]? = some b → R v b) → PySem.W.EachIs R vs L
  | [], [], _, _ => .nil
  | [], _ :: _, h, _ => by cases h
  | _ :: _, [], h, _ => by cases h
  | a :: as, b :: bs, h, k => .cons (k 0 a b rfl rfl) (each_idx (by simpa using h) fun j x y p q => k (j + 1) x y (by simpa using p) (by simpa using q))
theorem call_sortItems (hc : X.calm = true) (hu : X.A.units + 64 < cLine) : CallR X (.builtin "sorted") rSortItems := by
  intro pins s σ H xs us Q I r h
  obtain ⟨p, a, ds, rfl, hp, ha, q⟩ := h
  obtain rfl := Vals.ref1 r
  have view : s.heap.IsItemsView p a := (show ObjOk X.prog X.w H s.heap p (DX.itemsO p a) from I.hok p _ hp).1
  obtain ⟨es, ep, ⟨o, ho, hx, hdat⟩, hes, z, hd, ent⟩ := dk_entries I.hok ha
  rw [List.length_map] at hes z
  have hh : X.A.handled = none := I.ok.hd hc
  refine DT.sortedI (es := es) (ep := ep) hh view ⟨o, ho, hx, hdat⟩ (by omega) fun h' tk as hk hlt hl hG => ?_
  have lak : as.length = ds.length := by omega
  have nd : as.Nodup := List.Pairwise.imp (fun h => Nat.ne_of_lt h) hG.rise
  have pr : ∀ (j : Nat) (b : Addr), as[j]? = some b → ∃ (e : Str × Int) (t u : Tok), ds[j]? = some e ∧ h'.get? b = some { cls := .type "tuple", data := .seq #[Value.str e.1 t, Value.int e.2 u] } := by
    intro j b hj
    obtain ⟨en, he, hg⟩ := hG.pairs j b hj
    obtain ⟨q0, h1, r1, r2⟩ := ent j en he
    rw [List.getElem?_map] at h1
    obtain ⟨e, he2, rfl⟩ := Option.map_eq_some_iff.mp h1
    obtain ⟨t, ht⟩ : ∃ t, en.key = Value.str e.1 t := r1
    obtain ⟨u, hu⟩ : ∃ u, en.val = Value.int e.2 u := r2
    exact ⟨e, t, u, he2, by rw [hg, ht, hu]⟩
  have hob : (h'.push { cls := .type "list", data := .seq (as.map Value.ref).toArray }).get? h'.objs.size = some (seqObj "list" (as.map Value.ref).toArray 0) := Heap.get?_push_size _ rfl
  have kb : ∀ b o, s.heap.get? b = some o → (h'.push { cls := .type "list", data := .seq (as.map Value.ref).toArray }).get? b = some o := fun b o e => Heap.get?_push_of_some _ (hk b o e)
  have ne0 : ∀ b o, h'.get? b = some o → b ≠ h'.objs.size := fun b o e => Nat.ne_of_lt (Heap.lt_size e)
  generalize hh2 : h'.push { cls := .type "list", data := .seq (as.map Value.ref).toArray } = h2 at hob kb ⊢
  have ka : ∀ b o, h'.get? b = some o → h2.get? b = some o := fun b o e => by rw [← hh2]; exact Heap.get?_push_of_some _ e
  have eachR : PySem.W.EachIs (fun v b => ∃ T, v = Value.ref T ∧ ∃ j, as[j]? = some T ∧ ds[j]? = some b) (as.map Value.ref) ds := each_idx (by rw [List.length_map]; exact lak) fun j v b hv hb => by
    rw [List.getElem?_map] at hv
    obtain ⟨T, hT, rfl⟩ := Option.map_eq_some_iff.mp hv
    exact ⟨T, rfl, j, hT, hb⟩
  refine PySem.W.list_sort_data (s := { s with heap := h2, toks := tk }) (enc := dPr) (R := fun v b => ∃ T, v = Value.ref T ∧ ∃ j, as[j]? = some T ∧ ds[j]? = some b) hob eachR (each_idx (by rw [List.length_map]; exact lak) fun j v b hv hb => ?_)
    (PySem.W.AllAlike.of fun b b' => by simp [PySem.W.alike, PySem.W.alikeAll, dPr]) (PySem.W.Sortable.tuples fun b => ⟨_, _, rfl⟩) (by omega) (fun b _ => ?_) fun out ol oe => ?_
  · rw [List.getElem?_map] at hv
    obtain ⟨T, hT, rfl⟩ := Option.map_eq_some_iff.mp hv
    obtain ⟨e, t, u, he, hg⟩ := pr j T hT
    rw [hb] at he
    cases he
    exact ⟨[], .tuple (ka _ _ hg) rfl rfl (.cons (.str _ _) (.cons (.int _ _) .nil)), by simp⟩
  · have : (dPr b).depth ≤ 1 := by simp [dPr, PyData.depth, PyData.depthAll]
    show X.A.units + 1 + 1 + (dPr b).depth < cLine
    omega
  · obtain ⟨ts, hts, hpr⟩ := each_refs oe
    have kF : ∀ b o, b ≠ h'.objs.size → h2.get? b = some o → (sortedHeap h2 h'.objs.size (as.map Value.ref) out.toArray).get? b = some o := fun b o hb e => (PyProof.Rows.sortedHeap_old hb (Heap.lt_size e)).trans e
    have kS : ∀ b o, s.heap.get? b = some o → (sortedHeap h2 h'.objs.size (as.map Value.ref) out.toArray).get? b = some o := fun b o e => kF b o (ne0 _ _ (hk b o e)) (kb b o e)
    obtain ⟨eF, heF⟩ := PyProof.Rows.sortedHeap_at (vs := as.map Value.ref) (out := out.toArray) hob
    have I1 : Inv X pins σ H { s with heap := sortedHeap h2 h'.objs.size (as.map Value.ref) out.toArray, toks := tk } := I.kept (t' := tk) kS
    have hn0 : H h'.objs.size = none := I.hok.fresh (Nat.le_of_lt hlt)
    have hlen : (ts.map V.ref).length ≤ sizeLine := by
      rw [List.length_map]
      have e1 := congrArg List.length hts
      rw [List.length_map] at e1
      omega
    have rv : Vals (ts.map V.ref) out := by
      rw [hts]
      exact vals_maps (fun z : Addr => V.ref z) (fun z => Value.ref z) ts fun _ _ => rfl
    have I2 : Inv X pins σ (upd H h'.objs.size (.lst (ts.map V.ref))) { s with heap := sortedHeap h2 h'.objs.size (as.map Value.ref) out.toArray, toks := tk } :=
      I1.take (h' := sortedHeap h2 h'.objs.size (as.map Value.ref) out.toArray) (t' := tk) (fun b ob _ e => e) (I.fpOk (Nat.le_of_lt hlt) hn0) ⟨hlen, out, eF, rv, heF⟩
    obtain ⟨H2, I3, g, qt⟩ := DX.takeT (P := fun b vs => ∃ (j : Nat) (e : Str × Int), as[j]? = some b ∧ ds[j]? = some e ∧ vs = [.str e.1, .int e.2]) I as _ I2 nd fun b hb => by
      obtain ⟨j, hj⟩ := List.mem_iff_getElem?.mp hb
      obtain ⟨e, t, u, he, hg⟩ := pr j b hj
      have hbl : s.heap.objs.size ≤ b := Nat.le_of_lt (hG.above b hb)
      refine ⟨hbl, ?_, [.str e.1, .int e.2], ⟨j, e, hj, he, rfl⟩, fun H3 => ⟨(by rw [sizeLine_eq]; show 2 ≤ 16777216; omega), [Value.str e.1 t, Value.int e.2 u], .cons ⟨t, rfl⟩ (.cons ⟨u, rfl⟩ .nil), ⟨_, kF _ _ (ne0 _ _ hg) (ka _ _ hg), rfl, 0, rfl⟩⟩⟩
      rw [upd_ne (ne0 _ _ hg)]
      exact I.hok.fresh hbl
    have gr : Ex H H2 := fun b o e => g b o (by rw [upd_ne (ne_of_none e hn0)]; exact e)
    show EP X pins σ Q (.ref h'.objs.size) { s with heap := sortedHeap h2 h'.objs.size (as.map Value.ref) out.toArray, toks := tk }
    refine ⟨.ref h'.objs.size, H2, I3, rfl, q H2 h'.objs.size ts gr hn0 (g _ _ upd_same) ?_⟩
    have conv : ∀ {L : List (Str × Int)} {zs : List Addr}, Paired (fun (T : Addr) (b : Str × Int) => ∃ j : Nat, as[j]? = some T ∧ ds[j]? = some b) zs L → Paired (fun T (q : Str × Int) => H2 T = some (.tup [.str q.1, .int q.2])) zs L := by
      intro L zs hz
      induction hz with
      | nil => exact .nil
      | cons h _ ih =>
        obtain ⟨j, hT, he⟩ := h
        obtain ⟨vs, ⟨i, e', j1, j2, rfl⟩, hH⟩ := qt _ (List.mem_of_getElem? hT)
        have eij : j = i := (List.getElem?_inj (List.getElem?_eq_some_iff.mp hT).1 nd).mp (hT.trans j1.symm)
        subst eij
        rw [he] at j2
        cases j2
        exact .cons hH ih
    exact conv hpr
end G
end
section
set_option maxHeartbeats 4000000
namespace K22
open PySem L2 Evl G TM TD
/-! ### small data with texts -/
def txtS (x : Str) : Bool := decide (x.length ≤ 8) && x.cps.toList.all fun c => decide (c < 16 ^ 8)
mutual
def bndS : PyData → Nat
  | .none => 4
  | .bool _ => 5
  | .int _ => 22
  | .str _ => 100
  | .list xs => bndSAll xs + 2
  | .tuple xs => bndSAll xs + 4
  | .dict _ => 100000000
def bndSAll : List PyData → Nat
  | [] => 0
  | x :: xs => bndS x + 2 + bndSAll xs
end
mutual
def smallS : PyData → Bool
  | .none => true
  | .bool _ => true
  | .int i => decide (i.natAbs < 10 ^ 20)
  | .str x => txtS x
  | .list xs => smallSAll xs
  | .tuple xs => smallSAll xs
  | .dict _ => false
def smallSAll : List PyData → Bool
  | [] => true
  | x :: xs => smallS x && smallSAll xs
end
mutual
theorem smallS_show : ∀ {d : PyData}, smallS d = true → d.showable = true
  | .none, _ => by simp [PyData.showable]
  | .bool _, _ => by simp [PyData.showable]
  | .int i, h => by simp only [smallS, decide_eq_true_eq] at h; simpa [PyData.showable] using log_small h
  | .str _, _ => by simp [PyData.showable]
  | .list xs, h => by simp only [smallS] at h; simpa [PyData.showable] using smallS_showAll h
  | .tuple xs, h => by simp only [smallS] at h; simpa [PyData.showable] using smallS_showAll h
  | .dict _, h => by simp [smallS] at h
theorem smallS_showAll : ∀ {ds : List PyData}, smallSAll ds = true → PyData.showableAll ds = true
  | [], _ => by simp [PyData.showableAll]
  | d :: ds, h => by
    simp only [smallSAll, Bool.and_eq_true] at h
    simp [PyData.showableAll, smallS_show h.1, smallS_showAll h.2]
end
mutual
theorem smallS_len : ∀ {d : PyData}, smallS d = true → d.shown.length ≤ bndS d
  | .none, _ => by simp only [PyData.shown, bndS]; decide
  | .bool b, _ => by simp only [PyData.shown, bndS]; cases b <;> decide
  | .int i, h => by
    simp only [smallS, decide_eq_true_eq] at h
    have := int_text_length_le10 (k := 20) (by decide) h
    simp only [PyData.shown, bndS]
    rw [ofString_length]
    omega
  | .str x, h => by
    simp only [smallS, txtS, Bool.and_eq_true, decide_eq_true_eq, List.all_eq_true] at h
    have := StrLaws.reprText_len x h.2
    simp only [PyData.shown, bndS]
    omega
  | .list xs, h => by
    simp only [smallS] at h
    have := smallS_lenAll h
    simp only [PyData.shown, bndS]
    exact Nat.le_trans (list_text_len _) (by omega)
  | .tuple xs, h => by
    simp only [smallS] at h
    have := smallS_lenAll h
    simp only [PyData.shown, bndS]
    exact Nat.le_trans (tuple_text_len _) (by omega)
  | .dict _, h => by simp [smallS] at h
theorem smallS_lenAll : ∀ {ds : List PyData}, smallSAll ds = true → piled (PyData.shownAll ds) ≤ bndSAll ds
  | [], _ => by simp [PyData.shownAll, piled, bndSAll]
  | d :: ds, h => by
    simp only [smallSAll, Bool.and_eq_true] at h
    have h1 := smallS_len h.1
    have h2 := smallS_lenAll h.2
    simp only [PyData.shownAll, piled_cons, bndSAll]
    omega
end
/-! ### what is told, as data -/
def dV : V → PyData
  | .str s => .str s
  | .int i => .int i
  | _ => .none
def dTd : Td → PyData
  | .lf w v => .tuple [.str w, dV v]
  | .ov w v t => .tuple [.str w, dV v, dTd t]
  | .nt t => .tuple [.str "not", dTd t]
  | .bi w t u => .tuple [.str w, dTd t, dTd u]
theorem dp_td {K : PySem.W.Frag} {H : Hp} : ∀ {t : Td} {x : V}, IsF t → At H x t → Dp K H x (dTd t)
  | .lf w v, _, h, ⟨a, e, ha⟩ => by
    subst e
    rcases h with ⟨rfl, n, _, rfl⟩ | ⟨rfl, i, rfl⟩
    · exact .tup (st_of ha) (.cons (.str _) (.cons (.str _) .nil))
    · exact .tup (st_of ha) (.cons (.str _) (.cons (.int _) .nil))
  | .ov w v t, _, h, ⟨a, y, e, ha, hy⟩ => by
    subst e
    rcases h.1 with ⟨_, n, _, rfl⟩ | ⟨rfl, i, rfl⟩
    · exact .tup (st_of ha) (.cons (.str _) (.cons (.str _) (.cons (dp_td h.2 hy) .nil)))
    · exact .tup (st_of ha) (.cons (.str _) (.cons (.int _) (.cons (dp_td h.2 hy) .nil)))
  | .nt t, _, h, _ => h.elim
  | .bi w t u, _, h, ⟨a, y, z, e, ha, hy, hz⟩ => by
    subst e
    exact .tup (st_of ha) (.cons (.str _) (.cons (dp_td h.2.1 hy) (.cons (dp_td h.2.2 hz) .nil)))
theorem txt_words : ∀ x ∈ (["day", "num", "add", "late", "soon"] : List Str), txtS x = true := by decide +kernel
theorem txt_turn : ∀ x ∈ turnL, txtS x = true := by decide +kernel
theorem txtS_name : ∀ x ∈ nameL, txtS x = true := by decide +kernel
theorem txtS_rule : ∀ x ∈ ruleL, txtS x = true := by decide +kernel
theorem small_td : ∀ {t : Td}, IsF t → Small t → smallS (dTd t) = true
  | .lf w v, h, sm => by
    rcases h with ⟨rfl, n, hn, rfl⟩ | ⟨rfl, i, rfl⟩
    · simp only [dTd, dV, smallS, smallSAll, txtS_name n hn, txt_words "day" (by simp), Bool.and_self]
    · have := sm i rfl
      simp only [dTd, dV, smallS, smallSAll, txt_words "num" (by simp), Bool.true_and, Bool.and_true, decide_eq_true_eq]
      omega
  | .ov w v t, h, sm => by
    have ih := small_td h.2 sm.2
    rcases h.1 with ⟨hw, n, hn, rfl⟩ | ⟨rfl, i, rfl⟩
    · simp only [dTd, dV, smallS, smallSAll, txtS_rule n hn, txt_turn w hw, ih, Bool.and_self]
    · have := sm.1 i rfl
      simp only [dTd, dV, smallS, smallSAll, txt_words "add" (by simp), ih, Bool.true_and, Bool.and_true, decide_eq_true_eq]
      omega
  | .nt t, h, _ => h.elim
  | .bi w t u, h, sm => by
    have i1 := small_td h.2.1 sm.1
    have i2 := small_td h.2.2 sm.2
    have hw : txtS w = true := by
      rcases h.1 with e | e
      · rw [e]; exact txt_words "late" (by simp)
      · rw [e]; exact txt_words "soon" (by simp)
    simp only [dTd, smallS, smallSAll, hw, i1, i2, Bool.and_self]
theorem bnd_dV (v : V) : bndS (dV v) ≤ 100 := by cases v <;> simp [dV, bndS]
theorem bnd_td : ∀ t : Td, bndS (dTd t) ≤ 300 * (pcs t).length
  | .lf w v => by
    have := bnd_dV v
    have e : (pcs (Td.lf w v)).length = 1 := rfl
    simp only [dTd, bndS, bndSAll]
    omega
  | .ov w v t => by
    have := bnd_dV v
    have ih := bnd_td t
    have e : (pcs (Td.ov w v t)).length = 1 + (pcs t).length := by show (_ :: pcs t).length = _; rw [List.length_cons]; omega
    simp only [dTd, bndS, bndSAll]
    omega
  | .nt t => by
    have ih := bnd_td t
    have e : (pcs (Td.nt t)).length = 1 + (pcs t).length := by show (_ :: pcs t).length = _; rw [List.length_cons]; omega
    simp only [dTd, bndS, bndSAll]
    omega
  | .bi w t u => by
    have i1 := bnd_td t
    have i2 := bnd_td u
    have e : (pcs (Td.bi w t u)).length = 1 + ((pcs t).length + (pcs u).length) := by show (_ :: (pcs t ++ pcs u)).length = _; rw [List.length_cons, List.length_append]; omega
    simp only [dTd, bndS, bndSAll]
    omega
theorem depth_dV (v : V) : (dV v).depth = 0 := by cases v <;> simp [dV, PyData.depth]
theorem depth_td : ∀ t : Td, (dTd t).depth ≤ depth t + 1
  | .lf w v => by simp only [dTd, PyData.depth, PyData.depthAll, depth_dV]; show _ ≤ 0 + 1; omega
  | .ov w v t => by
    have := depth_td t
    simp only [dTd, PyData.depth, PyData.depthAll, depth_dV]
    show _ ≤ depth t + 1 + 1
    omega
  | .nt t => by
    have := depth_td t
    simp only [dTd, PyData.depth, PyData.depthAll]
    show _ ≤ depth t + 1 + 1
    omega
  | .bi w t u => by
    have := depth_td t
    have := depth_td u
    simp only [dTd, PyData.depth, PyData.depthAll]
    show _ ≤ max (depth t) (depth u) + 1 + 1
    omega
/-! ### the days of a dict as data -/
def dDays (ds : Ds) : PyData := .list ((srtI ds).map dPr)
theorem srt_len (ds : Ds) : (srtI ds).length = ds.length := by unfold srtI; exact List.length_mergeSort _
theorem mem_srt {ds : Ds} {q : Str × Int} : q ∈ srtI ds ↔ q ∈ ds := by unfold srtI; exact List.mem_mergeSort
theorem small_days {ds : Ds} (hn : ∀ p ∈ ds, p.1 ∈ nameL) (b : DBd ds) : smallS (dDays ds) = true := by
  have key : ∀ l : Ds, (∀ p ∈ l, p ∈ ds) → smallSAll (l.map dPr) = true := by
    intro l
    induction l with
    | nil => intro _; rfl
    | cons p l ih =>
      intro h
      have h1 := h p List.mem_cons_self
      have h2 := b p h1
      have ih' := ih fun q hq => h q (List.mem_cons_of_mem _ hq)
      have hi : p.2.natAbs < 10 ^ 20 := by
        have : (10 : Nat) ^ 20 = 100000000000000000000 := by decide
        omega
      rw [List.map_cons]
      simp only [smallSAll, dPr, smallS, txtS_name _ (hn p h1), ih', decide_eq_true hi, Bool.and_self]
  unfold dDays
  simp only [smallS]
  exact key _ fun p hp => mem_srt.mp hp
theorem bnd_days (ds : Ds) : bndS (dDays ds) = 132 * ds.length + 2 := by
  have key : ∀ l : Ds, bndSAll (l.map dPr) = 132 * l.length := by
    intro l
    induction l with
    | nil => rfl
    | cons p l ih => rw [List.map_cons, bndSAll, ih, List.length_cons, dPr]; simp only [bndS, bndSAll]; omega
  unfold dDays
  simp only [bndS]
  rw [key, srt_len]
theorem depth_days (ds : Ds) : (dDays ds).depth ≤ 2 := by
  unfold dDays
  simp only [PyData.depth]
  have := depth_all (ds := (srtI ds).map dPr) (k := 1) fun d hd => by
    obtain ⟨n, _, rfl⟩ := List.mem_map.mp hd
    simp [PyData.depth, PyData.depthAll, dPr]
  omega
section
variable {K : PySem.W.Frag} {σ : L2.St} {H : Hp} {a : Addr} {td te : TE} {i : Nat} {D : Ends} {tz : TS} {ds : Ds}
theorem tyV_dict {kvs : List (Key × V)} (h : H a = some (.dK kvs)) : tyV K "dict" (.ref a) H := .inr (.inr (.inl ⟨rfl, .inl ⟨kvs, h⟩⟩))
theorem evd_sortItems (h : Ev td σ H (.ref a)) (ha : H a = some (.dK (keyed V.int ds))) : EvD K (tCB rSortItems (tCons (tBM0 K "dict" rItems td) tNil)) σ H (dDays ds) := fun H1 e Q q =>
  h H1 e _ fun H2 e2 => ⟨tyV_dict ((e.trans e2) a _ ha), a, _, rfl, rfl, (e.trans e2) a _ ha, fun p hp => ⟨p, a, ds, rfl, upd_same, by
    rw [upd_ne (ne_of_none ((e.trans e2) a _ ha) hp)]
    exact (e.trans e2) a _ ha, fun H' l ts x hl hL hP => q _ H' (e2.trans ((Ex.new hp).trans x)) (.lst (sq_of hL) (by
    generalize srtI ds = L at hP
    clear hL
    induction hP with
    | nil => exact .nil
    | cons h _ ih => exact .cons (.tup (st_of h) (.cons (.str _) (.cons (.int _) .nil))) ih))⟩⟩
/-- dict(list(d.items())) -/
theorem q_copy (h : Ev td σ H (.ref a)) (ha : H a = some (.dK (keyed V.int ds))) (hn : (ds.map (·.1)).Nodup) (k : ∀ d H1, H d = none → Ex H H1 → H1 d = some (.dK (keyed V.int ds)) → tz D (σ.set i (some (.ref d))) H1) :
    tSeq (tAsg (tCB (fun xs H Q => ∃ (a : Addr) (ps : List Addr) (kvs : List (Key × V)), xs = [.ref a] ∧ SqL K H a (ps.map V.ref) ∧ Paired (fun p kv => SqT K H p [kV kv.1, kv.2]) ps kvs ∧ ∀ p, H p = none → Q (.ref p) (upd H p (.dK (mergeK [] kvs)))) (tCons (tCB rListItems (tCons (tBM0 K "dict" rItems td) tNil)) tNil)) (gName i)) tz D σ H :=
  h H (Ex.refl H) _ fun H2 e2 => ⟨tyV_dict (e2 a _ ha), a, _, rfl, rfl, e2 a _ ha, fun p hp => ⟨p, a, keyed V.int ds, rfl, upd_same, by
    rw [upd_ne (ne_of_none (e2 a _ ha) hp)]
    exact e2 a _ ha, fun H' l ts x hl hL hP => ⟨l, ts, keyed V.int ds, rfl, sq_of hL, Paired.mapP hP fun T q z => st_of z, fun d hd => by
    rw [merge_nil (keyed_nodup _ hn)]
    have x2 := e2.trans ((Ex.new hp).trans x)
    exact k d _ (fresh_back x2 hd) (x2.trans (Ex.new hd)) upd_same⟩⟩⟩
/-- repr([formula, sorted(days.items())]) -/
theorem ev_shown {x : V} {t : Td} (hx : Ev te σ H x) (ht : At H x t) (hF : IsF t) (sm : Small t) (hz : (pcs t).length ≤ 60) (hdp : depth t < 10) (hd : Ev td σ H (.ref a)) (ha : DaysAt H a ds) (b : DBd ds) :
    Ev (tCB (rRepr K) (tCons (tLst (tCons te (tCons (tCB rSortItems (tCons (tBM0 K "dict" rItems td) tNil)) tNil))) tNil)) σ H (.str (PyData.shown (.list [dTd t, dDays ds]))) := by
  have s1 := small_td hF sm
  have s2 := small_days ha.2.1 b
  have hs : smallS (.list [dTd t, dDays ds]) = true := by simp only [smallS, smallSAll, s1, s2, Bool.and_self]
  refine ev_repr (evd_lst (evad_cons (evd_ref hx (dp_td hF ht)) (evad_cons (evd_sortItems hd ha.1) evad_nil)) (by show 2 ≤ 100000; decide)) (smallS_show hs) ?_ ?_
  · have := depth_td t
    have := depth_days ds
    simp only [PyData.depth, PyData.depthAll]
    omega
  · refine Nat.le_trans (smallS_len hs) ?_
    have h1 := bnd_td t
    have h2 := bnd_days ds
    have h3 := ha.2.2
    simp only [bndS, bndSAll]
    rw [h2, sizeLine_eq]
    omega
end
end K22
end
section
set_option maxHeartbeats 4000000
namespace K22
open PySem L2 Evl G TM TD
/-! ### a thing of a dict put anew -/
def rep {α : Type} (ds : List (Str × α)) (n : Str) (c : α) : List (Str × α) := ds.map fun p => if p.1 = n then (n, c) else p
section
variable {α : Type} {ds : List (Str × α)} {n x : Str} {c c0 : α}
theorem rep_keys : (rep ds n c).map (·.1) = ds.map (·.1) := by
  unfold rep
  rw [List.map_map]
  apply List.map_congr_left
  intro p _
  show (if p.1 = n then (n, c) else p).1 = p.1
  split
  · rename_i h; exact h.symm
  · rfl
theorem rep_len : (rep ds n c).length = ds.length := List.length_map _
theorem mem_rep {q : Str × α} (h : q ∈ rep ds n c) : q = (n, c) ∨ q ∈ ds := by
  obtain ⟨p, hp, e⟩ := List.mem_map.mp h
  by_cases k : p.1 = n
  · rw [if_pos k] at e; exact .inl e.symm
  · rw [if_neg k] at e; subst e; exact .inr hp
theorem rep_mem (h : n ∈ ds.map (·.1)) : (n, c) ∈ rep ds n c := by
  obtain ⟨p, hp, e⟩ := List.mem_map.mp h
  exact List.mem_map.mpr ⟨p, hp, by rw [if_pos e]⟩
theorem rep_other {q : Str × α} (h : q ∈ ds) (k : q.1 ≠ n) : q ∈ rep ds n c := List.mem_map.mpr ⟨q, h, by rw [if_neg k]⟩
theorem putK_rep (g : α → V) (h : n ∈ ds.map (·.1)) : putK (keyed g ds) (kS n) (g c) = keyed g (rep ds n c) := by
  unfold putK
  rw [if_pos]
  · unfold keyed rep
    rw [List.map_map, List.map_map]
    apply List.map_congr_left
    intro p _
    show (if kS p.1 = kS n then (kS p.1, g c) else (kS p.1, g p.2)) = (kS (if p.1 = n then (n, c) else p).1, g (if p.1 = n then (n, c) else p).2)
    by_cases k : p.1 = n
    · rw [if_pos k, if_pos (by rw [k]), k]
    · rw [if_neg k, if_neg (show ¬ kS p.1 = kS n from fun z => k (Sum.inr.inj z))]
  · obtain ⟨p, hp, e⟩ := List.mem_map.mp h
    exact List.any_eq_true.mpr ⟨(kS p.1, g p.2), List.mem_map.mpr ⟨p, hp, rfl⟩, by rw [e]; exact decide_eq_true rfl⟩
theorem rep_back (hn : (ds.map (·.1)).Nodup) (h : (n, c0) ∈ ds) : rep (rep ds n c) n c0 = ds := by
  unfold rep
  rw [List.map_map]
  conv => rhs; rw [← List.map_id ds]
  apply List.map_congr_left
  intro p hp
  show (if (if p.1 = n then (n, c) else p).1 = n then (n, c0) else (if p.1 = n then (n, c) else p)) = p
  by_cases k : p.1 = n
  · rw [if_pos k, if_pos rfl]
    obtain ⟨y, d⟩ := p
    have k' : y = n := k
    subst k'
    rw [pair_uniq hn hp h]
  · rw [if_neg k, if_neg k]
theorem look_rep (hn : (ds.map (·.1)).Nodup) (h : n ∈ ds.map (·.1)) : look (rep ds n c) n = some c := look_nodup (by rw [rep_keys]; exact hn) (rep_mem h)
theorem look_rep_ne (hn : (ds.map (·.1)).Nodup) (hx : x ∈ ds.map (·.1)) (k : x ≠ n) : look (rep ds n c) x = look ds x := by
  obtain ⟨v, hv, hm⟩ := look_some hx
  rw [hv]
  exact look_nodup (by rw [rep_keys]; exact hn) (rep_other hm k)
end
theorem dn_rep {ds : Ds} {n x : Str} {v : Int} (hn : (ds.map (·.1)).Nodup) (h : n ∈ ds.map (·.1)) (hx : x ∈ ds.map (·.1)) : dnOf (rep ds n v) x = if x = n then v else dnOf ds x := by
  unfold dnOf
  by_cases k : x = n
  · subst k; rw [look_rep hn hx, if_pos rfl] <;> rfl
  · rw [look_rep_ne hn hx k, if_neg k]
theorem wd_rep {ws : Ws} {n x : Str} {c : Addr × List Int} (hn : (ws.map (·.1)).Nodup) (h : n ∈ ws.map (·.1)) (hx : x ∈ ws.map (·.1)) : wdOf (rep ws n c) x = if x = n then c.2 else wdOf ws x := by
  unfold wdOf
  by_cases k : x = n
  · subst k; rw [look_rep hn hx, if_pos rfl] <;> rfl
  · rw [look_rep_ne hn hx k, if_neg k]
/-! ### days and truths hang on the rules alone -/
theorem by_congr {ns ms : List Int} (g : Good ns) (k : Good ms) (h : OnEq ns ms) (y : Int) : byL ns y = byL ms y := by
  apply Int.le_antisymm
  · refine (by_le g).mpr ?_
    rw [h]
    exact (by_le k).mp (Int.le_refl _)
  · refine (by_le k).mpr ?_
    rw [← h]
    exact (by_le g).mp (Int.le_refl _)
theorem til_congr {ns ms : List Int} (g : Good ns) (k : Good ms) (h : OnEq ns ms) (y : Int) : tilL ns y = tilL ms y := by
  unfold tilL
  rw [by_congr g k h]
section
variable {N R : List Str} {dn dn' : Str → Int} {wd wd' : Str → List Int}
theorem day_congr (hd : ∀ n ∈ N, dn n = dn' n) (hw : ∀ r ∈ R, OnEq (wd r) (wd' r) ∧ Good (wd r) ∧ Good (wd' r)) : ∀ {t : Td}, IsF t → Has N R t → dayOf dn wd t = dayOf dn' wd' t
  | .lf w v, h, k => by
    rcases h with ⟨rfl, n, _, rfl⟩ | ⟨rfl, i, rfl⟩
    · exact hd n (k n rfl)
    · rfl
  | .ov w v t, h, k => by
    have ih := day_congr hd hw h.2 k.2
    rcases h.1 with ⟨_, r, _, rfl⟩ | ⟨rfl, i, rfl⟩
    · obtain ⟨a, b, c⟩ := hw r (k.1 r rfl)
      show (if w = "on" then _ else if w = "by" then _ else _) = (if w = "on" then _ else if w = "by" then _ else _)
      rw [ih, a, by_congr b c a, til_congr b c a]
    · show _ + i = _ + i
      rw [ih]
  | .nt t, h, _ => h.elim
  | .bi w t u, h, k => by
    have i1 := day_congr hd hw h.2.1 k.1
    have i2 := day_congr hd hw h.2.2 k.2
    show (if w = "late" then (if _ then _ else _) else (if _ then _ else _)) = _
    rw [i1, i2] <;> rfl
theorem so_congr (hd : ∀ n ∈ N, dn n = dn' n) (hw : ∀ r ∈ R, OnEq (wd r) (wd' r) ∧ Good (wd r) ∧ Good (wd' r)) : ∀ {t : Td}, IsS t → Has N R t → soOf dn wd t = soOf dn' wd' t
  | .lf w v, h, _ => h.elim
  | .ov w v t, h, _ => h.elim
  | .nt t, h, k => by
    have ih := so_congr hd hw (t := t) h k
    show (!soOf dn wd t) = !soOf dn' wd' t
    rw [ih]
  | .bi w t u, h, k => by
    rcases h with ⟨rfl, h1, h2⟩ | ⟨hw', h1, h2⟩
    · have i1 := day_congr hd hw h1 k.1
      have i2 := day_congr hd hw h2 k.2
      unfold soOf
      rw [if_pos rfl, if_pos rfl, i1, i2]
    · have i1 := so_congr hd hw h1 k.1
      have i2 := so_congr hd hw h2 k.2
      have hne : w ≠ "le" := by rcases hw' with e | e <;> (rw [e]; decide)
      unfold soOf
      rw [if_neg hne, if_neg hne, i1, i2]
theorem day_mono (hd : ∀ n ∈ N, dn n ≤ dn' n) (hw : ∀ r ∈ R, Good (wd r)) : ∀ {t : Td}, IsF t → Has N R t → dayOf dn wd t ≤ dayOf dn' wd t
  | .lf w v, h, k => by
    rcases h with ⟨rfl, n, _, rfl⟩ | ⟨rfl, i, rfl⟩
    · exact hd n (k n rfl)
    · exact Int.le_refl _
  | .ov w v t, h, k => by
    have ih := day_mono hd hw h.2 k.2
    rcases h.1 with ⟨_, r, _, rfl⟩ | ⟨rfl, i, rfl⟩
    · have g := hw r (k.1 r rfl)
      show (if w = "on" then _ else if w = "by" then _ else _) ≤ (if w = "on" then _ else if w = "by" then _ else _)
      split
      · exact onL_mono g _ _ ih
      · split
        · exact by_mono g _ _ ih
        · exact til_mono g _ _ ih
    · show _ + i ≤ _ + i
      omega
  | .nt t, h, _ => h.elim
  | .bi w t u, h, k => by
    have i1 := day_mono hd hw h.2.1 k.1
    have i2 := day_mono hd hw h.2.2 k.2
    show (if w = "late" then (if dayOf dn wd u > dayOf dn wd t then dayOf dn wd u else dayOf dn wd t) else (if dayOf dn wd u < dayOf dn wd t then dayOf dn wd u else dayOf dn wd t)) ≤
      (if w = "late" then (if dayOf dn' wd u > dayOf dn' wd t then dayOf dn' wd u else dayOf dn' wd t) else (if dayOf dn' wd u < dayOf dn' wd t then dayOf dn' wd u else dayOf dn' wd t))
    split <;> split <;> split <;> omega
end
/-! ### dicts of Tables and lists, beside one another -/
section
variable {K : PySem.W.Frag} {C p F d tb wd l r : Addr} {H H' H2 : Hp} {xs : List V} {ns : List Int} {kvs : List (Key × V)} {o : HO} {ws wsT : Ws} {ds : Ds} {n : Str} {a : Addr}
theorem sql_off (h : SqL K H l xs) (hF : H F = some (.dK kvs)) : SqL K (wo H F) l xs := by
  rcases h with h | h
  · left
    have : l ≠ F := by
      rintro rfl
      unfold Rd at h
      rw [hF] at h
      rcases h with h | ⟨_, h⟩ <;> cases h
    unfold Rd at h ⊢
    rw [wo_ne this]
    exact h
  · exact .inr h
theorem tab_off (h : Tab K C H a ns) (hF : H F = some (.dK kvs)) : Tab K C (wo H F) a ns := by
  obtain ⟨dx, l, h1, h2⟩ := h
  exact ⟨dx, l, by rw [wo_ne (ne_of h1 hF (fun z => by cases z))]; exact h1, sql_off h2 hF⟩
/-- a dict put anew: all that stood apart stays -/
theorem wo_put (hFp : F ≠ p) : Ex (wo (wo H p) F) (wo (upd H F o) p) := fun b u h => by
  have hb : b ≠ F := fun z => by subst z; rw [wo_at] at h; cases h
  rw [wo_ne hb] at h
  have hp : b ≠ p := fun z => by subst z; rw [wo_at] at h; cases h
  rw [wo_ne hp] at h ⊢
  rw [upd_ne hb]
  exact h
theorem WorldAt.off (h : WorldAt K C (wo H p) tb ws) (hFp : F ≠ p) (hF : H F = some (.dK kvs)) (hne : tb ≠ F) : WorldAt K C (wo (upd H F o) p) tb ws := by
  have hF' : wo H p F = some (.dK kvs) := by rw [wo_ne hFp]; exact hF
  exact ⟨wo_put hFp tb _ (by rw [wo_ne hne]; exact h.1), fun q hq => ⟨(h.2.1 q hq).1, (h.2.1 q hq).2.1, (tab_off (h.2.1 q hq).2.2 hF').mono (wo_put hFp)⟩, h.2.2⟩
theorem WorldAt.put (h : WorldAt K C (wo H p) tb ws) (hp : tb ≠ p) (hn : n ∈ ws.map (·.1)) (hr : n ∈ ruleL) (g : Good ns) (t : Tab K C (wo H p) a ns) : WorldAt K C (wo (upd H tb (.dK (putK (keyed wV ws) (kS n) (.ref a)))) p) tb (rep ws n (a, ns)) := by
  refine ⟨?_, fun q hq => ?_, by rw [rep_len]; exact h.2.2⟩
  · rw [wo_ne hp, upd_same, ← putK_rep wV hn]; rfl
  · rcases mem_rep hq with e | hq
    · subst e; exact ⟨hr, g, (tab_off t h.1).mono (wo_put hp)⟩
    · exact ⟨(h.2.1 q hq).1, (h.2.1 q hq).2.1, (tab_off (h.2.1 q hq).2.2 h.1).mono (wo_put hp)⟩
theorem WorldAt.good (h : WorldAt K C H tb ws) {x : Str} (hx : x ∈ ws.map (·.1)) : Good (wdOf ws x) := by
  obtain ⟨q, hm, _, e⟩ := valV_world hx
  rw [e]
  exact (h.2.1 _ hm).2.1
/-- a dict of lists, each one as it stands there -/
structure LwAt (K : PySem.W.Frag) (H : Hp) (d : Addr) (ws : Ws) : Prop where
  at_ : ListsAt K H d ws
  raw : ∀ q ∈ ws, q.2.2.length ≤ 8 ∧ H q.2.1 = some (.lst (q.2.2.map V.int))
theorem LwAt.mono (e : Ex H H') (h : LwAt K H d ws) : LwAt K H' d ws := ⟨h.at_.mono e, fun q hq => ⟨(h.raw q hq).1, e _ _ (h.raw q hq).2⟩⟩
theorem LwAt.off (h : LwAt K (wo H p) d ws) (hFp : F ≠ p) (hF : H F = some (.dK kvs)) (hne : d ≠ F) : LwAt K (wo (upd H F o) p) d ws := by
  have hF' : wo H p F = some (.dK kvs) := by rw [wo_ne hFp]; exact hF
  have hl : ∀ q ∈ ws, wo (upd H F o) p q.2.1 = some (.lst (q.2.2.map V.int)) := fun q hq => wo_put hFp _ _ (by rw [wo_ne (ne_of (h.raw q hq).2 hF' (fun z => by cases z))]; exact (h.raw q hq).2)
  exact ⟨⟨wo_put hFp d _ (by rw [wo_ne hne]; exact h.at_.1), fun q hq => ⟨(h.at_.2.1 q hq).1, (h.at_.2.1 q hq).2.1, (h.at_.2.1 q hq).2.2.1, sq_of (hl q hq)⟩, h.at_.2.2⟩, fun q hq => ⟨(h.raw q hq).1, hl q hq⟩⟩
theorem LwAt.put (h : LwAt K (wo H p) d ws) (hp : d ≠ p) (hn : n ∈ ws.map (·.1)) (hr : n ∈ ruleL) (g : Good ns) (nr : Near ns) (h8 : ns.length ≤ 8) (t : wo H p a = some (.lst (ns.map V.int))) : LwAt K (wo (upd H d (.dK (putK (keyed wV ws) (kS n) (.ref a)))) p) d (rep ws n (a, ns)) := by
  have hl : ∀ q ∈ rep ws n (a, ns), q.1 ∈ ruleL ∧ Good q.2.2 ∧ Near q.2.2 ∧ q.2.2.length ≤ 8 ∧ wo (upd H d (.dK (putK (keyed wV ws) (kS n) (.ref a)))) p q.2.1 = some (.lst (q.2.2.map V.int)) := fun q hq => by
    rcases mem_rep hq with e | hq
    · subst e; exact ⟨hr, g, nr, h8, wo_put hp _ _ (by rw [wo_ne (ne_of t h.at_.1 (fun z => by cases z))]; exact t)⟩
    · exact ⟨(h.at_.2.1 q hq).1, (h.at_.2.1 q hq).2.1, (h.at_.2.1 q hq).2.2.1, (h.raw q hq).1, wo_put hp _ _ (by rw [wo_ne (ne_of (h.raw q hq).2 h.at_.1 (fun z => by cases z))]; exact (h.raw q hq).2)⟩
  exact ⟨⟨by rw [wo_ne hp, upd_same, ← putK_rep wV hn]; rfl, fun q hq => ⟨(hl q hq).1, (hl q hq).2.1, (hl q hq).2.2.1, sq_of (hl q hq).2.2.2.2⟩, by rw [rep_len]; exact h.at_.2.2⟩, fun q hq => ⟨(hl q hq).2.2.2.1, (hl q hq).2.2.2.2⟩⟩
theorem LwAt.good (h : LwAt K H d ws) {x : Str} (hx : x ∈ ws.map (·.1)) : Good (wdOf ws x) := (look_wd h.at_.goodW hx).1
end
section
variable {K : PySem.W.Frag} {σ : L2.St} {H : Hp} {p : Addr} {i j : Nat} {tl te ta : TE} {tA : TA} {Q : VK} {E : XK} {D : Ends} {tz : TS} {tu : TS} {g : TG} {xs : List V}
theorem pickN (hp : PotAt H p) (hv : σ[i]? = some (some (.ref p))) (hl : EvL tl σ H xs) (h0 : 0 < xs.length) (h1 : xs.length ≤ 1000) (k : ∀ (j : Nat) (v : V) (H2 : Hp), xs[j]? = some v → Ex (wo H p) H2 → PotAt H2 p → Q v H2) :
    tCall (sp_pick K) [] E (tCons (tVar i) (tCons tl tNil)) σ H Q := ⟨.ref p, hv, hl H (Ex.refl _) _ fun s H1 hs e1 h1' => by
  obtain ⟨o, ho⟩ := hp.some
  have hsp : s ≠ p := (ne_of_none ho hs).symm
  exact ⟨p, s, xs, rfl, hp.mono e1, sq_of (by rw [wo_ne hsp]; exact h1'), h0, h1, fun j v H2 hj e2 hp2 => k j v H2 hj ((wo_mono e1).trans e2) hp2⟩⟩
theorem for_k (h : tl σ H fun x H1 => tSeq (tFor (iList K (tC x)) g tu) tz D σ H1) : tSeq (tFor (iList K tl) g tu) tz D σ H := h
theorem par2_k (h : tA σ H fun vs H1 => ∃ v w, vs = [v, w] ∧ tz D ((σ.set i (some v)).set j (some w)) H1) : tSeq (tPar i j tA) tz D σ H := h
end
end K22
end
section
set_option maxHeartbeats 4000000
namespace K22
open PySem L2 Evl G TM TD
theorem Has.sub {N R N' R' : List Str} (hN : ∀ x ∈ N, x ∈ N') (hR : ∀ x ∈ R, x ∈ R') : ∀ {t : Td}, Has N R t → Has N' R' t
  | .lf _ _, h => fun n e => hN n (h n e)
  | .ov _ _ _, h => ⟨fun r e => hR r (h.1 r e), Has.sub hN hR h.2⟩
  | .nt t, h => Has.sub hN hR (t := t) h
  | .bi _ _ _, h => ⟨Has.sub hN hR h.1, Has.sub hN hR h.2⟩
/-- a drawn formula or saying, small enough -/
structure Fml (ds : Ds) (ws : Ws) (t : Td) : Prop where
  f : IsF t
  has : Has (ds.map (·.1)) (ws.map (·.1)) t
  dp : depth t ≤ 5
  sz : (pcs t).length ≤ 50
  sm : Small t
/-- a drawn world, its days, their sizes -/
structure Sz (ds : Ds) (ws : Ws) : Prop where
  dn : (ds.map (·.1)).Nodup
  wn : (ws.map (·.1)).Nodup
  d0 : 1 ≤ ds.length
  d1 : ds.length < 64
  w0 : 1 ≤ ws.length
  w1 : ws.length < 64
/-- what stands all along -/
structure Dr (K : PySem.W.Frag) (C p wd tb : Addr) (H0 H : Hp) (ws wsT : Ws) : Prop where
  pot : PotAt H p
  ex : Ex (wo (wo H0 p) wd) H
  lw : LwAt K (wo H p) wd ws
  wt : WorldAt K C (wo H p) tb wsT
section
variable {K : PySem.W.Frag} {C p wd tb d a : Addr} {H0 H H' : Hp} {ws wsT : Ws} {ds : Ds} {x : V} {t : Td} {n : Str} {ns : List Int}
theorem Dr.ext (h : Dr K C p wd tb H0 H ws wsT) (e : Ex H H') : Dr K C p wd tb H0 H' ws wsT := ⟨h.pot.mono e, h.ex.trans e, h.lw.mono (wo_mono e), h.wt.mono (wo_mono e)⟩
theorem wo2_tr (a : Ex (wo (wo H0 p) wd) H) (b : Ex (wo H p) H') : Ex (wo (wo H0 p) wd) H' := fun c u hc => by
  have hcp : c ≠ p := fun z => by
    subst z
    by_cases q : c = wd
    · subst q; rw [wo_at] at hc; cases hc
    · rw [wo_ne q, wo_at] at hc; cases hc
  exact b c u (by rw [wo_ne hcp]; exact a c u hc)
theorem Dr.draw (h : Dr K C p wd tb H0 H ws wsT) (e : Ex (wo H p) H') (hp : PotAt H' p) : Dr K C p wd tb H0 H' ws wsT := ⟨hp, wo2_tr h.ex e, h.lw.mono (wo_sub e), h.wt.mono (wo_sub e)⟩
theorem Dr.np (h : Dr K C p wd tb H0 H ws wsT) : wd ≠ p ∧ tb ≠ p := by
  constructor
  · rintro rfl; have := h.lw.at_.1; rw [wo_at] at this; cases this
  · rintro rfl; have := h.wt.1; rw [wo_at] at this; cases this
theorem Dr.wd_at (h : Dr K C p wd tb H0 H ws wsT) : H wd = some (.dK (keyed wV ws)) := wo_ex _ _ h.lw.at_.1
theorem Dr.tb_at (h : Dr K C p wd tb H0 H ws wsT) : H tb = some (.dK (keyed wV wsT)) := wo_ex _ _ h.wt.1
theorem Dr.putW (h : Dr K C p wd tb H0 H ws wsT) (hne : tb ≠ wd) (hn : n ∈ ws.map (·.1)) (hr : n ∈ ruleL) (g : Good ns) (nr : Near ns) (h8 : ns.length ≤ 8) (t : wo H p a = some (.lst (ns.map V.int))) :
    Dr K C p wd tb H0 (upd H wd (.dK (putK (keyed wV ws) (kS n) (.ref a)))) (rep ws n (a, ns)) wsT := by
  have hp := h.np.1
  refine ⟨pot_off h.pot (Ne.symm hp), fun b u hb => ?_, h.lw.put hp hn hr g nr h8 t, h.wt.off hp h.wd_at hne⟩
  have : b ≠ wd := fun z => by subst z; rw [wo_at] at hb; cases hb
  rw [upd_ne this]
  exact h.ex b u hb
theorem Dr.putT (h : Dr K C p wd tb H0 H ws wsT) (hne : tb ≠ wd) (htb : H0 tb = none) (hn : n ∈ wsT.map (·.1)) (hr : n ∈ ruleL) (g : Good ns) (t : Tab K C (wo H p) a ns) :
    Dr K C p wd tb H0 (upd H tb (.dK (putK (keyed wV wsT) (kS n) (.ref a)))) ws (rep wsT n (a, ns)) := by
  have hp := h.np.2
  refine ⟨pot_off h.pot (Ne.symm hp), fun b u hb => ?_, h.lw.off hp h.tb_at (Ne.symm hne), h.wt.put hp hn hr g t⟩
  have : b ≠ tb := fun z => by
    subst z
    have h1 : b ≠ wd := fun z => by subst z; rw [wo_at] at hb; cases hb
    rw [wo_ne h1, wo_ne hp, htb] at hb
    cases hb
  rw [upd_ne this]
  exact h.ex b u hb
theorem Dr.tu (h : Dr K C p wd tb H0 H ws wsT) (hp : PotAt H0 p) {kvs : List (Key × V)} (hw : H0 wd = some (.dK kvs)) : Tu H0 H := fun b xs hb => by
  obtain ⟨_, _, _, q⟩ := hp
  have h1 : b ≠ p := fun z => by subst z; rw [q] at hb; cases hb
  have h2 : b ≠ wd := fun z => by subst z; rw [hw] at hb; cases hb
  exact h.ex b _ (by rw [wo_ne h2, wo_ne h1]; exact hb)
theorem Dr.days (h : Dr K C p wd tb H0 H ws wsT) (hd : DaysAt H0 d ds) (hp : d ≠ p) (hw : d ≠ wd) : DaysAt H d ds := ⟨h.ex d _ (by rw [wo_ne hw, wo_ne hp]; exact hd.1), hd.2⟩
theorem Dr.lists (h : Dr K C p wd tb H0 H ws wsT) : ListsAt K H wd ws := h.lw.at_.mono wo_ex
theorem Dr.world (h : Dr K C p wd tb H0 H ws wsT) : WorldAt K C H tb wsT := h.wt.mono wo_ex
theorem Dr.new {F : Addr} (h : Dr K C p wd tb H0 H ws wsT) (hF : H F = none) : F ≠ p ∧ F ≠ wd ∧ F ≠ tb ∧ (H0 p ≠ none → H0 wd ≠ none → H0 F = none) := by
  obtain ⟨o, ho⟩ := h.pot.some
  have h1 : F ≠ p := (ne_of_none ho hF).symm
  have h2 : F ≠ wd := (ne_of_none h.wd_at hF).symm
  refine ⟨h1, h2, (ne_of_none h.tb_at hF).symm, fun _ _ => ?_⟩
  cases q : H0 F with
  | none => rfl
  | some u =>
    have := h.ex F u (by rw [wo_ne h2, wo_ne h1]; exact q)
    rw [hF] at this
    cases this
theorem Dr.putN {F : Addr} {kvs : List (Key × V)} {o : HO} (h : Dr K C p wd tb H0 H ws wsT) (h1 : F ≠ p) (h2 : F ≠ wd) (h3 : F ≠ tb) (h0 : H0 F = none) (hF : H F = some (.dK kvs)) : Dr K C p wd tb H0 (upd H F o) ws wsT := by
  refine ⟨pot_off h.pot (Ne.symm h1), fun b u hb => ?_, h.lw.off h1 hF (Ne.symm h2), h.wt.off h1 hF (Ne.symm h3)⟩
  have : b ≠ F := fun z => by
    subst z
    rw [wo_ne h2, wo_ne h1, h0] at hb
    cases hb
  rw [upd_ne this]
  exact h.ex b u hb
theorem dn_bs {n : Str} (b : DBs ds) (h : n ∈ ds.map (·.1)) : -200000000000 ≤ dnOf ds n ∧ dnOf ds n ≤ 200000000000 := by
  obtain ⟨v, hv, hm⟩ := look_some h
  unfold dnOf
  rw [hv]
  exact b _ hm
theorem perm_map {α : Type} {l m : List (Str × α)} (h : l.Perm m) : ∀ x, x ∈ l.map (·.1) ↔ x ∈ m.map (·.1) := fun x => (h.map (·.1)).mem_iff
theorem look_perm {α : Type} {l m : List (Str × α)} (h : l.Perm m) (hn : (m.map (·.1)).Nodup) {x : Str} (hx : x ∈ m.map (·.1)) : look l x = look m x := by
  obtain ⟨v, hv, hm⟩ := look_some hx
  rw [hv]
  exact look_nodup ((h.map (·.1)).nodup_iff.mpr hn) (h.mem_iff.mpr hm)
theorem dn_perm {l m : Ds} (h : l.Perm m) (hn : (m.map (·.1)).Nodup) {x : Str} (hx : x ∈ m.map (·.1)) : dnOf l x = dnOf m x := by unfold dnOf; rw [look_perm h hn hx]
theorem wd_perm {l m : Ws} (h : l.Perm m) (hn : (m.map (·.1)).Nodup) {x : Str} (hx : x ∈ m.map (·.1)) : wdOf l x = wdOf m x := by unfold wdOf; rw [look_perm h hn hx]
theorem WorldAt.perm {H : Hp} {tb : Addr} {l m : Ws} (h : WorldAt K C H tb m) (hp : l.Perm m) (hd : H d = some (.dK (keyed wV l))) : WorldAt K C H d l := ⟨hd, fun q hq => h.2.1 q (hp.mem_iff.mp hq), by rw [hp.length_eq]; exact h.2.2⟩
theorem DaysAt.perm {H : Hp} {d e : Addr} {l m : Ds} (h : DaysAt H d m) (hp : l.Perm m) (hd : H e = some (.dK (keyed V.int l))) : DaysAt H e l := ⟨hd, fun q hq => h.2.1 q (hp.mem_iff.mp hq), by rw [hp.length_eq]; exact h.2.2⟩
/-- the same rules by other Tables: the same day -/
theorem due_congr {wsX : Ws} {ds' : Ds} (hg : ∀ r ∈ ws.map (·.1), Good (wdOf ws r)) (hgX : ∀ r ∈ ws.map (·.1), Good (wdOf wsX r)) (he : ∀ r ∈ ws.map (·.1), OnEq (wdOf wsX r) (wdOf ws r)) (hd : ∀ n ∈ ds.map (·.1), dnOf ds' n = dnOf ds n) (hF : IsF t) (hh : Has (ds.map (·.1)) (ws.map (·.1)) t) :
    dayOf (dnOf ds') (wdOf wsX) t = dayOf (dnOf ds) (wdOf ws) t := day_congr (N := ds.map (·.1)) (R := ws.map (·.1)) hd (fun r hr => ⟨he r hr, hgX r hr, hg r hr⟩) hF hh
theorem truth_congr {wsX : Ws} {ds' : Ds} (hg : ∀ r ∈ ws.map (·.1), Good (wdOf ws r)) (hgX : ∀ r ∈ ws.map (·.1), Good (wdOf wsX r)) (he : ∀ r ∈ ws.map (·.1), OnEq (wdOf wsX r) (wdOf ws r)) (hd : ∀ n ∈ ds.map (·.1), dnOf ds' n = dnOf ds n) (hF : IsS t) (hh : Has (ds.map (·.1)) (ws.map (·.1)) t) :
    soOf (dnOf ds') (wdOf wsX) t = soOf (dnOf ds) (wdOf ws) t := so_congr (N := ds.map (·.1)) (R := ws.map (·.1)) hd (fun r hr => ⟨he r hr, hgX r hr, hg r hr⟩) hF hh
theorem days_ne (hd : DaysAt H d ds) (h1 : 1 ≤ ds.length) (hw : H wd = some (.dK (keyed wV ws))) : d ≠ wd := by
  rintro rfl
  have e := hd.1.symm.trans hw
  cases ds with
  | nil => exact absurd h1 (by decide)
  | cons q l =>
    cases ws with
    | nil => cases e
    | cons r m =>
      have e1 : keyed V.int (q :: l) = keyed wV (r :: m) := by injection e with e; injection e
      have e2 := (List.cons.inj e1).1
      have e3 : V.int q.2 = wV r.2 := (Prod.mk.inj e2).2
      cases e3
theorem ex_back {o : HO} (h : Ex (wo (wo H0 p) wd) H) (h0 : H0 wd = some o) (h1 : H wd = some o) : Ex (wo H0 p) H := fun b u hb => by
  by_cases q : b = wd
  · subst q
    have := wo_ex _ _ hb
    rw [h0] at this
    cases this
    exact h1
  · exact h b u (by rw [wo_ne q]; exact hb)
end
section
variable {K : PySem.W.Frag} {σ : L2.St} {H : Hp} {F : Addr} {td ty tv : TE} {D : Ends} {tz : TS}
theorem q_dput_k (h : tv σ H fun v H1 => td σ H1 fun x H2 => ty σ H2 fun y H3 => ∃ a H4, x = .ref a ∧ DPut H3 a y v H4 ∧ tz D σ H4) : tSeq (sDPut td ty tv) tz D σ H := h
theorem q_dput_end {x : Str} {v : V} {kvs : List (Key × V)} (hd : Ev td σ H (.ref F)) (hy : Ev ty σ H (.str x)) (hF : H F = some (.dK kvs)) (hz : kvs.length < 100000) (k : ∀ H1, Ex H H1 → tz D σ (upd H1 F (.dK (putK kvs (kS x) v)))) :
    td σ H fun u H2 => ty σ H2 fun y H3 => ∃ a H4, u = .ref a ∧ DPut H3 a y v H4 ∧ tz D σ H4 := hd H (Ex.refl H) _ fun H1 e1 => hy H1 e1 _ fun H2 e2 => ⟨F, _, rfl, DPut.k (k := kS x) ((e1.trans e2) F _ hF) (sz_lt hz), k H2 (e1.trans e2)⟩
theorem keyed_len {α : Type} (g : α → V) (l : List (Str × α)) : (keyed g l).length = l.length := List.length_map _
end
end K22
end
section
set_option maxHeartbeats 8000000
namespace K22
open PySem L2 Evl G TM TD
/-- a drawn formula, its days, its world: all told right; the world is as it was -/
def sp_days_right (K : PySem.W.Frag) : Sp := fun vs H Q _ => ∃ (p : Addr) (x : V) (d wd : Addr) (t : Td) (ds : Ds) (ws : Ws), vs = [.ref p, x, .ref d, .ref wd] ∧ PotAt H p ∧ At H x t ∧ Fml ds ws t ∧ Sz ds ws ∧ DaysAt H d ds ∧ DBs ds ∧ LwAt K (wo H p) wd ws ∧
  ∀ H2, Ex (wo H p) H2 → PotAt H2 p → Q (.bl true) H2
theorem get_txt {L : List Str} {j : Nat} {v : V} (h : (L.map V.str)[j]? = some v) : ∃ n, v = .str n ∧ n ∈ L := by
  rw [List.getElem?_map] at h
  obtain ⟨n, hn, rfl⟩ := Option.map_eq_some_iff.mp h
  exact ⟨n, rfl, List.mem_of_getElem? hn⟩
theorem nrm_pos {L : List Str} (h : 1 ≤ L.length) : 0 < (nrm L).length := by
  cases L with
  | nil => exact absurd h (by decide)
  | cons x l => exact List.length_pos_of_mem (mem_nrm.mpr List.mem_cons_self)
section
variable {P : Program} {w : World} {K : PySem.W.Frag} {mg : Str → Option Value} {base : Heap} {C SZ SY : Addr}
theorem ok_days_right {f f1 f2 f3 f4 f5 f6 f7 f8 f9 fi : Addr} {fd fd1 fd2 fd3 fd4 fd5 fd6 fd7 fd8 fd9 fdi : FuncData} (F : Fun K "_law_days_right" "_law_days_right" s__law_days_right f fd) (T : Txt P w K mg C SZ SY) (mkI : Mk K C fi) (m_init : Ini P w K mg base C fi fdi)
    (c__law_tables : Cal P w K mg base "_law_tables" f1 fd1 ["_law_world_here"] 5 (sp_tables K C)) (c__law_day : Cal P w K mg base "_law_day" f2 fd2 ["_law_formula_here", "_law_days_here", "_law_world_here"] 13 (sp_lday K 10)) (c__law_other_tables : Cal P w K mg base "_law_other_tables" f3 fd3 ["_law_pot_here", "_law_tables_here"] 7 (sp_other K C))
    (c__law_turned : Cal P w K mg base "_law_turned" f4 fd4 ["_law_some_here"] 1 sp_turned) (c_day_of : Cal P w K mg base "day_of" f5 fd5 ["formula", "days", "world"] 16 (sp_day_of K C)) (c__law_is_integer : Cal P w K mg base "_law_is_integer" f6 fd6 ["_law_value"] 1 sp_law_is_integer)
    (c__law_pick : Cal P w K mg base "_law_pick" f7 fd7 ["_law_pot_here", "_law_some_here"] 2 (sp_pick K)) (c__law_draw : Cal P w K mg base "_law_draw" f8 fd8 ["_law_pot_here", "_law_many"] 1 sp_draw) (c__law_table : Cal P w K mg base "_law_table" f9 fd9 ["_law_pot_here"] 3 sp_table)
    (kb_day_of_world_days_formula : KBn K fd5 ["formula", "days", "world"] 0 ["world", "days", "formula"] (fun us ws => us ++ ws.reverse) (fun vs zs => vs ++ zs.reverse)) :
    FnG P w K mg base CX0 18 f fd ["_law_pot_here", "_law_formula_here", "_law_days_here", "_law_world_here"] (sp_days_right K) := by
  refine okG F sc__law_days_right (fun vs H Q E h => ?_) (fun cdv A outer s H vs Q E hg hr h => ?_)
  · obtain ⟨p, x, d, wd, t, ds, ws, rfl, _⟩ := h
    rfl
  · obtain ⟨p, x, d, wd, t, ds, ws, rfl, hp, ht, fm, sz, hds, hbs, hlw, k⟩ := h
    have hu := hr.units
    refine ⟨_, (pss_cons (ps_par (i := 4) (j := 5) (by rfl) sc__law_days_right.nd rfl rfl (by decide) rfl rfl (pa_cons (pe_call c__law_tables.ok (hr.mono (by decide)) (by rfl) c__law_tables.mgx c__law_tables.kp c__law_tables.bd .nil pass0 (pa_cons (pv 3) pa_nil)) (pa_cons (pe_call c__law_day.ok (hr.mono (by decide)) (by rfl) c__law_day.mgx c__law_day.kp c__law_day.bd .nil pass0 (pa_cons (pv 1) (pa_cons (pv 2) (pa_cons (pv 3) pa_nil)))) pa_nil)) (by rfl)) (pss_cons (ps_set (i := 6) sc__law_days_right.nd rfl (Or.inl rfl) (pe_callB (call_reprD hg hu) (by rfl) T.b_repr (by decide +kernel) (pa_cons (pe_lst (pa_cons (pv 1) (pa_cons (pe_callB (call_sortItems rfl hr.units) (by rfl) T.b_sorted (by decide +kernel) (pa_cons (pe_bm0 PySem.F.plainAttrs_dict PySem.F.slot_dict_items PySem.F.type_dict_items mt_items (pv 2)) pa_nil)) pa_nil))) pa_nil))) (pss_cons (ps_for PassesOwn.never rfl (piL (K := K) rfl (pe_lst (pa_cons (pv 4) (pa_cons (pe_call c__law_other_tables.ok (hr.mono (by decide)) (by rfl) c__law_other_tables.mgx c__law_other_tables.kp c__law_other_tables.bd .nil pass0 (pa_cons (pv 0) (pa_cons (pv 4) pa_nil))) (pa_cons (pe_call c__law_turned.ok (hr.mono (by decide)) (by rfl) c__law_turned.mgx c__law_turned.kp c__law_turned.bd .nil pass0 (pa_cons (pv 4) pa_nil)) pa_nil))))) (pg_name (i := 7) sc__law_days_right.nd rfl (Or.inl rfl)) (pss_cons (ps_set (i := 8) sc__law_days_right.nd rfl (Or.inl rfl) (pe_call c_day_of.ok (hr.mono (by decide)) (by rfl) c_day_of.mgx c_day_of.kp c_day_of.bd .nil pass0 (pa_cons (pv 1) (pa_cons (pv 2) (pa_cons (pv 7) pa_nil))))) (pss_cons (ps_if (PW.pt (pw_or (pt_cmpR op_ne (pv 8) (pv 5) (nomark _)) (pw_or (pt_not (pt_val (pe_call c__law_is_integer.ok (hr.mono (by decide)) (by rfl) c__law_is_integer.mgx c__law_is_integer.kp c__law_is_integer.bd .nil pass0 (pa_cons (pv 8) pa_nil)))) (pw_or1 (pt_cmpR op_ne (pe_call c_day_of.ok (hr.mono (by decide)) (by rfl) c_day_of.mgx c_day_of.kp c_day_of.bd .nil pass0 (pa_cons (pv 1) (pa_cons (pe_call c__law_turned.ok (hr.mono (by decide)) (by rfl) c__law_turned.mgx c__law_turned.kp c__law_turned.bd .nil pass0 (pa_cons (pv 2) pa_nil)) (pa_cons (pv 7) pa_nil)))) (pv 5) (nomark _)))))) (pss_one (ps_ret pe_bl)) pss_nil) (pss_one (ps_if (pt_cmpR op_ne (pe_callN0 c_day_of.ok (hr.mono (by decide)) (by rfl) c_day_of.mgx c_day_of.kp kb_day_of_world_days_formula pass0 (pk_cons (pv 7) (pk_cons (pv 2) (pk_cons (pv 1) pk_nil)))) (pv 5) (nomark _)) (pss_one (ps_ret pe_bl)) pss_nil))))) (pss_cons (ps_set (i := 9) sc__law_days_right.nd rfl (Or.inl rfl) (pe_call c__law_pick.ok (hr.mono (by decide)) (by rfl) c__law_pick.mgx c__law_pick.kp c__law_pick.bd .nil pass0 (pa_cons (pv 0) (pa_cons (pe_callB (call_sortedD rfl) (by rfl) T.b_sorted (by decide +kernel) (pa_cons (pv 2) pa_nil)) pa_nil)))) (pss_cons (ps_set (i := 10) sc__law_days_right.nd rfl (Or.inl rfl) (pe_callTy (call_dictP rfl) (by rfl) T.b_dict (by decide +kernel) (pa_cons (pe_callTy (call_listItems rfl) (by rfl) T.b_list (by decide +kernel) (pa_cons (pe_bm0 PySem.F.plainAttrs_dict PySem.F.slot_dict_items PySem.F.type_dict_items mt_items (pv 2)) pa_nil)) pa_nil))) (pss_cons (ps_dputR hr.units (pv 10) (pv 9) (pe_op op_add (pe_op op_add (pe_dgetR hr.units (pv 2) (pv 9) (fun _ _ => rfl)) pe_int) (pe_call c__law_draw.ok (hr.mono (by decide)) (by rfl) c__law_draw.mgx c__law_draw.kp c__law_draw.bd .nil pass0 (pa_cons (pv 0) (pa_cons pe_int pa_nil)))) (by rfl)) (pss_cons (ps_set (i := 11) sc__law_days_right.nd rfl (Or.inl rfl) (pe_call c_day_of.ok (hr.mono (by decide)) (by rfl) c_day_of.mgx c_day_of.kp c_day_of.bd .nil pass0 (pa_cons (pv 1) (pa_cons (pv 10) (pa_cons (pv 4) pa_nil))))) (pss_cons (ps_if (PW.pt (pw_or (pt_cmpR op_ne (pv 11) (pe_call c__law_day.ok (hr.mono (by decide)) (by rfl) c__law_day.mgx c__law_day.kp c__law_day.bd .nil pass0 (pa_cons (pv 1) (pa_cons (pv 10) (pa_cons (pv 3) pa_nil)))) (nomark _)) (pw_or1 (pt_cmpR op_lt (pv 11) (pv 5) (nomark _))))) (pss_one (ps_ret pe_bl)) pss_nil) (pss_cons (ps_set (i := 12) sc__law_days_right.nd rfl (Or.inl rfl) (pe_call c__law_pick.ok (hr.mono (by decide)) (by rfl) c__law_pick.mgx c__law_pick.kp c__law_pick.bd .nil pass0 (pa_cons (pv 0) (pa_cons (pe_callB (call_sortedD rfl) (by rfl) T.b_sorted (by decide +kernel) (pa_cons (pv 3) pa_nil)) pa_nil)))) (pss_cons (ps_set (i := 13) sc__law_days_right.nd rfl (Or.inl rfl) (pe_dgetR hr.units (pv 3) (pv 12) (fun _ _ => rfl))) (pss_cons (ps_dputR hr.units (pv 3) (pv 12) (pe_call c__law_table.ok (hr.mono (by decide)) (by rfl) c__law_table.mgx c__law_table.kp c__law_table.bd .nil pass0 (pa_cons (pv 0) pa_nil)) (by rfl)) (pss_cons (ps_dputR hr.units (pv 4) (pv 12) (pe_make mkI m_init.ok (hr.mono (by decide)) (by rfl) T.mg_Table m_init.bd .nil pass0 (pa_cons (pe_dgetR hr.units (pv 3) (pv 12) (fun _ _ => rfl)) pa_nil)) (by rfl)) (pss_cons (ps_if (pt_cmpR op_ne (pe_call c_day_of.ok (hr.mono (by decide)) (by rfl) c_day_of.mgx c_day_of.kp c_day_of.bd .nil pass0 (pa_cons (pv 1) (pa_cons (pv 2) (pa_cons (pv 4) pa_nil)))) (pe_call c__law_day.ok (hr.mono (by decide)) (by rfl) c__law_day.mgx c__law_day.kp c__law_day.bd .nil pass0 (pa_cons (pv 1) (pa_cons (pv 2) (pa_cons (pv 3) pa_nil)))) (nomark _)) (pss_one (ps_ret pe_bl)) pss_nil) (pss_cons (ps_dputR hr.units (pv 3) (pv 12) (pv 13) (by rfl)) (pss_cons (ps_dputR hr.units (pv 4) (pv 12) (pe_make mkI m_init.ok (hr.mono (by decide)) (by rfl) T.mg_Table m_init.bd .nil pass0 (pa_cons (pv 13) pa_nil)) (by rfl)) (pss_one (ps_ret (pe_and (pe_cmpR op_eq (pe_call c_day_of.ok (hr.mono (by decide)) (by rfl) c_day_of.mgx c_day_of.kp c_day_of.bd .nil pass0 (pa_cons (pv 1) (pa_cons (pv 2) (pa_cons (pv 4) pa_nil)))) (pv 5) (nomark _)) (pe_one (pe_cmpR op_eq (pe_callB (call_reprD hg hu) (by rfl) T.b_repr (by decide +kernel) (pa_cons (pe_lst (pa_cons (pv 1) (pa_cons (pe_callB (call_sortItems rfl hr.units) (by rfl) T.b_sorted (by decide +kernel) (pa_cons (pe_bm0 PySem.F.plainAttrs_dict PySem.F.slot_dict_items PySem.F.type_dict_items mt_items (pv 2)) pa_nil)) pa_nil))) pa_nil)) (pv 6) (nomark _))))))))))))))))))))), ?_⟩
    obtain ⟨o0, ho0⟩ := hp.some
    have hwd0 : H wd = some (.dK (keyed wV ws)) := wo_ex _ _ hlw.at_.1
    have hdp : d ≠ p := by
      obtain ⟨_, _, _, q⟩ := hp
      rintro rfl
      rw [hds.1] at q
      cases q
    have hdw : d ≠ wd := days_ne hds sz.d0 hwd0
    have hdb := hbs.bd
    have hdp1 := fm.dp
    have hsz1 := fm.sz
    have gw : ∀ r ∈ ws.map (·.1), Good (wdOf ws r) := fun r hr => hlw.good hr
    -- the Tables, and what is due
    refine par2_k (ac_k (call_k (ac_v (ev_var rfl) fun H1 e1 => ac_nil ⟨wd, ws, rfl, (hlw.at_.mono (wo_ex.trans e1)), fun q hq => e1 _ _ (wo_ex _ _ (hlw.raw q hq).2), sz.wn, sz.w1, fun tb wsT H2 htb e2 hwT hnT hmT hwdT hlT => ?_⟩)))
    have e02 := e1.trans e2
    refine ac_v (ev_call (ea_cons (ev_var rfl) (ea_cons (ev_var rfl) (ea_cons (ev_var rfl) ea_nil))) (spv_lday (ht.mono (Tu.ex e02)) fm.f (by omega) (by omega) fm.sm (hds.mono e02) hdb (hlw.at_.mono (wo_ex.trans e02)) fm.has)) fun H3 e3 => ac_nil ⟨_, _, rfl, ?_⟩
    have e03 := e02.trans e3
    have htb0 : H tb = none := fresh_back e1 htb
    have htbw : tb ≠ wd := by rintro rfl; rw [hwd0] at htb0; cases htb0
    have dr3 : Dr K C p wd tb H H3 ws wsT := ⟨hp.mono e03, wo_ex.trans (wo_ex.trans e03), hlw.mono (wo_mono e03), (hwT p (by rw [e1 p _ ho0]; exact fun z => by cases z)).mono (wo_mono e3)⟩
    have hm1 : ∀ x, x ∈ wsT.map (·.1) ↔ x ∈ ws.map (·.1) := hmT
    have onT : ∀ r ∈ ws.map (·.1), OnEq (wdOf wsT r) (wdOf ws r) := fun r hr y => by rw [hwdT r hr]
    have h8T : ∀ q ∈ wsT, q.2.2.length ≤ 8 := fun q hq => by
      have hk : q.1 ∈ ws.map (·.1) := (hmT _).mp (List.mem_map.mpr ⟨q, hq, rfl⟩)
      have h1 := wdOf_mem hnT (x := q.1) (c := q.2) hq
      rw [hwdT _ hk] at h1
      obtain ⟨c, hc, _, hc2⟩ := valV_world hk
      rw [← h1, hc2]
      exact (hlw.raw _ hc).1
    generalize hdue : dayOf (dnOf ds) (wdOf ws) t = due
    -- what day_of tells beside any Tables of the same rules
    have same : ∀ {ds' : Ds} {wsX : Ws}, (∀ r ∈ ws.map (·.1), Good (wdOf wsX r)) → (∀ r ∈ ws.map (·.1), OnEq (wdOf wsX r) (wdOf ws r)) → (∀ n ∈ ds.map (·.1), dnOf ds' n = dnOf ds n) → dayOf (dnOf ds') (wdOf wsX) t = due := fun a b c => by rw [← hdue]; exact due_congr gw a b c fm.f fm.has
    have told : ∀ {H' : Hp} {b : Addr} {wsX : Ws} {i j l : Nat} {σ : L2.St} {E : XK}, At H' x t → DaysAt H' d ds → WorldAt K C H' b wsX → (∀ x, x ∈ wsX.map (·.1) ↔ x ∈ ws.map (·.1)) → (∀ r ∈ ws.map (·.1), OnEq (wdOf wsX r) (wdOf ws r)) →
        σ[i]? = some (some x) → σ[j]? = some (some (.ref d)) → σ[l]? = some (some (.ref b)) → Ev (tCall (sp_day_of K C) [] E (tCons (tVar i) (tCons (tVar j) (tCons (tVar l) tNil)))) σ H' (.int due) := fun ha hd hw hm he q1 q2 q3 => by
      refine ev_is (ev_call (ea_cons (ev_var q1) (ea_cons (ev_var q2) (ea_cons (ev_var q3) ea_nil))) (spv_day_of ha fm.f (by omega) (by omega) hd hw (fm.has.sub (fun _ h => h) fun r hr => (hm r).mpr hr))) ?_
      rw [same (fun r hr => hw.good ((hm r).mpr hr)) he fun _ _ => rfl]
    refine q_asg (ev_shown (ev_var rfl) (ht.mono (Tu.ex e03)) fm.f fm.sm (by omega) (by omega) (ev_var rfl) (hds.mono e03) hdb) fun H4 e4 => ?_
    have dr4 := dr3.ext e4
    have htb4 : tb ≠ p := dr4.np.2
    -- three worlds of the same rules
    refine for_k (lst_k (ac_v (ev_var (i := 4) rfl) fun H5 e5 => ac_k (call_k (ac_v (ev_var rfl) fun H6 e6 => ac_v (ev_var rfl) fun H7 e7 => ac_nil ⟨p, tb, wsT, rfl, ((dr4.pot.mono e5).mono e6).mono e7, dr4.wt.mono (wo_mono ((e5.trans e6).trans e7)), hnT, by have := sz.w1; omega, h8T, fun tb2 ws2 H8 htb2 e8 hp8 hw2 hn2 hm2 he2 hl2 => ?_⟩))))
    have dr8 := (((dr4.ext e5).ext e6).ext e7).draw e8 hp8
    refine ac_k (call_k (ac_v (ev_var (i := 4) rfl) fun H9 e9 => ac_nil ⟨_, wV, tb, wsT, rfl, (dr8.ext e9).tb_at, hnT, by have := sz.w1; omega, fun tb3 ws3 H10 htb3 e10 h10 pm3 => ac_nil ⟨sz_of (by show 3 ≤ 100000; decide), fun L hL => ?_⟩⟩))
    have dr10 := (dr8.ext e9).ext e10
    have w2 := ((hw2.mono wo_ex).mono e9).mono e10
    have w3 : WorldAt K C H10 tb3 ws3 := dr10.world.perm pm3 h10
    have eL := Ex.new (o := .lst [.ref tb, .ref tb2, .ref tb3]) hL
    have dr11 := dr10.ext eL
    have hL11 : (upd H10 L (.lst [.ref tb, .ref tb2, .ref tb3])) L = some (.lst [.ref tb, .ref tb2, .ref tb3]) := upd_same
    have each : ∀ (i : Nat) (v : V), [V.ref tb, V.ref tb2, V.ref tb3][i]? = some v → ∃ b wsX, v = .ref b ∧ WorldAt K C (upd H10 L (.lst [.ref tb, .ref tb2, .ref tb3])) b wsX ∧ (∀ x, x ∈ wsX.map (·.1) ↔ x ∈ ws.map (·.1)) ∧ ∀ r ∈ ws.map (·.1), OnEq (wdOf wsX r) (wdOf ws r) := fun i v hi => by
      rcases i with _ | _ | _ | i
      · cases hi
        exact ⟨tb, wsT, rfl, dr11.world, hmT, onT⟩
      · cases hi
        exact ⟨tb2, ws2, rfl, w2.mono eL, fun x => (hm2 x).trans (hmT x), fun r hr y => by rw [he2 r ((hmT r).mpr hr) y]; exact onT r hr y⟩
      · cases hi
        exact ⟨tb3, ws3, rfl, w3.mono eL, fun x => (perm_map pm3 x).trans (hmT x), fun r hr y => by rw [wd_perm pm3 hnT ((hmT r).mpr hr)]; exact onT r hr y⟩
      · exact absurd hi (by simp)
    clear hw2 w2 w3 h10 e5 e6 e7 e8 e9 e10 dr8 dr10 hn2 hm2 he2 hl2 pm3 hp8
    generalize upd H10 L (.lst [.ref tb, .ref tb2, .ref tb3]) = H11 at dr11 hL11 each ⊢
    have at11 : At H11 x t := ht.mono (dr11.tu hp hwd0)
    have ds11 : DaysAt H11 d ds := dr11.days hds hdp hdw
    refine q_forL ev_c (sq_of hL11) (fun i σ' H' => ∃ o7 o8 : Option V, σ' = [some (.ref p), some x, some (.ref d), some (.ref wd), some (.ref tb), some (.int due), some (.str (PyData.shown (.list [dTd t, dDays ds]))), o7, o8, none, none, none, none, none] ∧ Ex H11 H') (fun H' e => ⟨none, none, rfl, e⟩) (fun i σ' H' _ h => ?_) (fun i v σ' H' hi h => ?_) (fun σ' H' h => ?_)
    · obtain ⟨_, _, _, e⟩ := h
      exact sq_of (e L _ hL11)
    · obtain ⟨o7, o8, rfl, e⟩ := h
      obtain ⟨b, wsX, rfl, hw, hm, he⟩ := each i v hi
      have ha := at11.mono (Tu.ex e)
      have hd := ds11.mono e
      have hwX := hw.mono e
      refine q_asg (told ha hd hwX hm he rfl rfl rfl) fun H12 e12 => ?_
      have ha2 := ha.mono (Tu.ex e12)
      have hd2 := hd.mono e12
      have hw2 := hwX.mono e12
      have evT : ∀ {σ : L2.St} {E E' : XK}, σ[1]? = some (some x) → σ[2]? = some (some (.ref d)) → σ[7]? = some (some (.ref b)) → Ev (tCall (sp_day_of K C) [] E (tCons (tVar 1) (tCons (tCall sp_turned [] E' (tCons (tVar 2) tNil)) (tCons (tVar 7) tNil)))) σ H12 (.int due) := fun {σ E E'} q1 q2 q3 H13 e13 Q' q' => by
        refine call_k (ac_v (ev_var q1) fun H14 e14 => ac_k (call_k (ac_v (ev_var q2) fun H15 e15 => ac_nil ⟨_, V.int, d, ds, rfl, (((e13.trans e14).trans e15) d _ hd2.1), sz.dn, sz.d1, fun d' ds' H16 hd' e16 h16 pm => ac_v (ev_var q3) fun H17 e17 => ac_nil ?_⟩)))
        have eT := ((e13.trans e14).trans e15).trans (e16.trans e17)
        have hd' : DaysAt H17 d' ds' := (((hd2.mono ((e13.trans e14).trans e15)).mono e16).perm pm h16).mono e17
        refine (spv_day_of (ha2.mono (Tu.ex eT)) fm.f (by omega) (by omega) hd' (hw2.mono eT) (fm.has.sub (fun n hn => (perm_map pm n).mpr hn) fun r hr => (hm r).mpr hr)) H17 (Ex.refl _) _ (fun H18 e18 => ?_) _
        rw [same (fun r hr => hw2.good ((hm r).mpr hr)) he fun n hn => dn_perm pm sz.dn hn]
        exact q' H18 ((e14.trans e15).trans ((e16.trans e17).trans e18))
      refine q_when (b := false) (et_or (a := false) (b := false) (et_is (et_test (ev_op (ev_var rfl) (ev_var rfl) (rv_ne rfl))) (by simp)) fun _ => et_or (a := false) (b := false) (et_not (a := true) (et_B (ev_call (ea_cons (ev_var rfl) ea_nil) (fun H13 e13 Q' q' E' => ⟨due, rfl, q'⟩)))) fun _ => et_is (et_test (ev_op (evT rfl rfl rfl) (ev_var rfl) (rv_ne rfl))) (by simp)) (fun z => by cases z) fun _ H13 e13 => ?_
      refine s_when (b := false) (et_is (et_test (ev_op (ev_is (ev_callN0 (z := .int (dayOf (dnOf ds) (wdOf wsX) t)) (ea_cons (ev_var rfl) (ea_cons (ev_var rfl) (ea_cons (ev_var rfl) ea_nil))) rfl (spv_day_of (ha2.mono (Tu.ex e13)) fm.f (by omega) (by omega) (hd2.mono e13) (hw2.mono e13) (fm.has.sub (fun _ h => h) fun r hr => (hm r).mpr hr))) (by rw [same (fun r hr => hw2.good ((hm r).mpr hr)) he fun _ _ => rfl])) (ev_var rfl) (rv_ne rfl))) (by simp)) (fun z => by cases z) fun _ H14 e14 => ⟨_, _, rfl, e.trans (e12.trans (e13.trans e14))⟩
    · obtain ⟨o7, o8, rfl, e⟩ := h
      have drA := dr11.ext e
      have dsA := ds11.mono e
      have atA := at11.mono (Tu.ex e)
      clear each at11 ds11 dr11 hL11 dr4 dr3
      have keyE : ∀ {α : Type} (g : α → V) (l : List (Str × α)), (keyed g l).map (·.1) = (l.map (·.1)).map Sum.inr := fun g l => by rw [keyed_keys, List.map_map]; rfl
      have hpn : H p ≠ none := by rw [ho0]; exact fun z => by cases z
      have hwn : H wd ≠ none := by rw [hwd0]; exact fun z => by cases z
      -- a name's day, later
      refine asg_k (pickN drA.pot rfl (el_sortedD (ev_var rfl) dsA.1 (keyE _ _) sz.dn (by rw [List.length_map]; exact sz.d1)) (by rw [List.length_map]; exact nrm_pos (by rw [List.length_map]; exact sz.d0)) (by have := nrm_len (ds.map (·.1)); have := sz.d1; rw [List.length_map] at *; omega) fun j v H1 hj e1 hp1 => ?_)
      obtain ⟨n, rfl, hn'⟩ := get_txt hj
      have hn := mem_nrm.mp hn'
      have drB := drA.draw e1 hp1
      refine q_copy (ev_var rfl) (drB.days hds hdp hdw).1 sz.dn fun lt H2 hlt e2 h2 => ?_
      have drC := drB.ext e2
      obtain ⟨ltp, ltw, ltt, lt0⟩ := drB.new hlt
      have lt0 := lt0 hpn hwn
      refine q_dput_k (op_k (v_k (ev_op (ev_dget (k := kS n) (ev_var rfl) (ev_var rfl) (drC.days hds hdp hdw).1 (valV_days hn)) ev_c rv_I0) fun H3 e3 => drawC (drC.ext e3).pot rfl ev_c (by decide) (by decide) fun m H4 m0 m1 e4 hp4 => ⟨_, _, rfl, rfl, ?_⟩))
      have drD := (drC.ext e3).draw e4 hp4
      have hlt4 : H4 lt = some (.dK (keyed V.int ds)) := e4 lt _ (by rw [wo_ne ltp]; exact e3 lt _ h2)
      refine q_dput_end (ev_var rfl) (ev_var rfl) hlt4 (by rw [keyed_len]; have := sz.d1; omega) fun H5 e5 => ?_
      have drE := (drD.ext e5).putN (o := .dK (putK (keyed V.int ds) (kS n) (V.int (dnOf ds n + 1 + m)))) ltp ltw ltt lt0 (e5 lt _ hlt4)
      have hlt6 : (upd H5 lt (.dK (putK (keyed V.int ds) (kS n) (V.int (dnOf ds n + 1 + m))))) lt = some (.dK (keyed V.int (rep ds n (dnOf ds n + 1 + m)))) := by rw [upd_same, putK_rep V.int hn]
      generalize upd H5 lt (.dK (putK (keyed V.int ds) (kS n) (V.int (dnOf ds n + 1 + m)))) = H6 at drE hlt6 ⊢
      clear drC drD e1 e2 e3 e4 e5 hp1 hp4 h2 hlt4 hj hlt drB
      have bn := dn_bs hbs hn
      generalize hds2 : rep ds n (dnOf ds n + 1 + m) = ds2 at hlt6
      have k2 : ds2.map (·.1) = ds.map (·.1) := by rw [← hds2, rep_keys]
      have hs2 : Has (ds2.map (·.1)) (ws.map (·.1)) t := by rw [k2]; exact fm.has
      have l2 : ds2.length = ds.length := by rw [← hds2, rep_len]
      have d2 : DaysAt H6 lt ds2 := ⟨hlt6, fun q hq => by
        rw [← hds2] at hq
        rcases mem_rep hq with e | hq
        · subst e
          obtain ⟨q, hq, e⟩ := List.mem_map.mp hn
          rw [← e]
          exact hds.2.1 q hq
        · exact hds.2.1 q hq, by have := sz.d1; omega⟩
      have b2 : DBd ds2 := fun q hq => by
        rw [← hds2] at hq
        rcases mem_rep hq with e | hq
        · subst e
          show -1000000000000 ≤ dnOf ds n + 1 + m ∧ dnOf ds n + 1 + m ≤ 1000000000000
          omega
        · exact hdb q hq
      have gT : ∀ r ∈ ws.map (·.1), Good (wdOf wsT r) := fun r hr => drE.wt.good ((hmT r).mpr hr)
      have aft : dayOf (dnOf ds2) (wdOf wsT) t = dayOf (dnOf ds2) (wdOf ws) t := due_congr gw gT onT (fun _ _ => rfl) fm.f hs2
      have lat : due ≤ dayOf (dnOf ds2) (wdOf ws) t := by
        rw [← hdue]
        refine day_mono (N := ds.map (·.1)) (R := ws.map (·.1)) (fun y hy => ?_) gw fm.f fm.has
        rw [← hds2, dn_rep sz.dn hn hy]
        split
        · rename_i e; subst e; omega
        · exact Int.le_refl _
      have atE := ht.mono (drE.tu hp hwd0)
      refine q_asg (v := .int (dayOf (dnOf ds2) (wdOf ws) t)) (ev_is (ev_call (ea_cons (ev_var rfl) (ea_cons (ev_var rfl) (ea_cons (ev_var rfl) ea_nil))) (spv_day_of atE fm.f (by omega) (by omega) d2 drE.world (hs2.sub (fun _ h => h) fun r hr => (hmT r).mpr hr))) (by rw [aft])) fun H7 e7 => ?_
      have drF := drE.ext e7
      refine q_when (b := false) (et_or (a := false) (b := false) (et_is (et_test (ev_op (ev_var rfl) (ev_call (ea_cons (ev_var rfl) (ea_cons (ev_var rfl) (ea_cons (ev_var rfl) ea_nil))) (spv_lday (atE.mono (Tu.ex e7)) fm.f (by omega) (by omega) fm.sm (d2.mono e7) b2 drF.lists hs2)) (rv_ne rfl))) (by simp)) fun _ => et_is (et_test (ev_op (ev_var rfl) (ev_var rfl) rv_I0)) (decide_eq_false (by omega))) (fun z => by cases z) fun _ H8 e8 => ?_
      have drG := drF.ext e8
      clear drE drF e7 e8 d2 atE
      -- a rule served by another Table
      refine asg_k (pickN drG.pot rfl (el_sortedD (ev_var rfl) drG.wd_at (keyE _ _) sz.wn (by rw [List.length_map]; exact sz.w1)) (by rw [List.length_map]; exact nrm_pos (by rw [List.length_map]; exact sz.w0)) (by have := nrm_len (ws.map (·.1)); have := sz.w1; rw [List.length_map] at *; omega) fun j v H9 hj e9 hp9 => ?_)
      obtain ⟨r, rfl, hr'⟩ := get_txt hj
      have hrk := mem_nrm.mp hr'
      have drH := drG.draw e9 hp9
      obtain ⟨c0, hm0, hv0, hwd1⟩ := valV_world hrk
      have hru : r ∈ ruleL := (hlw.at_.2.1 _ hm0).1
      have g0 : Good c0.2 := (hlw.at_.2.1 _ hm0).2.1
      have n0 : Near c0.2 := (hlw.at_.2.1 _ hm0).2.2.1
      have l0 : c0.2.length ≤ 8 := (hlw.raw _ hm0).1
      have c0p : c0.1 ≠ p := fun z => by have := (hlw.raw _ hm0).2; dsimp only at this; rw [z, wo_at] at this; cases this
      have raw0 : ∀ {HX : Hp} {wsX wsY : Ws}, Dr K C p wd tb H HX wsX wsY → HX c0.1 = some (.lst (c0.2.map V.int)) := fun dx => dx.ex _ _ (by
        have h1 := (hlw.raw _ hm0).2
        have h2 : c0.1 ≠ wd := ne_of (wo_ex _ _ h1) hwd0 (fun z => by cases z)
        rw [wo_ne h2]
        exact h1)
      refine q_asg (ev_dget (k := kS r) (ev_var rfl) (ev_var rfl) drH.wd_at hv0) fun H10 e10 => ?_
      have drI := drH.ext e10
      refine q_dput_k (call_k (ac_v (ev_var rfl) fun H11 e11 => ac_nil ⟨p, rfl, (drI.ext e11).pot, fun l1 ns1 H12 hl1 e12 hp12 h12 g1 n1 l8 => ?_⟩))
      have drJ := (drI.ext e11).draw e12 hp12
      obtain ⟨l1p, _, _, _⟩ := (drI.ext e11).new hl1
      refine q_dput_end (ev_var rfl) (ev_var rfl) drJ.wd_at (by rw [keyed_len]; have := sz.w1; omega) fun H13 e13 => ?_
      have drK := (drJ.ext e13).putW htbw hrk hru g1 n1 l8 (by rw [wo_ne l1p]; exact e13 l1 _ h12)
      have hl14 : (upd H13 wd (.dK (putK (keyed wV ws) (kS r) (.ref l1)))) l1 = some (.lst (ns1.map V.int)) := by
        rw [upd_ne (ne_of h12 drJ.wd_at (fun z => by cases z))]
        exact e13 l1 _ h12
      generalize upd H13 wd (.dK (putK (keyed wV ws) (kS r) (.ref l1))) = H14 at drK hl14 ⊢
      clear drG drH drI drJ e9 e10 e11 e12 e13 hp9 hp12 h12 hj hl1
      have hrT : r ∈ wsT.map (·.1) := (hmT r).mpr hrk
      have hv14 : valV (keyed wV (rep ws r (l1, ns1))) (kS r) = some (.ref l1) := by rw [valV_keyed, look_rep sz.wn hrk] <;> rfl
      refine q_dput_k (make_tab (ns := ns1) (ev_dget (k := kS r) (ev_var rfl) (ev_var rfl) drK.wd_at hv14) (.inl hl14) g1 fun y l dx H15 hy hl e15 h15 h15l => ?_)
      have drL := drK.ext e15
      obtain ⟨yp, _, _, _⟩ := drK.new hy
      obtain ⟨lp, _, _, _⟩ := drK.new hl
      refine q_dput_end (ev_var rfl) (ev_var rfl) drL.tb_at (by rw [keyed_len]; have := sz.w1; omega) fun H16 e16 => ?_
      have drM := (drL.ext e16).putT htbw htb0 hrT hru g1 (a := y) ⟨dx, l, by rw [wo_ne yp]; exact e16 y _ h15, sq_of (by rw [wo_ne lp]; exact e16 l _ h15l)⟩
      generalize upd H16 tb (.dK (putK (keyed wV wsT) (kS r) (.ref y))) = H17 at drM ⊢
      clear drK drL e15 e16 h15 h15l hy hl hl14
      have kT : (rep wsT r (y, ns1)).map (·.1) = wsT.map (·.1) := rep_keys
      have kW : (rep ws r (l1, ns1)).map (·.1) = ws.map (·.1) := rep_keys
      have hW : Has (ds.map (·.1)) ((rep ws r (l1, ns1)).map (·.1)) t := by rw [kW]; exact fm.has
      have eq1 : dayOf (dnOf ds) (wdOf (rep wsT r (y, ns1))) t = dayOf (dnOf ds) (wdOf (rep ws r (l1, ns1))) t := by
        refine due_congr (fun z hz => drM.lw.good hz) (fun z hz => drM.wt.good (by rw [kT]; rw [kW] at hz; exact (hmT z).mpr hz)) (fun z hz => ?_) (fun _ _ => rfl) fm.f hW
        rw [kW] at hz
        intro q
        rw [wd_rep hnT hrT ((hmT z).mpr hz), wd_rep sz.wn hrk hz]
        split
        · rfl
        · exact onT z hz q
      have atM := ht.mono (drM.tu hp hwd0)
      have dsM := drM.days hds hdp hdw
      refine q_when (b := false) (et_is (et_test (ev_op (ev_call (ea_cons (ev_var rfl) (ea_cons (ev_var rfl) (ea_cons (ev_var rfl) ea_nil))) (spv_day_of atM fm.f (by omega) (by omega) dsM drM.world (hW.sub (fun _ h => h) fun z hz => by rw [kT]; rw [kW] at hz; exact (hmT z).mpr hz))) (ev_call (ea_cons (ev_var rfl) (ea_cons (ev_var rfl) (ea_cons (ev_var rfl) ea_nil))) (spv_lday atM fm.f (by omega) (by omega) fm.sm dsM hdb drM.lists hW)) (rv_ne rfl))) (by rw [eq1]; simp)) (fun z => by cases z) fun _ H18 e18 => ?_
      have drN := drM.ext e18
      clear drM atM dsM
      -- and back again
      have hrk2 : r ∈ (rep ws r (l1, ns1)).map (·.1) := by rw [kW]; exact hrk
      have hrT2 : r ∈ (rep wsT r (y, ns1)).map (·.1) := by rw [kT]; exact hrT
      refine q_dput_k (v_k (v := .ref c0.1) (ev_var rfl) fun H19 e19 => ?_)
      have drO := drN.ext e19
      refine q_dput_end (ev_var rfl) (ev_var rfl) drO.wd_at (by rw [keyed_len, rep_len]; have := sz.w1; omega) fun H20 e20 => ?_
      have drP := (drO.ext e20).putW (ns := c0.2) htbw hrk2 hru g0 n0 l0 (a := c0.1) (by rw [wo_ne c0p]; exact raw0 (drO.ext e20))
      rw [show rep (rep ws r (l1, ns1)) r (c0.1, c0.2) = ws from rep_back sz.wn hm0] at drP
      generalize upd H20 wd (.dK (putK (keyed wV (rep ws r (l1, ns1))) (kS r) (.ref c0.1))) = H21 at drP ⊢
      clear drN drO e18 e19 e20
      refine q_dput_k (make_tab (ns := c0.2) (ev_var rfl) (.inl (raw0 drP)) g0 fun y2 l2' dx2 H22 hy2 hl2 e22 h22 h22l => ?_)
      have drQ := drP.ext e22
      obtain ⟨y2p, _, _, _⟩ := drP.new hy2
      obtain ⟨l2p, _, _, _⟩ := drP.new hl2
      refine q_dput_end (ev_var rfl) (ev_var rfl) drQ.tb_at (by rw [keyed_len, rep_len]; have := sz.w1; omega) fun H23 e23 => ?_
      have drR := (drQ.ext e23).putT htbw htb0 hrT2 hru g0 (a := y2) ⟨dx2, l2', by rw [wo_ne y2p]; exact e23 y2 _ h22, sq_of (by rw [wo_ne l2p]; exact e23 l2' _ h22l)⟩
      generalize upd H23 tb (.dK (putK (keyed wV (rep wsT r (y, ns1))) (kS r) (.ref y2))) = H24 at drR ⊢
      clear drP drQ e22 e23 h22 h22l hy2 hl2
      have kT3 : (rep (rep wsT r (y, ns1)) r (y2, c0.2)).map (·.1) = wsT.map (·.1) := by rw [rep_keys, kT]
      have hm3 : ∀ z, z ∈ (rep (rep wsT r (y, ns1)) r (y2, c0.2)).map (·.1) ↔ z ∈ ws.map (·.1) := fun z => by rw [kT3]; exact hmT z
      have on3 : ∀ z ∈ ws.map (·.1), OnEq (wdOf (rep (rep wsT r (y, ns1)) r (y2, c0.2)) z) (wdOf ws z) := fun z hz q => by
        have hzT := (hmT z).mpr hz
        rw [wd_rep (by rw [kT]; exact hnT) hrT2 (by rw [kT]; exact hzT)]
        split
        · rename_i e; subst e; rw [hwd1]
        · rename_i e
          rw [wd_rep hnT hrT hzT, if_neg e]
          exact onT z hz q
      have atR := ht.mono (drR.tu hp hwd0)
      have dsR := drR.days hds hdp hdw
      refine s_ret (v := .bl true) (ev_andV (a := true) (b := true) (ev_is (ev_op (told atR dsR drR.world hm3 on3 rfl rfl rfl) (ev_var rfl) (rv_eq rfl)) (by simp)) fun _ => ev_is (ev_op (ev_shown (ev_var rfl) atR fm.f fm.sm (by omega) (by omega) (ev_var rfl) dsR hdb) (ev_var rfl) (rv_eq rfl)) (by simp)) fun H25 e25 => ?_
      have drS := drR.ext e25
      exact k H25 (ex_back drS.ex hwd0 drS.wd_at) drS.pot
end
end K22
end
section
set_option maxHeartbeats 8000000
namespace K22
open PySem L2 Evl G TM TD
def sp_facts_right (K : PySem.W.Frag) : Sp := fun vs H Q _ => ∃ (p : Addr) (x : V) (d wd : Addr) (t : Td) (ds : Ds) (ws : Ws), vs = [.ref p, x, .ref d, .ref wd] ∧ PotAt H p ∧ At H x t ∧ Fml ds ws t ∧ Sz ds ws ∧ DaysAt H d ds ∧ DBs ds ∧ LwAt K (wo H p) wd ws ∧
  ∀ H2, Ex (wo H p) H2 → PotAt H2 p → Q (.bl true) H2
section
variable {K : PySem.W.Frag} {σ : L2.St} {H : Hp} {C d b : Addr} {te : TE} {E : XK} {i j l : Nat} {tA : TA} {D : Ends} {tz : TS} {ds : Ds} {ws : Ws} {t : Td}
theorem par3_k (h : tA σ H fun vs H1 => ∃ u v w, vs = [u, v, w] ∧ tz D (((σ.set i (some u)).set j (some v)).set l (some w)) H1) : tSeq (tPar3 i j l tA) tz D σ H := h
/-- day_of of what is told just now -/
theorem ev_dayT (h : EvTd te σ H t) (k : IsF t) (hd : depth t < 10) (hz : (pcs t).length ≤ 60) (a : DaysAt H d ds) (w : WorldAt K C H b ws) (c : Has (ds.map (·.1)) (ws.map (·.1)) t) (q1 : σ[i]? = some (some (.ref d))) (q2 : σ[j]? = some (some (.ref b))) :
    Ev (tCall (sp_day_of K C) [] E (tCons te (tCons (tVar i) (tCons (tVar j) tNil)))) σ H (.int (dayOf (dnOf ds) (wdOf ws) t)) := fun H1 e Q q =>
  call_k (ac_k (h H1 e _ fun v H2 e2 hat => ac_v (ev_var q1) fun H3 e3 => ac_v (ev_var q2) fun H4 e4 => ac_nil (spv_day_of (hat.mono (Tu.ex (e3.trans e4))) k hd hz (a.mono (e.trans (e2.trans (e3.trans e4)))) (w.mono (e.trans (e2.trans (e3.trans e4)))) c H4 (Ex.refl _) _ (fun H5 e5 => q H5 ((e2.trans (e3.trans e4)).trans e5)) _)))
end
section
variable {P : Program} {w : World} {K : PySem.W.Frag} {mg : Str → Option Value} {base : Heap} {C SZ SY : Addr}
theorem ok_facts_right {f f1 f2 f5 f7 : Addr} {fd fd1 fd2 fd5 fd7 : FuncData} (F : Fun K "_law_facts_right" "_law_facts_right" s__law_facts_right f fd) (T : Txt P w K mg C SZ SY)
    (c__law_tables : Cal P w K mg base "_law_tables" f1 fd1 ["_law_world_here"] 5 (sp_tables K C)) (c__law_day : Cal P w K mg base "_law_day" f2 fd2 ["_law_formula_here", "_law_days_here", "_law_world_here"] 13 (sp_lday K 10)) (c_day_of : Cal P w K mg base "day_of" f5 fd5 ["formula", "days", "world"] 16 (sp_day_of K C)) (c__law_pick : Cal P w K mg base "_law_pick" f7 fd7 ["_law_pot_here", "_law_some_here"] 2 (sp_pick K)) :
    FnOk P w K mg base CX0 18 f fd ["_law_pot_here", "_law_formula_here", "_law_days_here", "_law_world_here"] (sp_facts_right K) := by
  refine F.ok sc__law_facts_right (fun vs H Q E h => ?_) (fun cdv A outer s H vs Q E hr h => ?_)
  · obtain ⟨p, x, d, wd, t, ds, ws, rfl, _⟩ := h
    rfl
  · obtain ⟨p, x, d, wd, t, ds, ws, rfl, hp, ht, fm, sz, hds, hbs, hlw, k⟩ := h
    refine ⟨_, (pss_cons (ps_par3 (i := 4) (j := 5) (l := 6) (by rfl) sc__law_facts_right.nd rfl rfl rfl (by decide) (by decide) (by decide) rfl rfl rfl (pa_cons (pe_call c__law_tables.ok (hr.mono (by decide)) (by rfl) c__law_tables.mgx c__law_tables.kp c__law_tables.bd .nil pass0 (pa_cons (pv 3) pa_nil)) (pa_cons (pe_call c__law_day.ok (hr.mono (by decide)) (by rfl) c__law_day.mgx c__law_day.kp c__law_day.bd .nil pass0 (pa_cons (pv 1) (pa_cons (pv 2) (pa_cons (pv 3) pa_nil)))) (pa_cons (pe_call c__law_pick.ok (hr.mono (by decide)) (by rfl) c__law_pick.mgx c__law_pick.kp c__law_pick.bd .nil pass0 (pa_cons (pv 0) (pa_cons (pe_callB (call_sortedD rfl) (by rfl) T.b_sorted (by decide +kernel) (pa_cons (pv 3) pa_nil)) pa_nil))) pa_nil))) (by rfl)) (pss_cons (ps_if (pt_cmpR op_gt (pe_call c_day_of.ok (hr.mono (by decide)) (by rfl) c_day_of.mgx c_day_of.kp c_day_of.bd .nil pass0 (pa_cons (pe_tup (pa_cons pe_str (pa_cons (pv 6) (pa_cons (pe_tup (pa_cons pe_str (pa_cons (pv 6) (pa_cons (pv 1) pa_nil)))) pa_nil)))) (pa_cons (pv 2) (pa_cons (pv 4) pa_nil)))) (pv 5) (nomark _)) (pss_one (ps_ret pe_bl)) pss_nil) (pss_cons (ps_if (pt_cmpR op_lt (pe_call c_day_of.ok (hr.mono (by decide)) (by rfl) c_day_of.mgx c_day_of.kp c_day_of.bd .nil pass0 (pa_cons (pe_tup (pa_cons pe_str (pa_cons (pv 6) (pa_cons (pe_tup (pa_cons pe_str (pa_cons (pv 6) (pa_cons (pv 1) pa_nil)))) pa_nil)))) (pa_cons (pv 2) (pa_cons (pv 4) pa_nil)))) (pv 5) (nomark _)) (pss_one (ps_ret pe_bl)) pss_nil) (pss_cons (ps_if (pt_cmpR op_lt (pe_call c_day_of.ok (hr.mono (by decide)) (by rfl) c_day_of.mgx c_day_of.kp c_day_of.bd .nil pass0 (pa_cons (pe_tup (pa_cons pe_str (pa_cons (pv 6) (pa_cons (pe_tup (pa_cons pe_str (pa_cons (pv 6) (pa_cons (pv 1) pa_nil)))) pa_nil)))) (pa_cons (pv 2) (pa_cons (pv 4) pa_nil)))) (pv 5) (nomark _)) (pss_one (ps_ret pe_bl)) pss_nil) (pss_cons (ps_if (pt_cmpR op_gt (pe_call c_day_of.ok (hr.mono (by decide)) (by rfl) c_day_of.mgx c_day_of.kp c_day_of.bd .nil pass0 (pa_cons (pe_tup (pa_cons pe_str (pa_cons (pv 6) (pa_cons (pe_tup (pa_cons pe_str (pa_cons (pv 6) (pa_cons (pv 1) pa_nil)))) pa_nil)))) (pa_cons (pv 2) (pa_cons (pv 4) pa_nil)))) (pv 5) (nomark _)) (pss_one (ps_ret pe_bl)) pss_nil) (pss_cons (ps_set (i := 7) sc__law_facts_right.nd rfl (Or.inl rfl) (pe_call c_day_of.ok (hr.mono (by decide)) (by rfl) c_day_of.mgx c_day_of.kp c_day_of.bd .nil pass0 (pa_cons (pe_tup (pa_cons pe_str (pa_cons (pv 6) (pa_cons (pe_tup (pa_cons pe_str (pa_cons pe_int (pa_cons (pv 1) pa_nil)))) pa_nil)))) (pa_cons (pv 2) (pa_cons (pv 4) pa_nil))))) (pss_one (ps_ret (pe_cmpR op_eq (pe_call c_day_of.ok (hr.mono (by decide)) (by rfl) c_day_of.mgx c_day_of.kp c_day_of.bd .nil pass0 (pa_cons (pe_tup (pa_cons pe_str (pa_cons pe_int (pa_cons (pe_tup (pa_cons pe_str (pa_cons (pv 6) (pa_cons (pv 1) pa_nil)))) pa_nil)))) (pa_cons (pv 2) (pa_cons (pv 4) pa_nil)))) (pv 7) (nomark _)))))))))), ?_⟩
    obtain ⟨o0, ho0⟩ := hp.some
    have hwd0 : H wd = some (.dK (keyed wV ws)) := wo_ex _ _ hlw.at_.1
    have hdp : d ≠ p := by
      obtain ⟨_, _, _, q⟩ := hp
      rintro rfl
      rw [hds.1] at q
      cases q
    have hdw : d ≠ wd := days_ne hds sz.d0 hwd0
    have hdb := hbs.bd
    have hdp1 := fm.dp
    have hsz1 := fm.sz
    have gw : ∀ r ∈ ws.map (·.1), Good (wdOf ws r) := fun r hr => hlw.good hr
    refine par3_k (ac_k (call_k (ac_v (ev_var rfl) fun H1 e1 => ac_nil ⟨wd, ws, rfl, (hlw.at_.mono (wo_ex.trans e1)), fun q hq => e1 _ _ (wo_ex _ _ (hlw.raw q hq).2), sz.wn, sz.w1, fun tb wsT H2 htb e2 hwT hnT hmT hwdT hlT => ?_⟩)))
    have e02 := e1.trans e2
    refine ac_v (ev_call (ea_cons (ev_var rfl) (ea_cons (ev_var rfl) (ea_cons (ev_var rfl) ea_nil))) (spv_lday (ht.mono (Tu.ex e02)) fm.f (by omega) (by omega) fm.sm (hds.mono e02) hdb (hlw.at_.mono (wo_ex.trans e02)) fm.has)) fun H3 e3 => ?_
    have e03 := e02.trans e3
    have dr3 : Dr K C p wd tb H H3 ws wsT := ⟨hp.mono e03, wo_ex.trans (wo_ex.trans e03), hlw.mono (wo_mono e03), (hwT p (by rw [e1 p _ ho0]; exact fun z => by cases z)).mono (wo_mono e3)⟩
    refine ac_k (pickN dr3.pot rfl (el_sortedD (ev_var rfl) dr3.wd_at (by rw [keyed_keys, List.map_map]; rfl) sz.wn (by rw [List.length_map]; exact sz.w1)) (by rw [List.length_map]; exact nrm_pos (by rw [List.length_map]; exact sz.w0)) (by have := nrm_len (ws.map (·.1)); have := sz.w1; rw [List.length_map] at *; omega) fun j v H4 hj e4 hp4 => ac_nil ⟨_, _, _, rfl, ?_⟩)
    obtain ⟨r, rfl, hr'⟩ := get_txt hj
    have hrk := mem_nrm.mp hr'
    have drA := dr3.draw e4 hp4
    have hru : r ∈ ruleL := by obtain ⟨c0, hm0, _, _⟩ := valV_world hrk; exact (hlw.at_.2.1 _ hm0).1
    clear dr3 hwT e1 e2 e3 e02 e03 e4 hj hp4
    have gT : Good (wdOf wsT r) := drA.wt.good ((hmT r).mpr hrk)
    have duT : dayOf (dnOf ds) (wdOf wsT) t = dayOf (dnOf ds) (wdOf ws) t := due_congr gw (fun z hz => drA.wt.good ((hmT z).mpr hz)) (fun z hz q => by rw [hwdT z hz]) (fun _ _ => rfl) fm.f fm.has
    generalize dayOf (dnOf ds) (wdOf ws) t = due at duT ⊢
    generalize hns : wdOf wsT r = ns at gT
    have hasT : Has (ds.map (·.1)) (wsT.map (·.1)) t := fm.has.sub (fun _ h => h) fun z hz => (hmT z).mpr hz
    have hrT : r ∈ wsT.map (·.1) := (hmT r).mpr hrk
    -- a turn of a turn of the formula, asked
    have turn : ∀ {HX : Hp} {w1 w2 : Str} {u1 u2 : V} {a1 a2 : TE} {σ : L2.St} {E : XK}, Dr K C p wd tb H HX ws wsT → IsF (.ov w1 u1 (.ov w2 u2 t)) → (∀ z, u1 = .str z → z = r) → (∀ z, u2 = .str z → z = r) → Ev a1 σ HX u1 → Ev a2 σ HX u2 → σ[1]? = some (some x) → σ[2]? = some (some (.ref d)) → σ[4]? = some (some (.ref tb)) →
        Ev (tCall (sp_day_of K C) [] E (tCons (tTup (tCons (tC (.str w1)) (tCons a1 (tCons (tTup (tCons (tC (.str w2)) (tCons a2 (tCons (tVar 1) tNil)))) tNil)))) (tCons (tVar 2) (tCons (tVar 4) tNil)))) σ HX (.int (dayOf (dnOf ds) (wdOf wsT) (.ov w1 u1 (.ov w2 u2 t)))) := fun {HX w1 w2 u1 u2 a1 a2 σ E} dr hF h1 h2 v1 v2 q1 q2 q3 => by
      have hat := ht.mono (dr.tu hp hwd0)
      refine ev_dayT (etd_ov ev_c v1 (etd_ov ev_c v2 (etd_ref (ev_var q1) hat))) hF (by show depth t + 1 + 1 < 10; omega) ?_ (dr.days hds hdp hdw) dr.world ⟨fun z e => by rw [h1 z e]; exact hrT, fun z e => by rw [h2 z e]; exact hrT, hasT⟩ q2 q3
      have e1 : (pcs (Td.ov w1 u1 (.ov w2 u2 t))).length = 2 + (pcs t).length := by show (_ :: _ :: pcs t).length = _; rw [List.length_cons, List.length_cons]; omega
      omega
    have isT : ∀ {w1 w2 : Str}, w1 ∈ turnL → w2 ∈ turnL → IsF (.ov w1 (.str r) (.ov w2 (.str r) t)) := fun h1 h2 => ⟨.inl ⟨h1, r, hru, rfl⟩, .inl ⟨h2, r, hru, rfl⟩, fm.f⟩
    have one : ∀ z : Str, V.str r = .str z → z = r := fun z e => by cases e; rfl
    have no : ∀ (i : Int) (z : Str), V.int i = .str z → z = r := fun i z e => by cases e
    have d1 : dayOf (dnOf ds) (wdOf wsT) (.ov "on" (.str r) (.ov "til" (.str r) t)) = onL ns (tilL ns due) := by
      show onL (wdOf wsT r) (tilL (wdOf wsT r) (dayOf (dnOf ds) (wdOf wsT) t)) = _
      rw [hns, duT]
    have d2 : dayOf (dnOf ds) (wdOf wsT) (.ov "on" (.str r) (.ov "by" (.str r) t)) = onL ns (byL ns due) := by
      show onL (wdOf wsT r) (byL (wdOf wsT r) (dayOf (dnOf ds) (wdOf wsT) t)) = _
      rw [hns, duT]
    have d3 : dayOf (dnOf ds) (wdOf wsT) (.ov "til" (.str r) (.ov "on" (.str r) t)) = tilL ns (onL ns due) := by
      show tilL (wdOf wsT r) (onL (wdOf wsT r) (dayOf (dnOf ds) (wdOf wsT) t)) = _
      rw [hns, duT]
    have d4 : dayOf (dnOf ds) (wdOf wsT) (.ov "by" (.str r) (.ov "on" (.str r) t)) = byL ns (onL ns due) := by
      show byL (wdOf wsT r) (onL (wdOf wsT r) (dayOf (dnOf ds) (wdOf wsT) t)) = _
      rw [hns, duT]
    have d5 : dayOf (dnOf ds) (wdOf wsT) (.ov "by" (.str r) (.ov "add" (.int 1) t)) = byL ns (due + 1) := by
      show byL (wdOf wsT r) (dayOf (dnOf ds) (wdOf wsT) t + 1) = _
      rw [hns, duT]
    have d6 : dayOf (dnOf ds) (wdOf wsT) (.ov "add" (.int 1) (.ov "til" (.str r) t)) = byL ns (due + 1) := by
      show tilL (wdOf wsT r) (dayOf (dnOf ds) (wdOf wsT) t) + 1 = _
      rw [hns, duT]
      unfold tilL
      omega
    have f1 : onL ns (tilL ns due) ≤ due := (til_le gT).mp (Int.le_refl _)
    have f2 : due ≤ onL ns (byL ns due) := (by_le gT).mp (Int.le_refl _)
    have f3 : due ≤ tilL ns (onL ns due) := (til_le gT).mpr (Int.le_refl _)
    have f4 : byL ns (onL ns due) ≤ due := (by_le gT).mpr (Int.le_refl _)
    refine q_when (b := false) (et_is (et_test (ev_op (turn drA (isT (by decide) (by decide)) one one (ev_var rfl) (ev_var rfl) rfl rfl rfl) (ev_var rfl) rv_I0)) (decide_eq_false (by rw [d1]; omega))) (fun z => by cases z) fun _ H5 e5 => ?_
    have drB := drA.ext e5
    refine q_when (b := false) (et_is (et_test (ev_op (turn drB (isT (by decide) (by decide)) one one (ev_var rfl) (ev_var rfl) rfl rfl rfl) (ev_var rfl) rv_I0)) (decide_eq_false (by rw [d2]; omega))) (fun z => by cases z) fun _ H6 e6 => ?_
    have drC := drB.ext e6
    refine q_when (b := false) (et_is (et_test (ev_op (turn drC (isT (by decide) (by decide)) one one (ev_var rfl) (ev_var rfl) rfl rfl rfl) (ev_var rfl) rv_I0)) (decide_eq_false (by rw [d3]; omega))) (fun z => by cases z) fun _ H7 e7 => ?_
    have drD := drC.ext e7
    refine q_when (b := false) (et_is (et_test (ev_op (turn drD (isT (by decide) (by decide)) one one (ev_var rfl) (ev_var rfl) rfl rfl rfl) (ev_var rfl) rv_I0)) (decide_eq_false (by rw [d4]; omega))) (fun z => by cases z) fun _ H8 e8 => ?_
    have drE := drD.ext e8
    refine q_asg (turn drE ⟨.inl ⟨by decide, r, hru, rfl⟩, .inr ⟨rfl, 1, rfl⟩, fm.f⟩ one (no 1) (ev_var rfl) ev_c rfl rfl rfl) fun H9 e9 => ?_
    have drF := drE.ext e9
    refine s_ret (v := .bl true) (ev_is (ev_op (turn drF ⟨.inr ⟨rfl, 1, rfl⟩, .inl ⟨by decide, r, hru, rfl⟩, fm.f⟩ (no 1) one ev_c (ev_var rfl) rfl rfl rfl) (ev_var rfl) (rv_eq rfl)) (by rw [d5, d6]; simp)) fun H10 e10 => ?_
    have drG := drF.ext e10
    exact k H10 (ex_back drG.ex hwd0 drG.wd_at) drG.pot
end
end K22
end
section
set_option maxHeartbeats 8000000
namespace K22
open PySem L2 Evl G TM TD
/-- a drawn saying, small enough -/
structure Sml (ds : Ds) (ws : Ws) (t : Td) : Prop where
  f : IsS t
  has : Has (ds.map (·.1)) (ws.map (·.1)) t
  dp : depth t ≤ 5
  sz : (pcs t).length ≤ 58
  sm : Small t
/-- what stands all along while days change -/
structure Sa (K : PySem.W.Frag) (C p wd tb d : Addr) (H0 H : Hp) (ds : Ds) (ws wsT : Ws) : Prop where
  pot : PotAt H p
  ex : Ex (wo (wo H0 p) d) H
  da : DaysAt H d ds
  bs : DBs ds
  lw : LwAt K (wo H p) wd ws
  wt : WorldAt K C (wo H p) tb wsT
section
variable {K : PySem.W.Frag} {C p wd tb d a : Addr} {H0 H H' : Hp} {ws wsT : Ws} {ds : Ds} {n : Str} {i : Int}
theorem Sa.ext (h : Sa K C p wd tb d H0 H ds ws wsT) (e : Ex H H') : Sa K C p wd tb d H0 H' ds ws wsT := ⟨h.pot.mono e, h.ex.trans e, h.da.mono e, h.bs, h.lw.mono (wo_mono e), h.wt.mono (wo_mono e)⟩
theorem Sa.dp (h : Sa K C p wd tb d H0 H ds ws wsT) : d ≠ p := by
  obtain ⟨_, _, _, q⟩ := h.pot
  rintro rfl
  rw [h.da.1] at q
  cases q
theorem Sa.draw (h : Sa K C p wd tb d H0 H ds ws wsT) (e : Ex (wo H p) H') (hp : PotAt H' p) : Sa K C p wd tb d H0 H' ds ws wsT := ⟨hp, wo2_tr h.ex e, ⟨e d _ (by rw [wo_ne h.dp]; exact h.da.1), h.da.2⟩, h.bs, h.lw.mono (wo_sub e), h.wt.mono (wo_sub e)⟩
theorem Sa.putD (h : Sa K C p wd tb d H0 H ds ws wsT) (hw : wd ≠ d) (ht : tb ≠ d) (hn : n ∈ ds.map (·.1)) (b : -200000000000 ≤ i ∧ i ≤ 200000000000) : Sa K C p wd tb d H0 (upd H d (.dK (putK (keyed V.int ds) (kS n) (.int i)))) (rep ds n i) ws wsT := by
  refine ⟨pot_off h.pot (Ne.symm h.dp), fun c u hc => ?_, ⟨?_, fun q hq => ?_, by rw [rep_len]; exact h.da.2.2⟩, fun q hq => ?_, h.lw.off h.dp h.da.1 hw, h.wt.off h.dp h.da.1 ht⟩
  · have : c ≠ d := fun z => by subst z; rw [wo_at] at hc; cases hc
    rw [upd_ne this]
    exact h.ex c u hc
  · rw [upd_same, ← putK_rep V.int hn]
  · rcases mem_rep hq with e | hq
    · subst e
      obtain ⟨q, hq, e⟩ := List.mem_map.mp hn
      rw [← e]
      exact h.da.2.1 q hq
    · exact h.da.2.1 q hq
  · rcases mem_rep hq with e | hq
    · subst e; exact b
    · exact h.bs q hq
theorem Sa.tu (h : Sa K C p wd tb d H0 H ds ws wsT) (hp : PotAt H0 p) {kvs : List (Key × V)} (hd : H0 d = some (.dK kvs)) : Tu H0 H := fun b xs hb => by
  obtain ⟨_, _, _, q⟩ := hp
  have h1 : b ≠ p := fun z => by subst z; rw [q] at hb; cases hb
  have h2 : b ≠ d := fun z => by subst z; rw [hd] at hb; cases hb
  exact h.ex b _ (by rw [wo_ne h2, wo_ne h1]; exact hb)
theorem Sa.lists (h : Sa K C p wd tb d H0 H ds ws wsT) : ListsAt K H wd ws := h.lw.at_.mono wo_ex
theorem Sa.world (h : Sa K C p wd tb d H0 H ds ws wsT) : WorldAt K C H tb wsT := h.wt.mono wo_ex
end
section
variable {K : PySem.W.Frag} {σ : L2.St} {H : Hp} {C d b l : Addr} {te ta : TE} {E : XK} {i j : Nat} {D : Ends} {tz : TS} {ds : Ds} {ws : Ws} {t : Td} {xs : List V}
/-- holds of what is told just now -/
theorem ev_holdsT (h : EvTd te σ H t) (k : IsS t) (hd : depth t < 10) (hz : (pcs t).length ≤ 60) (a : DaysAt H d ds) (w : WorldAt K C H b ws) (c : Has (ds.map (·.1)) (ws.map (·.1)) t) (q1 : σ[i]? = some (some (.ref d))) (q2 : σ[j]? = some (some (.ref b))) :
    Ev (tCall (sp_holds K C) [] E (tCons te (tCons (tVar i) (tCons (tVar j) tNil)))) σ H (.bl (soOf (dnOf ds) (wdOf ws) t)) := fun H1 e Q q =>
  call_k (ac_k (h H1 e _ fun v H2 e2 hat => ac_v (ev_var q1) fun H3 e3 => ac_v (ev_var q2) fun H4 e4 => ac_nil (spv_holds (hat.mono (Tu.ex (e3.trans e4))) k hd hz (a.mono (e.trans (e2.trans (e3.trans e4)))) (w.mono (e.trans (e2.trans (e3.trans e4)))) c H4 (Ex.refl _) _ (fun H5 e5 => q H5 ((e2.trans (e3.trans e4)).trans e5)) _)))
theorem q_app_k (ha : Ev ta σ H (.ref l)) (hl : H l = some (.lst xs)) (h : ∀ H1, Ex H H1 → te σ H1 fun v H2 => ∃ (l' : Addr) (xs' : List V) (v' : V), V.ref l = .ref l' ∧ [v] = [v'] ∧ H2 l' = some (.lst xs') ∧ xs'.length < sizeLine ∧ tz D σ (upd H2 l' (.lst (xs' ++ [v'])))) : tSeq (tDrop (tBM K "list" rAppend ta (tCons te tNil))) tz D σ H := ha H (Ex.refl H) _ fun H1 e1 =>
  ⟨Or.inl ⟨rfl, xs, sq_of (e1 l _ hl)⟩, h H1 e1⟩
end
def dBs (b : Bool) : PyData := .list [.bool b, .bool (!b), .bool b, .bool b]
theorem can_dBs (b : Bool) : (dBs b).canLay0 = true := by simp [dBs, PyData.canLay0, PyData.canLayAll0]
theorem shaped_dBs (b : Bool) : SeqAt.shaped (dBs b) = true := shaped_of (can_dBs b) (by simp [dBs, PyData.depth, PyData.depthAll])
def sp_sayings_right (K : PySem.W.Frag) : Sp := fun vs H Q _ => ∃ (p : Addr) (x : V) (d wd : Addr) (t : Td) (ds : Ds) (ws : Ws), vs = [.ref p, x, .ref d, .ref wd] ∧ PotAt H p ∧ At H x t ∧ Sml ds ws t ∧ Sz ds ws ∧ DaysAt H d ds ∧ DBs ds ∧ LwAt K (wo H p) wd ws ∧
  ∀ H2, Ex (wo (wo H p) d) H2 → Q (.bl true) H2
section
variable {P : Program} {w : World} {K : PySem.W.Frag} {mg : Str → Option Value} {base : Heap} {C SZ SY : Addr}
theorem ok_sayings_right {f f1 f2 f3 f4 f5 f7 f8 : Addr} {fd fd1 fd2 fd3 fd4 fd5 fd7 fd8 : FuncData} (F : Fun K "_law_sayings_right" "_law_sayings_right" s__law_sayings_right f fd) (T : Txt P w K mg C SZ SY)
    (c__law_tables : Cal P w K mg base "_law_tables" f1 fd1 ["_law_world_here"] 5 (sp_tables K C)) (c__law_is_so : Cal P w K mg base "_law_is_so" f2 fd2 ["_law_saying_here", "_law_days_here", "_law_world_here"] 24 (sp_lso K 10)) (c__law_other_tables : Cal P w K mg base "_law_other_tables" f3 fd3 ["_law_pot_here", "_law_tables_here"] 7 (sp_other K C))
    (c__law_turned : Cal P w K mg base "_law_turned" f4 fd4 ["_law_some_here"] 1 sp_turned) (c_holds : Cal P w K mg base "holds" f5 fd5 ["saying", "days", "world"] 27 (sp_holds K C)) (c__law_pick : Cal P w K mg base "_law_pick" f7 fd7 ["_law_pot_here", "_law_some_here"] 2 (sp_pick K)) (c__law_draw : Cal P w K mg base "_law_draw" f8 fd8 ["_law_pot_here", "_law_many"] 1 sp_draw)
    (kb_holds_world_days_saying : KBn K fd5 ["saying", "days", "world"] 0 ["world", "days", "saying"] (fun us ws => us ++ ws.reverse) (fun vs zs => vs ++ zs.reverse)) :
    FnOk P w K mg base CX0 29 f fd ["_law_pot_here", "_law_saying_here", "_law_days_here", "_law_world_here"] (sp_sayings_right K) := by
  refine F.ok sc__law_sayings_right (fun vs H Q E h => ?_) (fun cdv A outer s H vs Q E hr h => ?_)
  · obtain ⟨p, x, d, wd, t, ds, ws, rfl, _⟩ := h
    rfl
  · obtain ⟨p, x, d, wd, t, ds, ws, rfl, hp, ht, fm, sz, hds, hbs, hlw, k⟩ := h
    refine ⟨_, (pss_cons (ps_set (i := 4) sc__law_sayings_right.nd rfl (Or.inl rfl) (pe_call c__law_tables.ok (hr.mono (by decide)) (by rfl) c__law_tables.mgx c__law_tables.kp c__law_tables.bd .nil pass0 (pa_cons (pv 3) pa_nil))) (pss_cons (ps_for PassesOwn.never rfl (pi_range1 (by rfl) T.b_range (pa_cons pe_int pa_nil)) (pg_name (i := 5) sc__law_sayings_right.nd rfl (Or.inl rfl)) (pss_cons (ps_set (i := 6) sc__law_sayings_right.nd rfl (Or.inl rfl) (pe_call c__law_is_so.ok (hr.mono (by decide)) (by rfl) c__law_is_so.mgx c__law_is_so.kp c__law_is_so.bd .nil pass0 (pa_cons (pv 1) (pa_cons (pv 2) (pa_cons (pv 3) pa_nil))))) (pss_cons (ps_set (i := 7) sc__law_sayings_right.nd rfl (Or.inl rfl) (pe_lst (pa_cons (pe_call c_holds.ok (hr.mono (by decide)) (by rfl) c_holds.mgx c_holds.kp c_holds.bd .nil pass0 (pa_cons (pv 1) (pa_cons (pv 2) (pa_cons (pv 4) pa_nil)))) (pa_cons (pe_call c_holds.ok (hr.mono (by decide)) (by rfl) c_holds.mgx c_holds.kp c_holds.bd .nil pass0 (pa_cons (pe_tup (pa_cons pe_str (pa_cons (pv 1) pa_nil))) (pa_cons (pv 2) (pa_cons (pv 4) pa_nil)))) pa_nil)))) (pss_cons (ps_expr (pe_bm PySem.F.plainAttrs_list PySem.F.slot_list_append PySem.F.type_list_append mt_append (pv 7) (pa_cons (pe_call c_holds.ok (hr.mono (by decide)) (by rfl) c_holds.mgx c_holds.kp c_holds.bd .nil pass0 (pa_cons (pv 1) (pa_cons (pe_call c__law_turned.ok (hr.mono (by decide)) (by rfl) c__law_turned.mgx c__law_turned.kp c__law_turned.bd .nil pass0 (pa_cons (pv 2) pa_nil)) (pa_cons (pe_call c__law_other_tables.ok (hr.mono (by decide)) (by rfl) c__law_other_tables.mgx c__law_other_tables.kp c__law_other_tables.bd .nil pass0 (pa_cons (pv 0) (pa_cons (pv 4) pa_nil))) pa_nil)))) pa_nil))) (pss_cons (ps_expr (pe_bm PySem.F.plainAttrs_list PySem.F.slot_list_append PySem.F.type_list_append mt_append (pv 7) (pa_cons (pe_callN0 c_holds.ok (hr.mono (by decide)) (by rfl) c_holds.mgx c_holds.kp kb_holds_world_days_saying pass0 (pk_cons (pv 4) (pk_cons (pv 2) (pk_cons (pv 1) pk_nil)))) pa_nil))) (pss_cons (ps_if (PW.pt (pw_or (pt_cmpR (neD (K := K) rfl hr.units) (pv 7) (pe_lst (pa_cons (pv 6) (pa_cons (pe_not (pv 6)) (pa_cons (pv 6) (pa_cons (pv 6) pa_nil))))) (nomark _)) (pw_or1 (pt_not (pt_val (pe_callB (allL (K := K) rfl rfl) (by rfl) T.b_all (by decide +kernel) (pa_cons (pe_lc (own := [("_law_one", 8)]) (g := (gName 8)) (by rfl) sc__law_sayings_right.nd (piL (K := K) rfl (pv 7)) (blkOk_by (own := [("_law_one", 8)]) (N := ["_law_pot_here", "_law_saying_here", "_law_days_here", "_law_world_here", "_law_tables_here", "_law_turn", "_law_due", "_law_told", "_law_one"]) (sc := defScope s__law_sayings_right) (by decide +kernel)) (fun _ _ _ _ _ => (pg_name (i := 8) sc__law_sayings_right.nd rfl (Or.inl rfl))) (fun _ _ _ _ _ => pts_nil) (fun _ _ _ _ _ => (pe_callB (isiS (K := K) rfl) (by rfl) T.b_isinstance (by decide +kernel) (pa_cons (pv 8) (pa_cons (pe_bltn (v := .ty "bool") (u := .type "bool") (by rfl) T.b_bool (by decide +kernel) rfl) pa_nil))))) pa_nil))))))) (pss_one (ps_ret pe_bl)) pss_nil) (pss_one (ps_dputR hr.units (pv 2) (pe_call c__law_pick.ok (hr.mono (by decide)) (by rfl) c__law_pick.mgx c__law_pick.kp c__law_pick.bd .nil pass0 (pa_cons (pv 0) (pa_cons (pe_callB (call_sortedD rfl) (by rfl) T.b_sorted (by decide +kernel) (pa_cons (pv 2) pa_nil)) pa_nil))) (pe_op op_sub (pe_call c__law_draw.ok (hr.mono (by decide)) (by rfl) c__law_draw.mgx c__law_draw.kp c__law_draw.bd .nil pass0 (pa_cons (pv 0) (pa_cons pe_int pa_nil))) pe_int) (by rfl))))))))) (pss_one (ps_ret pe_bl)))), ?_⟩
    obtain ⟨o0, ho0⟩ := hp.some
    have hwd0 : H wd = some (.dK (keyed wV ws)) := wo_ex _ _ hlw.at_.1
    have hdw : d ≠ wd := days_ne hds sz.d0 hwd0
    have hdp1 := fm.dp
    have hsz1 := fm.sz
    have gw : ∀ r ∈ ws.map (·.1), Good (wdOf ws r) := fun r hr => hlw.good hr
    refine asg_k (call_k (ac_v (ev_var rfl) fun H1 e1 => ac_nil ⟨wd, ws, rfl, (hlw.at_.mono (wo_ex.trans e1)), fun q hq => e1 _ _ (wo_ex _ _ (hlw.raw q hq).2), sz.wn, sz.w1, fun tb wsT H2 htb e2 hwT hnT hmT hwdT hlT => ?_⟩))
    have e02 := e1.trans e2
    have htb0 : H tb = none := fresh_back e1 htb
    have htbd : tb ≠ d := by rintro rfl; rw [hds.1] at htb0; cases htb0
    have sa2 : Sa K C p wd tb d H H2 ds ws wsT := ⟨hp.mono e02, wo_ex.trans (wo_ex.trans e02), hds.mono e02, hbs, hlw.mono (wo_mono e02), hwT p (by rw [e1 p _ ho0]; exact fun z => by cases z)⟩
    have onT : ∀ r ∈ ws.map (·.1), OnEq (wdOf wsT r) (wdOf ws r) := fun r hr y => by rw [hwdT r hr]
    have h8T : ∀ q ∈ wsT, q.2.2.length ≤ 8 := fun q hq => by
      have hk : q.1 ∈ ws.map (·.1) := (hmT _).mp (List.mem_map.mpr ⟨q, hq, rfl⟩)
      have h1 := wdOf_mem hnT (x := q.1) (c := q.2) hq
      rw [hwdT _ hk] at h1
      obtain ⟨c, hc, _, hc2⟩ := valV_world hk
      rw [← h1, hc2]
      exact (hlw.raw _ hc).1
    clear hwT e1 e2 e02 htb htb0
    refine q_forR1 (n := 4) (ea_cons ev_c ea_nil) (by omega) (fun i σ' H' => ∃ (o5 o6 o7 o8 : Option V) (di : Ds), σ' = [some (.ref p), some x, some (.ref d), some (.ref wd), some (.ref tb), o5, o6, o7, o8] ∧ Sa K C p wd tb d H H' di ws wsT ∧ di.map (·.1) = ds.map (·.1)) (fun H3 e3 => ⟨none, none, none, none, ds, rfl, sa2.ext e3, rfl⟩) (fun i σ' H' hi h => ?_) (fun σ' H' h => ?_)
    · obtain ⟨o5, o6, o7, o8, di, rfl, sa, hk⟩ := h
      have hn1 : (di.map (·.1)).Nodup := by rw [hk]; exact sz.dn
      have hl1 : di.length = ds.length := by have := congrArg List.length hk; rw [List.length_map, List.length_map] at this; exact this
      have hd1 := sz.d1
      have hd0 := sz.d0
      have hw1 := sz.w1
      have hs1 : Has (di.map (·.1)) (ws.map (·.1)) t := by rw [hk]; exact fm.has
      have hsT : Has (di.map (·.1)) (wsT.map (·.1)) t := hs1.sub (fun _ h => h) fun r hr => (hmT r).mpr hr
      have gT : ∀ r ∈ ws.map (·.1), Good (wdOf wsT r) := fun r hr => sa.wt.good ((hmT r).mpr hr)
      have eqT : soOf (dnOf di) (wdOf wsT) t = soOf (dnOf di) (wdOf ws) t := truth_congr gw gT onT (fun _ _ => rfl) fm.f hs1
      have at0 := ht.mono (sa.tu hp hds.1)
      refine q_asg (ev_call (ea_cons (ev_var rfl) (ea_cons (ev_var rfl) (ea_cons (ev_var rfl) ea_nil))) (spv_lso at0 fm.f (by omega) (by omega) (by omega) fm.sm sa.da sa.bs.bd sa.lists hs1)) fun H3 e3 => ?_
      generalize hb : soOf (dnOf di) (wdOf ws) t = b at eqT ⊢
      have sa3 := sa.ext e3
      have at3 := at0.mono (Tu.ex e3)
      have evH : ∀ {HX : Hp} {σ : L2.St} {E : XK}, Sa K C p wd tb d H HX di ws wsT → σ[1]? = some (some x) → σ[2]? = some (some (.ref d)) → σ[4]? = some (some (.ref tb)) → Ev (tCall (sp_holds K C) [] E (tCons (tVar 1) (tCons (tVar 2) (tCons (tVar 4) tNil)))) σ HX (.bl b) := fun s q1 q2 q3 =>
        ev_is (ev_call (ea_cons (ev_var q1) (ea_cons (ev_var q2) (ea_cons (ev_var q3) ea_nil))) (spv_holds (ht.mono (s.tu hp hds.1)) fm.f (by omega) (by omega) s.da s.world hsT)) (by rw [eqT])
      refine q_asgL (xs := [.bl b, .bl (!b)]) (el_lst (ea_cons (evH sa3 rfl rfl rfl) (ea_cons (ev_is (ev_holdsT (t := .nt t) (etd_nt ev_c (etd_ref (ev_var rfl) at3)) fm.f (by show depth t + 1 < 10; omega) (by have e1 : (pcs (Td.nt t)).length = 1 + (pcs t).length := by { show (_ :: pcs t).length = _; rw [List.length_cons]; omega }; omega) sa3.da sa3.world hsT rfl rfl) (by show V.bl (!soOf (dnOf di) (wdOf wsT) t) = _; rw [eqT])) ea_nil)) (by show 2 ≤ 100000; decide)) fun tl H4 htl e4 h4 => ?_
      have sa4 := sa3.ext e4
      obtain ⟨oq, hoq⟩ := sa3.pot.some
      have htlp : tl ≠ p := (ne_of_none hoq htl).symm
      have htld : tl ≠ d := ne_of h4 sa4.da.1 (fun z => by cases z)
      have mutL : ∀ {ys : List V} {o : HO} {HX : Hp}, Sa K C p wd tb d H HX di ws wsT → Ex (wo H3 p) HX → Sa K C p wd tb d H (upd HX tl o) di ws wsT ∧ Ex (wo H3 p) (upd HX tl o) := fun {ys o HX} s e => by
        have eU : Ex (wo H3 p) (upd HX tl o) := e.mut (by rw [wo_ne htlp]; exact htl)
        refine ⟨sa3.draw eU (pot_off s.pot (Ne.symm htlp)), eU⟩
      have x4 : Ex (wo H3 p) H4 := wo_ex.trans e4
      refine q_app_k (ev_var rfl) h4 fun H5 e5 => call_k (ac_v (ev_var rfl) fun H6 e6 => ac_k (call_k (ac_v (ev_var rfl) fun H7 e7 => ac_nil ⟨_, V.int, d, di, rfl, (((sa4.ext e5).ext e6).ext e7).da.1, hn1, by omega, fun d' ds' H8 hd' e8 h8 pm => ac_k (call_k (ac_v (ev_var rfl) fun H9 e9 => ac_v (ev_var rfl) fun H10 e10 => ac_nil ⟨p, tb, wsT, rfl, ?_⟩))⟩)))
      have sa10 := (((((sa4.ext e5).ext e6).ext e7).ext e8).ext e9).ext e10
      have x10 := x4.trans ((((e5.trans e6).trans e7).trans e8).trans (e9.trans e10))
      refine ⟨sa10.pot, sa10.wt, hnT, by omega, h8T, fun tb2 ws2 H11 htb2 e11 hp11 hw2 hn2 hm2 he2 hl2 => ac_nil ?_⟩
      have sa11 := sa10.draw e11 hp11
      have x11 : Ex (wo H3 p) H11 := wo_tr x10 e11
      have hd8 : DaysAt H10 d' ds' := (((((sa4.ext e5).ext e6).ext e7).ext e8).da.perm pm h8).mono (e9.trans e10)
      have hd'p : d' ≠ p := by
        obtain ⟨_, _, _, q⟩ := sa10.pot
        rintro rfl
        rw [hd8.1] at q
        cases q
      have hd11 : DaysAt H11 d' ds' := ⟨e11 d' _ (by rw [wo_ne hd'p]; exact hd8.1), hd8.2⟩
      have hm3 : ∀ z, z ∈ ws2.map (·.1) ↔ z ∈ ws.map (·.1) := fun z => (hm2 z).trans (hmT z)
      have eq2 : soOf (dnOf ds') (wdOf ws2) t = b := by
        rw [← hb]
        refine truth_congr gw (fun z hz => hw2.good ((hm3 z).mpr hz)) (fun z hz q => by rw [he2 z ((hmT z).mpr hz) q]; exact onT z hz q) (fun n hn => dn_perm pm hn1 hn) fm.f hs1
      refine (spv_holds (ht.mono (sa11.tu hp hds.1)) fm.f (by omega) (by omega) hd11 (hw2.mono wo_ex) (hs1.sub (fun n hn => (perm_map pm n).mpr hn) fun z hz => (hm3 z).mpr hz)) H11 (Ex.refl _) _ (fun H12 e12 => ?_) _
      rw [eq2]
      have sa12 := sa11.ext e12
      have x12 := x11.trans e12
      have htl12 : H12 tl = some (.lst [.bl b, .bl (!b)]) := e12 tl _ (e11 tl _ (by rw [wo_ne htlp]; exact ((((e5.trans e6).trans e7).trans e8).trans (e9.trans e10)) tl _ h4))
      obtain ⟨sa13, x13⟩ := mutL (ys := []) (o := .lst [.bl b, .bl (!b), .bl b]) sa12 x12
      refine ⟨tl, [.bl b, .bl (!b)], .bl b, rfl, rfl, htl12, sz_lt (by show 2 < 100000; decide), ?_⟩
      show tSeq _ _ _ _ (upd H12 tl (.lst [.bl b, .bl (!b), .bl b]))
      have h13 : (upd H12 tl (.lst [.bl b, .bl (!b), .bl b])) tl = some (.lst [.bl b, .bl (!b), .bl b]) := upd_same
      generalize upd H12 tl (.lst [.bl b, .bl (!b), .bl b]) = H13 at sa13 x13 h13 ⊢
      clear e5 e6 e7 e8 e9 e10 e11 e12 x10 x11 x12 sa10 sa11 sa12 hd8 hd11 hw2 hp11 h8 htl12
      refine q_app h13 (ev_var rfl) (ev_is (ev_callN0 (z := .bl (soOf (dnOf di) (wdOf wsT) t)) (ea_cons (ev_var rfl) (ea_cons (ev_var rfl) (ea_cons (ev_var rfl) ea_nil))) rfl (spv_holds (ht.mono (sa13.tu hp hds.1)) fm.f (by omega) (by omega) sa13.da sa13.world hsT)) (by rw [eqT])) (by show 3 < 100000; decide) fun H14 e14 => ?_
      obtain ⟨sa15, x15⟩ := mutL (ys := []) (o := .lst ([.bl b, .bl (!b), .bl b] ++ [.bl b])) (sa13.ext e14) (x13.trans e14)
      have h15 : (upd H14 tl (.lst ([.bl b, .bl (!b), .bl b] ++ [.bl b]))) tl = some (.lst [.bl b, .bl (!b), .bl b, .bl b]) := upd_same
      generalize upd H14 tl (.lst ([.bl b, .bl (!b), .bl b] ++ [.bl b])) = H15 at sa15 x15 h15 ⊢
      have dB : Dp K H15 (.ref tl) (dBs b) := .lst (sq_of h15) (.cons (.bl _) (.cons (.bl _) (.cons (.bl _) (.cons (.bl _) .nil))))
      refine q_when (b := false) (et_or (a := false) (b := false) (et_test (ev_neD (evd_ref (ev_var rfl) dB) (evd_lst (evad_cons (evd_bl (ev_var rfl)) (evad_cons (evd_bl (ev_notV (ev_var rfl))) (evad_cons (evd_bl (ev_var rfl)) (evad_cons (evd_bl (ev_var rfl)) evad_nil)))) (by show 4 ≤ 100000; decide)) (shaped_dBs b) (can_dBs b))) fun _ => et_not (a := true) (et_B (ev_allYes (l := List.range 4) (el_eq (el_lcL (fun _ => true) (fun _ => V.bl true) (ev_var rfl) (sq_of h15) (by show 4 ≤ 40000; decide) (fun _ => rfl) (fun _ _ _ _ _ => lc_yes) (fun j y H16 e16 hj _ => ?_)) (by rw [given_all] <;> rfl))))) (fun z => by cases z) fun _ H16 e16 => ?_
      · have hy : ∃ c, y = .bl c := by
          rcases j with _ | _ | _ | _ | j
          · cases hj; exact ⟨_, rfl⟩
          · cases hj; exact ⟨_, rfl⟩
          · cases hj; exact ⟨_, rfl⟩
          · cases hj; exact ⟨_, rfl⟩
          · exact absurd hj (by simp)
        obtain ⟨c, rfl⟩ := hy
        exact ev_isiB (b := true) (ev_var rfl) (fun _ _ => .base (.bl c)) (by decide +kernel)
      have sa16 := sa15.ext e16
      refine dput_k (op_k (drawC sa16.pot rfl ev_c (by decide) (by decide) fun m H17 m0 m1 e17 hp17 => v_k ev_c fun H18 e18 => ⟨_, _, rfl, rfl, ?_⟩))
      have sa18 := (sa16.draw e17 hp17).ext e18
      refine (ev_var (i := 2) (v := .ref d) rfl) H18 (Ex.refl _) _ fun H19 e19 => pickN (sa18.ext e19).pot rfl (el_sortedD (ev_var rfl) (sa18.ext e19).da.1 (by rw [keyed_keys, List.map_map]; rfl) hn1 (by rw [List.length_map]; omega)) (by rw [List.length_map]; exact nrm_pos (by rw [List.length_map]; omega)) (by have := nrm_len (di.map (·.1)); rw [List.length_map] at *; omega) fun j v H20 hj e20 hp20 => ?_
      obtain ⟨n, rfl, hn'⟩ := get_txt hj
      have hn := mem_nrm.mp hn'
      have sa20 := (sa18.ext e19).draw e20 hp20
      refine ⟨d, _, rfl, DPut.k (k := kS n) sa20.da.1 (sz_lt (by rw [keyed_len]; omega)), ?_⟩
      exact ⟨_, _, _, _, rep di n (m - 6), rfl, sa20.putD (Ne.symm hdw) htbd hn (by omega), by rw [rep_keys]; exact hk⟩
    · obtain ⟨o5, o6, o7, o8, di, rfl, sa, hk⟩ := h
      exact s_ret ev_c fun H3 e3 => k H3 (sa.ex.trans e3)
end
end K22
end
section
set_option maxHeartbeats 8000000
namespace K22
open PySem L2 Evl G TM TD
def sp_right : Sp := fun vs H Q _ => ∃ (p : Addr), vs = [.ref p] ∧ PotAt H p ∧ ∀ H2, Ex (wo H p) H2 → Q (.bl true) H2
theorem ex_pot {H H2 : Hp} {p : Addr} (e : Ex H H2) (hp : H p = none) : Ex H (wo H2 p) := fun b o h => by rw [wo_ne (ne_of_none h hp)]; exact e b o h
theorem sgn_name : ∀ k ∈ SX.signs "pqrstuvwxyz", k ∈ nameL := by decide +kernel
theorem sgn_rule : ∀ k ∈ SX.signs "abcdefgh", k ∈ ruleL := by decide +kernel
theorem sgn_ok : ((SX.signs "pqrstuvwxyz").length = 11 ∧ (SX.signs "pqrstuvwxyz").Nodup ∧ Str.cps "pqrstuvwxyz" = Str.cps "pqrstuvwxyz") ∧ (SX.signs "abcdefgh").length = 8 ∧ (SX.signs "abcdefgh").Nodup := by decide +kernel
theorem sgn_cps : (Str.cps "pqrstuvwxyz").size ≤ 1000 ∧ (Str.cps "abcdefgh").size ≤ 1000 := by decide +kernel
section
variable {σ : L2.St} {H : Hp} {ta tb te : TE} {D : Ends} {tz : TS} {tu : TS} {t2 : TT}
/-- if not a or ..: a by hand -/
theorem notOr_k (h : te σ H fun v H1 => ∃ b, v = .bl b ∧ if (!b) = true then tu { D with nx := tz D } σ H1 else tSeq (tIfS t2 tu tNext) tz D σ H1) : tSeq (tIfS (tOr (tNot (tB te)) t2) tu tNext) tz D σ H := h
theorem notB_k (h : te σ H fun v H1 => ∃ b, v = .bl b ∧ if (!b) = true then tu { D with nx := tz D } σ H1 else tz D σ H1) : tSeq (tIfS (tNot (tB te)) tu tNext) tz D σ H := h
end
section
variable {P : Program} {w : World} {K : PySem.W.Frag} {mg : Str → Option Value} {base : Heap} {C SZ SY : Addr}
theorem ok_right {f f1 f2 f3 f4 f5 f6 f7 f8 f9 fa : Addr} {fd fd1 fd2 fd3 fd4 fd5 fd6 fd7 fd8 fd9 fda : FuncData} (F : Fun K "_law_right" "_law_right" s__law_right f fd) (T : Txt P w K mg C SZ SY)
    (c__law_some : Cal P w K mg base "_law_some" f1 fd1 ["_law_pot_here", "_law_letters_here", "_law_many"] 2 (sp_some K)) (c__law_draw : Cal P w K mg base "_law_draw" f2 fd2 ["_law_pot_here", "_law_many"] 1 sp_draw) (c__law_formula : Cal P w K mg base "_law_formula" f3 fd3 ["_law_pot_here", "_law_deep", "_law_names", "_law_rules"] 8 (sp_formula K 4)) (c__law_short : Cal P w K mg base "_law_short" f4 fd4 ["_law_pot_here", "_law_deep", "_law_names", "_law_rules", "_law_most"] 13 (sp_short K))
    (c__law_days : Cal P w K mg base "_law_days" f5 fd5 ["_law_pot_here", "_law_names"] 3 sp_ldays) (c__law_world : Cal P w K mg base "_law_world" f6 fd6 ["_law_pot_here", "_law_rules"] 4 (sp_lworld K)) (c__law_told_right : Cal P w K mg base "_law_told_right" f7 fd7 ["_law_told", "_law_words"] 13 sp_told_right)
    (c__law_days_right : CalG P w K mg base "_law_days_right" f8 fd8 ["_law_pot_here", "_law_formula_here", "_law_days_here", "_law_world_here"] 18 (sp_days_right K)) (c__law_facts_right : Cal P w K mg base "_law_facts_right" f9 fd9 ["_law_pot_here", "_law_formula_here", "_law_days_here", "_law_world_here"] 18 (sp_facts_right K)) (c__law_sayings_right : Cal P w K mg base "_law_sayings_right" fa fda ["_law_pot_here", "_law_saying_here", "_law_days_here", "_law_world_here"] 29 (sp_sayings_right K)) :
    FnG P w K mg base CX0 31 f fd ["_law_pot_here"] sp_right := by
  refine okG F sc__law_right (fun vs H Q E h => ?_) (fun cdv A outer s H vs Q E hg hr h => ?_)
  · obtain ⟨p, rfl, _⟩ := h
    rfl
  · obtain ⟨p, rfl, hp, k⟩ := h
    have hu := hr.units
    refine ⟨_, (pss_cons (ps_par (i := 1) (j := 2) (by rfl) sc__law_right.nd rfl rfl (by decide) rfl rfl (pa_cons (pe_call c__law_some.ok (hr.mono (by decide)) (by rfl) c__law_some.mgx c__law_some.kp c__law_some.bd .nil pass0 (pa_cons (pv 0) (pa_cons pe_str (pa_cons (pe_op op_add pe_int (pe_call c__law_draw.ok (hr.mono (by decide)) (by rfl) c__law_draw.mgx c__law_draw.kp c__law_draw.bd .nil pass0 (pa_cons (pv 0) (pa_cons pe_int pa_nil)))) pa_nil)))) (pa_cons (pe_call c__law_some.ok (hr.mono (by decide)) (by rfl) c__law_some.mgx c__law_some.kp c__law_some.bd .nil pass0 (pa_cons (pv 0) (pa_cons pe_str (pa_cons (pe_op op_add pe_int (pe_call c__law_draw.ok (hr.mono (by decide)) (by rfl) c__law_draw.mgx c__law_draw.kp c__law_draw.bd .nil pass0 (pa_cons (pv 0) (pa_cons pe_int pa_nil)))) pa_nil)))) pa_nil)) (by rfl)) (pss_cons (ps_par (i := 3) (j := 4) (by rfl) sc__law_right.nd rfl rfl (by decide) rfl rfl (pa_cons (pe_call c__law_formula.ok (hr.mono (by decide)) (by rfl) c__law_formula.mgx c__law_formula.kp c__law_formula.bd .nil pass0 (pa_cons (pv 0) (pa_cons pe_int (pa_cons (pv 1) (pa_cons (pv 2) pa_nil))))) (pa_cons (pe_call c__law_short.ok (hr.mono (by decide)) (by rfl) c__law_short.mgx c__law_short.kp c__law_short.bd .nil pass0 (pa_cons (pv 0) (pa_cons pe_int (pa_cons (pv 1) (pa_cons (pv 2) (pa_cons pe_int pa_nil)))))) pa_nil)) (by rfl)) (pss_cons (ps_par (i := 5) (j := 6) (by rfl) sc__law_right.nd rfl rfl (by decide) rfl rfl (pa_cons (pe_call c__law_days.ok (hr.mono (by decide)) (by rfl) c__law_days.mgx c__law_days.kp c__law_days.bd .nil pass0 (pa_cons (pv 0) (pa_cons (pv 1) pa_nil))) (pa_cons (pe_call c__law_world.ok (hr.mono (by decide)) (by rfl) c__law_world.mgx c__law_world.kp c__law_world.bd .nil pass0 (pa_cons (pv 0) (pa_cons (pv 2) pa_nil))) pa_nil)) (by rfl)) (pss_cons (ps_if (PW.pt (pw_or (pt_not (pt_val (pe_call c__law_told_right.ok (hr.mono (by decide)) (by rfl) c__law_told_right.mgx c__law_told_right.kp c__law_told_right.bd .nil pass0 (pa_cons (pv 3) (pa_cons pe_str pa_nil))))) (pw_or1 (pt_not (pt_val (pe_call c__law_told_right.ok (hr.mono (by decide)) (by rfl) c__law_told_right.mgx c__law_told_right.kp c__law_told_right.bd .nil pass0 (pa_cons (pv 4) (pa_cons pe_str pa_nil)))))))) (pss_one (ps_ret pe_bl)) pss_nil) (pss_cons (ps_if (PW.pt (pw_or (pt_not (pt_val (pe_callG c__law_days_right.ok hg (hr.mono (by decide)) (by rfl) c__law_days_right.mgx c__law_days_right.kp c__law_days_right.bd .nil pass0 (pa_cons (pv 0) (pa_cons (pv 3) (pa_cons (pv 5) (pa_cons (pv 6) pa_nil))))))) (pw_or1 (pt_not (pt_val (pe_call c__law_facts_right.ok (hr.mono (by decide)) (by rfl) c__law_facts_right.mgx c__law_facts_right.kp c__law_facts_right.bd .nil pass0 (pa_cons (pv 0) (pa_cons (pv 3) (pa_cons (pv 5) (pa_cons (pv 6) pa_nil)))))))))) (pss_one (ps_ret pe_bl)) pss_nil) (pss_one (ps_ret (pe_call c__law_sayings_right.ok (hr.mono (by decide)) (by rfl) c__law_sayings_right.mgx c__law_sayings_right.kp c__law_sayings_right.bd .nil pass0 (pa_cons (pv 0) (pa_cons (pv 4) (pa_cons (pv 5) (pa_cons (pv 6) pa_nil)))))))))))), ?_⟩
    obtain ⟨⟨z1, z2, _⟩, z3, z4⟩ := sgn_ok
    -- names and rules
    refine par2_k (ac_k (call_k (ac_v (ev_var rfl) fun H1 e1 => ac_v ev_c fun H2 e2 => ac_k (op_k (v_k ev_c fun H3 e3 => drawC (((hp.mono e1).mono e2).mono e3) rfl ev_c (by decide) (by decide) fun m H4 m0 m1 e4 hp4 => ⟨_, _, rfl, rfl, ac_nil ⟨p, _, (1 + m).toNat, by rw [Int.toNat_of_nonneg (by omega)] <;> rfl, hp4, by rw [z1]; omega, by rw [z1]; decide, z2, sgn_cps.1, fun l1 N H5 hN1 hN2 hN3 hl1 e5 hp5 h5 => ?_⟩⟩)))))
    have x5 : Ex (wo H p) H5 := wo_tr (wo_tr (wo_ex.trans ((e1.trans e2).trans e3)) e4) e5
    refine ac_k (call_k (ac_v (ev_var rfl) fun H6 e6 => ac_v ev_c fun H7 e7 => ac_k (op_k (v_k ev_c fun H8 e8 => drawC (((hp5.mono e6).mono e7).mono e8) rfl ev_c (by decide) (by decide) fun n H9 n0 n1 e9 hp9 => ⟨_, _, rfl, rfl, ac_nil ⟨p, _, (1 + n).toNat, by rw [Int.toNat_of_nonneg (by omega)] <;> rfl, hp9, by rw [z3]; omega, by rw [z3]; decide, z4, sgn_cps.2, fun l2 R H10 hR1 hR2 hR3 hl2 e10 hp10 h10 => ac_nil ⟨_, _, rfl, ?_⟩⟩⟩))))
    have x510 : Ex (wo H5 p) H10 := wo_tr (wo_tr (wo_ex.trans ((e6.trans e7).trans e8)) e9) e10
    have x10 : Ex (wo H p) H10 := wo_tr x5 x510
    have l1p : l1 ≠ p := by obtain ⟨o, ho⟩ := hp4.some; exact (ne_of_none ho hl1).symm
    have l2p : l2 ≠ p := by obtain ⟨o, ho⟩ := hp9.some; exact (ne_of_none ho hl2).symm
    have h1 : H10 l1 = some (.lst (N.map V.str)) := x510 l1 _ (by rw [wo_ne l1p]; exact h5)
    have sN : ∀ x ∈ N, x ∈ nameL := fun x hx => sgn_name x (hN3 x hx)
    have sR : ∀ x ∈ R, x ∈ ruleL := fun x hx => sgn_rule x (hR3 x hx)
    have lN : LOk K (wo H10 p) l1 N nameL := ⟨sq_of (by rw [wo_ne l1p]; exact h1), by omega, by omega, sN⟩
    have lR : LOk K (wo H10 p) l2 R ruleL := ⟨sq_of (by rw [wo_ne l2p]; exact h10), by omega, by omega, sR⟩
    clear e1 e2 e3 e4 e5 e6 e7 e8 e9 e10 x5 x510 hp4 hp5 hp9 hl1 hl2 h5
    -- a formula and a saying
    refine par2_k (ac_k (call_k (ac_v (ev_var rfl) fun H11 e11 => ac_v ev_c fun H12 e12 => ac_v (ev_var rfl) fun H13 e13 => ac_v (ev_var rfl) fun H14 e14 => ac_nil ⟨p, 3, l1, l2, N, R, rfl, by decide, (((hp10.mono e11).mono e12).mono e13).mono e14, lN.mono (wo_mono (((e11.trans e12).trans e13).trans e14)), lR.mono (wo_mono (((e11.trans e12).trans e13).trans e14)), fun v t H15 e15 hp15 hat hfo => ?_⟩)))
    have x15 : Ex (wo H10 p) H15 := wo_tr (wo_ex.trans (((e11.trans e12).trans e13).trans e14)) e15
    refine ac_k (call_k (ac_v (ev_var rfl) fun H16 e16 => ac_v ev_c fun H17 e17 => ac_v (ev_var rfl) fun H18 e18 => ac_v (ev_var rfl) fun H19 e19 => ac_v ev_c fun H20 e20 => ac_nil ⟨p, l1, l2, N, R, rfl, ((((hp15.mono e16).mono e17).mono e18).mono e19).mono e20, (lN.mono (wo_sub x15)).mono (wo_mono ((((e16.trans e17).trans e18).trans e19).trans e20)), (lR.mono (wo_sub x15)).mono (wo_mono ((((e16.trans e17).trans e18).trans e19).trans e20)), fun u s' H21 e21 hp21 hau hso => ac_nil ⟨_, _, rfl, ?_⟩⟩))
    have x1521 : Ex (wo H15 p) H21 := wo_tr (wo_ex.trans ((((e16.trans e17).trans e18).trans e19).trans e20)) e21
    have x21 : Ex (wo H10 p) H21 := wo_tr x15 x1521
    have hat21 : At H21 v t := hat.mono (tu_wo hp15 x1521)
    clear e11 e12 e13 e14 e15 e16 e17 e18 e19 e20 e21 x15 x1521 hat hp15
    have h1' : H21 l1 = some (.lst (N.map V.str)) := x21 l1 _ (by rw [wo_ne l1p]; exact h1)
    have h2' : H21 l2 = some (.lst (R.map V.str)) := x21 l2 _ (by rw [wo_ne l2p]; exact h10)
    -- days and a world
    refine par2_k (ac_k (call_k (ac_v (ev_var rfl) fun H22 e22 => ac_v (ev_var rfl) fun H23 e23 => ac_nil ⟨p, l1, N, rfl, (hp21.mono e22).mono e23, by rw [wo_ne l1p]; exact e23 l1 _ (e22 l1 _ h1'), by omega, hN2, sN, fun d ds H24 hd e24 hp24 hds hbs hkd => ?_⟩)))
    have x24 : Ex (wo H21 p) H24 := wo_tr (wo_ex.trans (e22.trans e23)) e24
    have hd21 : H21 d = none := fresh_back (e22.trans e23) hd
    have h2'' : H24 l2 = some (.lst (R.map V.str)) := x24 l2 _ (by rw [wo_ne l2p]; exact h2')
    refine ac_k (call_k (ac_v (ev_var rfl) fun H25 e25 => ac_v (ev_var rfl) fun H26 e26 => ac_nil ⟨p, l2, R, rfl, (hp24.mono e25).mono e26, by rw [wo_ne l2p]; exact e26 l2 _ (e25 l2 _ h2''), by omega, hR2, sR, fun wd ws H27 hwd e27 hp27 hls hrw hkw => ac_nil ⟨_, _, rfl, ?_⟩⟩))
    have x2427 : Ex (wo H24 p) H27 := wo_tr (wo_ex.trans (e25.trans e26)) e27
    have x27 : Ex (wo H21 p) H27 := wo_tr x24 x2427
    have dp : d ≠ p := by obtain ⟨o, ho⟩ := hp21.some; exact (ne_of_none ho hd21).symm
    have hds27 : DaysAt H27 d ds := ⟨x2427 d _ (by rw [wo_ne dp]; exact hds.1), hds.2⟩
    have lw27 : LwAt K (wo H27 p) wd ws := ⟨hls, hrw⟩
    have hat27 : At H27 v t := hat21.mono (tu_wo hp21 x27)
    have hau27 : At H27 u s' := hau.mono (tu_wo hp21 x27)
    have sz : Sz ds ws := ⟨by rw [hkd]; exact hN2, by rw [hkw]; exact hR2, by have := congrArg List.length hkd; rw [List.length_map] at this; omega, by have := congrArg List.length hkd; rw [List.length_map] at this; omega, by have := congrArg List.length hkw; rw [List.length_map] at this; omega, by have := congrArg List.length hkw; rw [List.length_map] at this; omega⟩
    have fm : Fml ds ws t := ⟨hfo.f, by rw [hkd, hkw]; exact hfo.has, by have := hfo.dp; omega, by have : (pcs t).length ≤ 15 := hfo.sz; omega, hfo.sm⟩
    have sm : Sml ds ws s' := ⟨hso.f, by rw [hkd, hkw]; exact hso.has, hso.dp, hso.sz, hso.sm⟩
    have x127 : Ex (wo H p) H27 := wo_tr (wo_tr x10 x21) x27
    have hd0 : H d = none := by
      cases q : H d with
      | none => rfl
      | some o =>
        have := (wo_tr x10 x21) d o (by rw [wo_ne dp]; exact q)
        rw [hd21] at this
        cases this
    clear e22 e23 e24 e25 e26 e27 x24 x2427 x27 hp24 hls hrw hwd hd hau hat21 h1' h2' h2'' h1 lN lR
    -- all is told right
    refine q_when (b := false) (et_or (a := false) (b := false) (et_not (a := true) (et_B (ev_call (ea_cons (ev_var rfl) (ea_cons ev_c ea_nil)) (spv_told_right hat27 (.inl hfo.f) hfo.has sN sR (by have := hfo.dp; omega) (by have : (pcs t).length ≤ 15 := hfo.sz; omega))))) fun _ => et_not (a := true) (et_B (ev_call (ea_cons (ev_var rfl) (ea_cons ev_c ea_nil)) (spv_told_right hau27 (.inr hso.f) hso.has sN sR (by have := hso.dp; omega) (by have := hso.sz; omega))))) (fun z => by cases z) fun _ H28 e28 => ?_
    have lw28 := lw27.mono (wo_mono e28)
    -- days, facts
    refine notOr_k (call_k (ac_v (ev_var rfl) fun H29 e29 => ac_v (ev_var rfl) fun H30 e30 => ac_v (ev_var rfl) fun H31 e31 => ac_v (ev_var rfl) fun H32 e32 => ac_nil ⟨p, v, d, wd, t, ds, ws, rfl, hp27.mono (e28.trans ((e29.trans e30).trans (e31.trans e32))), hat27.mono (Tu.ex (e28.trans ((e29.trans e30).trans (e31.trans e32)))), fm, sz, hds27.mono (e28.trans ((e29.trans e30).trans (e31.trans e32))), hbs, lw28.mono (wo_mono ((e29.trans e30).trans (e31.trans e32))), fun H33 e33 hp33 => ⟨true, rfl, ?_⟩⟩))
    have x33 : Ex (wo H27 p) H33 := wo_tr (wo_ex.trans (e28.trans ((e29.trans e30).trans (e31.trans e32)))) e33
    have hds33 : DaysAt H33 d ds := ⟨x33 d _ (by rw [wo_ne dp]; exact hds27.1), hds27.2⟩
    have lw33 : LwAt K (wo H33 p) wd ws := lw27.mono (wo_sub x33)
    refine notB_k (call_k (ac_v (ev_var rfl) fun H34 e34 => ac_v (ev_var rfl) fun H35 e35 => ac_v (ev_var rfl) fun H36 e36 => ac_v (ev_var rfl) fun H37 e37 => ac_nil ⟨p, v, d, wd, t, ds, ws, rfl, hp33.mono ((e34.trans e35).trans (e36.trans e37)), (hat27.mono (tu_wo hp27 x33)).mono (Tu.ex ((e34.trans e35).trans (e36.trans e37))), fm, sz, hds33.mono ((e34.trans e35).trans (e36.trans e37)), hbs, lw33.mono (wo_mono ((e34.trans e35).trans (e36.trans e37))), fun H38 e38 hp38 => ⟨true, rfl, ?_⟩⟩))
    have x38 : Ex (wo H27 p) H38 := wo_tr x33 (wo_tr (wo_ex.trans ((e34.trans e35).trans (e36.trans e37))) e38)
    -- sayings
    refine ret_k (call_k (ac_v (ev_var rfl) fun H39 e39 => ac_v (ev_var rfl) fun H40 e40 => ac_v (ev_var rfl) fun H41 e41 => ac_v (ev_var rfl) fun H42 e42 => ac_nil ⟨p, u, d, wd, s', ds, ws, rfl, hp38.mono ((e39.trans e40).trans (e41.trans e42)), (hau27.mono (tu_wo hp27 x38)).mono (Tu.ex ((e39.trans e40).trans (e41.trans e42))), sm, sz, (show DaysAt H38 d ds from ⟨x38 d _ (by rw [wo_ne dp]; exact hds27.1), hds27.2⟩).mono ((e39.trans e40).trans (e41.trans e42)), hbs, (lw27.mono (wo_sub x38)).mono (wo_mono ((e39.trans e40).trans (e41.trans e42))), fun H43 e43 => k H43 fun b o hb => ?_⟩))
    have hbp : b ≠ p := fun z => by subst z; rw [wo_at] at hb; cases hb
    have hbd : b ≠ d := fun z => by subst z; rw [wo_ne hbp, hd0] at hb; cases hb
    have h42 := ((e39.trans e40).trans (e41.trans e42)) b _ (x38 b _ (by rw [wo_ne hbp]; exact x127 b o hb))
    exact e43 b o (by rw [wo_ne hbd, wo_ne hbp]; exact h42)
end
end K22
end
section
set_option maxHeartbeats 2000000
namespace G
open PySem PySem.Spec PyProof.Rows L2

/-! ### the end of a law whose promise is told where no repr is running -/
section
variable {P : Program} {w : World} {K : PySem.W.Frag} {mg mb : Str → Option Value} {CX : CXT} {k : Nat} {fa a : Addr} {fd : FuncData} {x : Str} {sp : Sp} {s₁ : Shared} {vs : List Value} {ns : List Int}
def scrObj (vs : List Value) : Obj := { cls := .type "list", data := .seq vs.toArray }
/-- the script alone, if the module does not know it -/
def scrHp (K : PySem.W.Frag) (a : Addr) (vs : List Value) (ns : List Int) : Hp := fun b => if b = a ∧ (K.lookup a).isNone = true then some (.frz (scrObj vs) (.lst (ns.map V.int))) else none
theorem scr_some {b : Addr} {u : HO} (h : scrHp K a vs ns b = some u) : (b = a ∧ (K.lookup a).isNone = true) ∧ u = .frz (scrObj vs) (.lst (ns.map V.int)) := by
  unfold scrHp at h
  by_cases q : b = a ∧ (K.lookup a).isNone = true
  · rw [if_pos q] at h
    exact ⟨q, (Option.some.inj h).symm⟩
  · rw [if_neg q] at h
    cases h
theorem scr_off {b : Addr} (h : ¬ (b = a ∧ (K.lookup a).isNone = true)) : scrHp K a vs ns b = none := if_neg h
theorem scr_only : Only (scrHp K a vs ns) := fun b => by
  cases q : scrHp K a vs ns b with
  | none => exact .inl rfl
  | some u => exact .inr ⟨_, _, by rw [(scr_some q).2]⟩
theorem scr_sq (KX : K.In s₁.heap) (ha : s₁.heap.get? a = some (scrObj vs)) (rv : Vals (ns.map V.int) vs) (hlen : vs.length = ns.length) (hl : ns.length ≤ sizeLine) : SqL K (scrHp K a vs ns) a (ns.map V.int) := by
  cases q : K.lookup a with
  | none => exact .inl (.inr ⟨scrObj vs, if_pos ⟨rfl, by rw [q]; rfl⟩⟩)
  | some o =>
    have e := KX a o q
    rw [ha] at e
    cases e
    exact .inr ⟨_, vs.toArray, _, q, rfl, rfl, rfl, by simpa [hlen] using hl, by simpa using rv⟩
theorem law_true (KX : K.In s₁.heap) (hns : s₁.heap.Ns mainGlobals mg) (hb : s₁.heap.Ns builtinsNs mb) (hbb : ∀ x : Str, x ≠ "__name__" → mb x = bootBuiltins x) (hlim : s₁.heap.NoLimit) (hg : s₁.gens = #[])
    (ha : s₁.heap.get? a = some (scrObj vs)) (hi : IntsAre vs ns) (hl : ns.length ≤ sizeLine) (hr : Room k callerA)
    (F : ∀ base : Heap, K.In base → base.Ns mainGlobals mg → FnG P w K mg base CX k fa fd [x] sp) (hbind : ∀ (s : Shared) (u : Value), BindsTo s fd ⟨[u], []⟩ [(x, u)])
    (hsp : ∀ H : Hp, Only H → SqL K H a (ns.map V.int) → sp [.ref a] H (fun v _ => v = .bl true) fun _ _ _ => False) (hCX : ∀ H e s', CX [] H s₁ (fun _ _ _ => False) e s' → False) :
    codeAny (model P w) callerA (.call (.ref fa) ⟨[.ref a], []⟩) (fun r s' => r = .ok (.ret (.bool true)) ∧ OldK s₁.heap s'.heap ∧ s'.os = s₁.os ∧ AllBare s'.gens) s₁ := by
  have rv := vals_ints hi
  have hok : HOk P w (scrHp K a vs ns) s₁.heap := fun b u z => by
    obtain ⟨⟨rfl, _⟩, rfl⟩ := scr_some z
    exact ⟨ha, by rw [List.length_map]; exact hl, vs, _, rv, ha⟩
  have keepK : ∀ {b : Addr} {o : Obj}, K.lookup b = some o → (hidT s₁.heap (scrHp K a vs ns)).get? b = some o := fun {b o} e => hidT_get (KX b o e) (scr_off fun q => by
    obtain ⟨rfl, q2⟩ := q
    rw [e] at q2
    cases q2)
  have keepN : ∀ {b : Addr} {m : Str → Option Value}, s₁.heap.Ns b m → (hidT s₁.heap (scrHp K a vs ns)).Ns b m := by
    rintro b m ⟨o, es, ep, e, d, r⟩
    refine ⟨o, es, ep, hidT_get e (scr_off fun q => ?_), d, r⟩
    obtain ⟨rfl, _⟩ := q
    rw [ha] at e
    cases e
    cases (show Data.seq vs.toArray _ = Data.dict es ep from d)
  have inK : K.In (hidT s₁.heap (scrHp K a vs ns)) := fun b o e => keepK e
  have M : Mod K mg (hidT s₁.heap (scrHp K a vs ns)) := ⟨inK, keepN hns, ⟨mb, keepN hb, hbb⟩, by obtain ⟨mc, q1, q2⟩ := hlim; exact ⟨mc, keepN q1, q2⟩⟩
  have out : ∀ b : Addr, b ∉ ([] : List Addr) := fun b q => nomatch q
  have env : Env0 P w K mg (hidT s₁.heap (scrHp K a vs ns)) callerA [] s₁ (scrHp K a vs ns) := { frames := rfl, mod := M, bs := fun b o e => of_hidT e, bsz := Nat.le_of_eq (hidT_size _ _), funs := trivial, frf := fun b q => (out b q).elim, hok := hok, bare := .of_eq hg }
  have go := (F _ inK (keepN hns)).run callerA [] s₁ (scrHp K a vs ns) ⟨[.ref a], []⟩ [.ref a] [.ref a] _ _ rfl hr env (hbind s₁ (.ref a)) (.cons rfl .nil) (hsp _ scr_only (scr_sq KX ha rv hi.length hl))
  refine codeAny_mono go fun r s' h => ?_
  match r, h with
  | .error e, h => exact (hCX _ e s' h).elim
  | .ok .next, h => exact h.elim
  | .ok .brk, h => exact h.elim
  | .ok .cont, h => exact h.elim
  | .ok (.ret u), h =>
    obtain ⟨v, H', os, bare, un, hok', r', rfl⟩ := h
    cases r'
    refine ⟨rfl, OldK.of_keep fun b o e => ?_, os, bare⟩
    cases q : scrHp K a vs ns b with
    | none => exact un.keep b o e q (out b) (by simp)
    | some u =>
      have q2 := (scr_some q).2
      subst q2
      have z1 := (hok b _ q).1
      have z2 := (hok' b _ (un.frzs b _ _ q)).1
      rw [e] at z1
      cases z1
      exact z2
end
theorem walkG {l : PySem.W.OpenLaw} {n k : Nat} {q : Program} {loose : List Str} {XP : (Str → Option Value) → Heap → Prop} {YP : World → Heap → Prop} {d : DefRec} {K : Params → PySem.W.Frag} {CX : CXT} {sp : PySem.W.Frag → Sp} {x : Str}
    (hn : l.most = some n) (hn2 : n ≤ sizeLine) (hdf : d.params.defaults = []) (hr : Room k callerA) (hY : ∀ (w : World) (h : Heap), YP w h → (K w.params).In h)
    (F : ∀ (w : World) (mg : Str → Option Value) (fa : Addr) (h : Heap), (K w.params).In h → h.Ns mainGlobals mg → mg d.name = some (.ref fa) → ∃ fd : FuncData, (∀ (s : Shared) (u : Value), BindsTo s fd ⟨[u], []⟩ [(x, u)]) ∧ ∀ base : Heap, (K w.params).In base → base.Ns mainGlobals mg → FnG l.prog w (K w.params) mg base CX k fa fd [x] (sp (K w.params)))
    (hsp : ∀ (K : PySem.W.Frag) (H : Hp) (a : Addr) (ns : List Int), ns.length ≤ n → Only H → SqL K H a (ns.map V.int) → sp K [.ref a] H (fun v _ => v = .bl true) fun _ _ _ => False)
    (hCX : ∀ (H : Hp) (s : Shared) (e : Value) (s' : Shared), CX [] H s (fun _ _ _ => False) e s' → False) : PySem.W.WalkO q loose XP YP l.row.toRowW d [] (fun f vs => PySem.call f vs) :=
  Att.attach_call hn hdf fun w s₀ s₁ mg mb fa o pm cd doc a vs ns G Y ho hd hcd hmg hobj hints hlen hg => by
    have KX := hY w _ Y
    obtain ⟨fd, hb, hF⟩ := F w mg fa _ KX G.T.g hmg
    exact law_true KX G.T.g G.T.b G.T.builtins G.T.nolimit hg hobj hints (Nat.le_trans hlen hn2) hr hF hb (fun H hO hS => hsp _ H a ns hlen hO hS) fun H e s' => hCX H s₁ e s'
/-- a def called with keywords, no defaults -/
theorem kb_of {K : PySem.W.Frag} {x qual : Str} {st : Stmt} {f : Addr} {fd : FuncData} {ps ks : List Str} {n : Nat} {g : List Value → List Value → List Value} {gV : List V → List V → List V} (F : Fun K x qual st f fd)
    (h : ∀ (kV doc pm : Value) (an : Option Addr) (cdv ct : Value) (us ws : List Value), us.length = n → ws.length = ks.length → bindArgs (PySem.W.fnOf x qual (defArgs st) (defBody st) (defScope st) .none kV doc pm an cdv ct) ⟨us, ks.zip ws⟩ = pure (ps.zip (g us ws)))
    (hrel : ∀ {vs : List V} {us : List Value} {zs : List V} {ws : List Value}, Vals vs us → Vals zs ws → Vals (gV vs zs) (g us ws)) : KBn K fd ps n ks g gV := by
  obtain ⟨oc, od, kV, doc, pm, an, cdv, ct, osl, rfl, lk, hcd⟩ := F.ex
  exact ⟨fun s us ws _ h1 h2 => BindsTo.of_looks fun M => by rw [h kV doc pm an cdv ct us ws h1 h2]; exact PySem.W.Looks.now, hrel⟩
theorem vals_rev : ∀ {vs : List V} {us : List Value}, Vals vs us → Vals vs.reverse us.reverse
  | _, _, .nil => .nil
  | _, _, .cons a b => by rw [List.reverse_cons, List.reverse_cons]; exact (vals_rev b).append (.cons a .nil)
end G
end
section
set_option maxHeartbeats 8000000
namespace K22
open PySem L2 Evl G TM TD
theorem us_nil {α : Type} {us : List α} (h : us.length = 0) : us = [] := List.eq_nil_of_length_eq_zero h
theorem us_cons {α : Type} {us : List α} {n : Nat} (h : us.length = n + 1) : ∃ a t, us = a :: t ∧ t.length = n := by
  cases us with
  | nil => exact absurd h (Nat.succ_ne_zero n).symm
  | cons a t => exact ⟨a, t, rfl, Nat.succ.inj h⟩
theorem us_1 {fn : FuncData} {p0 : Str} (h : ∀ a0, bindArgs fn ⟨[a0], []⟩ = pure ([p0].zip [a0])) (us : List Value) (hl : us.length = [p0].length) : bindArgs fn ⟨us, []⟩ = pure ([p0].zip us) := by
  obtain ⟨a0, t0, rfl, h0⟩ := us_cons (n := 0) hl
  cases us_nil h0
  exact h a0
theorem us_2 {fn : FuncData} {p0 p1 : Str} (h : ∀ a0 a1, bindArgs fn ⟨[a0, a1], []⟩ = pure ([p0, p1].zip [a0, a1])) (us : List Value) (hl : us.length = [p0, p1].length) : bindArgs fn ⟨us, []⟩ = pure ([p0, p1].zip us) := by
  obtain ⟨a0, t0, rfl, h0⟩ := us_cons (n := 1) hl
  obtain ⟨a1, t1, rfl, h1⟩ := us_cons (n := 0) h0
  cases us_nil h1
  exact h a0 a1
theorem us_3 {fn : FuncData} {p0 p1 p2 : Str} (h : ∀ a0 a1 a2, bindArgs fn ⟨[a0, a1, a2], []⟩ = pure ([p0, p1, p2].zip [a0, a1, a2])) (us : List Value) (hl : us.length = [p0, p1, p2].length) : bindArgs fn ⟨us, []⟩ = pure ([p0, p1, p2].zip us) := by
  obtain ⟨a0, t0, rfl, h0⟩ := us_cons (n := 2) hl
  obtain ⟨a1, t1, rfl, h1⟩ := us_cons (n := 1) h0
  obtain ⟨a2, t2, rfl, h2⟩ := us_cons (n := 0) h1
  cases us_nil h2
  exact h a0 a1 a2
theorem us_4 {fn : FuncData} {p0 p1 p2 p3 : Str} (h : ∀ a0 a1 a2 a3, bindArgs fn ⟨[a0, a1, a2, a3], []⟩ = pure ([p0, p1, p2, p3].zip [a0, a1, a2, a3])) (us : List Value) (hl : us.length = [p0, p1, p2, p3].length) : bindArgs fn ⟨us, []⟩ = pure ([p0, p1, p2, p3].zip us) := by
  obtain ⟨a0, t0, rfl, h0⟩ := us_cons (n := 3) hl
  obtain ⟨a1, t1, rfl, h1⟩ := us_cons (n := 2) h0
  obtain ⟨a2, t2, rfl, h2⟩ := us_cons (n := 1) h1
  obtain ⟨a3, t3, rfl, h3⟩ := us_cons (n := 0) h2
  cases us_nil h3
  exact h a0 a1 a2 a3
theorem us_5 {fn : FuncData} {p0 p1 p2 p3 p4 : Str} (h : ∀ a0 a1 a2 a3 a4, bindArgs fn ⟨[a0, a1, a2, a3, a4], []⟩ = pure ([p0, p1, p2, p3, p4].zip [a0, a1, a2, a3, a4])) (us : List Value) (hl : us.length = [p0, p1, p2, p3, p4].length) : bindArgs fn ⟨us, []⟩ = pure ([p0, p1, p2, p3, p4].zip us) := by
  obtain ⟨a0, t0, rfl, h0⟩ := us_cons (n := 4) hl
  obtain ⟨a1, t1, rfl, h1⟩ := us_cons (n := 3) h0
  obtain ⟨a2, t2, rfl, h2⟩ := us_cons (n := 2) h1
  obtain ⟨a3, t3, rfl, h3⟩ := us_cons (n := 1) h2
  obtain ⟨a4, t4, rfl, h4⟩ := us_cons (n := 0) h3
  cases us_nil h4
  exact h a0 a1 a2 a3 a4
theorem fm_nil {α : Type} {p : α → Prop} : ∀ x ∈ ([] : List α), p x := fun x h => by cases h
theorem fm_cons {α : Type} {p : α → Prop} {a : α} {l : List α} (h : p a) (t : ∀ x ∈ l, p x) : ∀ x ∈ a :: l, p x := fun x hx => by
  rcases List.mem_cons.mp hx with e | hx
  · subst e; exact h
  · exact t x hx
theorem kd_mk {K : PySem.W.Frag} {w : World} {a : Addr} {es : Array DictEntry} {n : Nat} {rows : List (Str × Int)} {off : List Str} (l : K.lookup a = some ⟨.type "dict", none, .dict es n, #[]⟩) (kl : PySem.W.KeysLit w.params es.toList) (lo : (a == sysModules) = false)
    (hr : ∀ p ∈ rows, ∃ tk, PySem.W.nsIn K a p.1 = some (some (.int p.2 tk))) (ho : ∀ x ∈ off, PySem.W.nsIn K a x = some none) : KD K w a rows off :=
  ⟨⟨_, _, l, kl, lo⟩, fun p hp => let ⟨tk, e⟩ := hr p hp; ⟨⟨_, _, _, l, kl, e, ⟨tk, rfl⟩⟩, _, e⟩, ho⟩
def sp_law (K : PySem.W.Frag) : Sp := fun vs H Q _ => ∃ (a : Addr) (ns : List Int), vs = [.ref a] ∧ SqL K H a (ns.map V.int) ∧ ns.length ≤ 63 ∧ RetV (.bl true) H Q
section
variable {P : Program} {w : World} {K : PySem.W.Frag} {mg : Str → Option Value} {base : Heap} {C SZ SY : Addr}
theorem ok_law {f f1 f2 : Addr} {fd fd1 fd2 : FuncData} (F : Fun K "law" "law" s_law f fd) (T : Txt P w K mg C SZ SY) (c__law_pot : Cal P w K mg base "_law_pot" f1 fd1 ["_law_script", "_law_k"] 1 (sp_pot K)) (c__law_right : CalG P w K mg base "_law_right" f2 fd2 ["_law_pot_here"] 31 sp_right) :
    FnG P w K mg base CX0 32 f fd ["_law_script"] (sp_law K) := by
  refine okG F sc_law (fun vs H Q E h => ?_) (fun cdv A outer s H vs Q E hg hr h => ?_)
  · obtain ⟨a, ns, rfl, _⟩ := h
    rfl
  · obtain ⟨a, ns, rfl, hs, hl, k⟩ := h
    have hu := hr.units
    have e0 : (ns.map V.int).length = ns.length := List.length_map ..
    refine ⟨_, (pss_one (ps_ret (pe_callB (allL (K := K) rfl rfl) (by rfl) T.b_all (by decide +kernel) (pa_cons (pe_lc (own := [("_law_k", 1)]) (g := (gName 1)) (by rfl) sc_law.nd (pi_range1 (by rfl) T.b_range (pa_cons (pe_callB (call_max2 rfl) (by rfl) T.b_max (by decide +kernel) (pa_cons pe_int (pa_cons (pe_callB (call_min2 rfl) (by rfl) T.b_min (by decide +kernel) (pa_cons pe_int (pa_cons (pe_callB (lenS (K := K) rfl) (by rfl) T.b_len (by decide +kernel) (pa_cons (pv 0) pa_nil)) pa_nil))) pa_nil))) pa_nil)) (blkOk_by (own := [("_law_k", 1)]) (N := ["_law_script", "_law_k"]) (sc := defScope s_law) (by decide +kernel)) (fun _ _ _ _ _ => (pg_name (i := 1) sc_law.nd rfl (Or.inl rfl))) (fun _ _ _ _ _ => pts_nil) (fun _ _ _ _ _ => (pe_callG c__law_right.ok hg (hr.mono (by decide)) (by rfl) c__law_right.mgx c__law_right.kp c__law_right.bd .nil pass0 (pa_cons (pe_call c__law_pot.ok (hr.mono (by decide)) (by rfl) c__law_pot.mgx c__law_pot.kp c__law_pot.bd .nil pass0 (pa_cons (pv 0) (pa_cons (pv 1) pa_nil))) pa_nil)))) pa_nil)))), ?_⟩
    refine s_ret (ev_allT (el_lcR1 (fun _ => true) (fun _ => V.bl true) (ea_cons (ev_cb (ea_cons ev_c (ea_cons (ev_cb (ea_cons ev_c (ea_cons (ev_cb (ea_cons (ev_var rfl) ea_nil) (rc_len (.inl hs) e0)) ea_nil)) rc_min2) ea_nil)) rc_max2) ea_nil) ?_ (fun _ => rfl) (fun _ _ _ _ => lc_yes) (fun i H1 e1 hi _ => ?_))) k
    · split <;> split <;> omega
    · refine fun Ha ea Qa qa => ⟨.ref a, rfl, .int (i : Int), rfl, a, ns, (i : Int), rfl, ex_l (e1.trans ea) hs, by omega, ?_, fun p H2 hp e2 pot => ⟨p, rfl, pot, fun H3 e3 => qa H3 ((ex_pot e2 hp).trans e3)⟩⟩
      split at hi <;> split at hi <;> omega
theorem all_mk {h : Heap} {fa : Addr} (X : K.In h) (G : h.Ns mainGlobals mg) (hmg : mg "law" = some (.ref fa))
    {C : Addr}
    {tk_MOST_LENGTH : Tok}
    {tq_MOST_LENGTH : Tok}
    {tk_MOST_PIECES : Tok}
    {SZ : Addr} {es_SZ : Array DictEntry} {n_SZ : Nat} {tk_SZ_day tk_SZ_num tk_SZ_on tk_SZ_by tk_SZ_til tk_SZ_add tk_SZ_late tk_SZ_soon : Tok}
    {SY : Addr} {es_SY : Array DictEntry} {n_SY : Nat} {tk_SY_le tk_SY_and tk_SY_or tk_SY_not : Tok}
    {f_is_day : Addr} {od_is_day an_is_day : Option Addr} {sl_is_day : Array (Option Value)} {oc_is_day kV_is_day dc_is_day pm_is_day cd_is_day ct_is_day : Value}
    {f_is_count : Addr} {od_is_count an_is_count : Option Addr} {sl_is_count : Array (Option Value)} {oc_is_count kV_is_count dc_is_count pm_is_count cd_is_count ct_is_count : Value}
    {f_is_rule : Addr} {od_is_rule an_is_rule : Option Addr} {sl_is_rule : Array (Option Value)} {oc_is_rule kV_is_rule dc_is_rule pm_is_rule cd_is_rule ct_is_rule : Value}
    {f_is_name : Addr} {od_is_name an_is_name : Option Addr} {sl_is_name : Array (Option Value)} {oc_is_name kV_is_name dc_is_name pm_is_name cd_is_name ct_is_name : Value}
    {f_is_days : Addr} {od_is_days an_is_days : Option Addr} {sl_is_days : Array (Option Value)} {oc_is_days kV_is_days dc_is_days pm_is_days cd_is_days ct_is_days : Value}
    {f_need_day : Addr} {od_need_day an_need_day : Option Addr} {sl_need_day : Array (Option Value)} {oc_need_day kV_need_day dc_need_day pm_need_day cd_need_day ct_need_day : Value}
    {f_need_length : Addr} {od_need_length an_need_length : Option Addr} {sl_need_length : Array (Option Value)} {oc_need_length kV_need_length dc_need_length pm_need_length cd_need_length ct_need_length : Value}
    {f_need_days : Addr} {od_need_days an_need_days : Option Addr} {sl_need_days : Array (Option Value)} {oc_need_days kV_need_days dc_need_days pm_need_days cd_need_days ct_need_days : Value}
    {f_is_list : Addr} {od_is_list an_is_list : Option Addr} {sl_is_list : Array (Option Value)} {oc_is_list kV_is_list dc_is_list pm_is_list cd_is_list ct_is_list : Value}
    {f_parts_of : Addr} {od_parts_of an_parts_of : Option Addr} {sl_parts_of : Array (Option Value)} {oc_parts_of kV_parts_of dc_parts_of pm_parts_of cd_parts_of ct_parts_of : Value}
    {f_all_pieces : Addr} {od_all_pieces an_all_pieces : Option Addr} {sl_all_pieces : Array (Option Value)} {oc_all_pieces kV_all_pieces dc_all_pieces pm_all_pieces cd_all_pieces ct_all_pieces : Value}
    {f_names_in : Addr} {od_names_in an_names_in : Option Addr} {sl_names_in : Array (Option Value)} {oc_names_in kV_names_in dc_names_in pm_names_in cd_names_in ct_names_in : Value}
    {f_rules_in : Addr} {od_rules_in an_rules_in : Option Addr} {sl_rules_in : Array (Option Value)} {oc_rules_in kV_rules_in dc_rules_in pm_rules_in cd_rules_in ct_rules_in : Value}
    {f_need_few_pieces : Addr} {od_need_few_pieces an_need_few_pieces : Option Addr} {sl_need_few_pieces : Array (Option Value)} {oc_need_few_pieces kV_need_few_pieces dc_need_few_pieces pm_need_few_pieces cd_need_few_pieces ct_need_few_pieces : Value}
    {f_Table___init__ : Addr} {od_Table___init__ an_Table___init__ : Option Addr} {sl_Table___init__ : Array (Option Value)} {oc_Table___init__ kV_Table___init__ dc_Table___init__ pm_Table___init__ cd_Table___init__ ct_Table___init__ : Value}
    {f_Table_length : Addr} {od_Table_length an_Table_length : Option Addr} {sl_Table_length : Array (Option Value)} {oc_Table_length kV_Table_length dc_Table_length pm_Table_length cd_Table_length ct_Table_length : Value}
    {p_Table_length : Addr} {rs_Table_length : List Value}
    {f_Table_asked_rows : Addr} {od_Table_asked_rows an_Table_asked_rows : Option Addr} {sl_Table_asked_rows : Array (Option Value)} {oc_Table_asked_rows kV_Table_asked_rows dc_Table_asked_rows pm_Table_asked_rows cd_Table_asked_rows ct_Table_asked_rows : Value}
    {f_Table_on : Addr} {od_Table_on an_Table_on : Option Addr} {sl_Table_on : Array (Option Value)} {oc_Table_on kV_Table_on dc_Table_on pm_Table_on cd_Table_on ct_Table_on : Value}
    {f_Table_by : Addr} {od_Table_by an_Table_by : Option Addr} {sl_Table_by : Array (Option Value)} {oc_Table_by kV_Table_by dc_Table_by pm_Table_by cd_Table_by ct_Table_by : Value}
    {f_Table_til : Addr} {od_Table_til an_Table_til : Option Addr} {sl_Table_til : Array (Option Value)} {oc_Table_til kV_Table_til dc_Table_til pm_Table_til cd_Table_til ct_Table_til : Value}
    {f_Table_stretched : Addr} {od_Table_stretched an_Table_stretched : Option Addr} {sl_Table_stretched : Array (Option Value)} {oc_Table_stretched kV_Table_stretched dc_Table_stretched pm_Table_stretched cd_Table_stretched ct_Table_stretched : Value}
    {f_Table_shortest : Addr} {od_Table_shortest an_Table_shortest : Option Addr} {sl_Table_shortest : Array (Option Value)} {oc_Table_shortest kV_Table_shortest dc_Table_shortest pm_Table_shortest cd_Table_shortest ct_Table_shortest : Value}
    {f_is_table : Addr} {od_is_table an_is_table : Option Addr} {sl_is_table : Array (Option Value)} {oc_is_table kV_is_table dc_is_table pm_is_table cd_is_table ct_is_table : Value}
    {f_is_world : Addr} {od_is_world an_is_world : Option Addr} {sl_is_world : Array (Option Value)} {oc_is_world kV_is_world dc_is_world pm_is_world cd_is_world ct_is_world : Value}
    {f_need_world : Addr} {od_need_world an_need_world : Option Addr} {sl_need_world : Array (Option Value)} {oc_need_world kV_need_world dc_need_world pm_need_world cd_need_world ct_need_world : Value}
    {f__many_ahead : Addr} {od__many_ahead an__many_ahead : Option Addr} {sl__many_ahead : Array (Option Value)} {oc__many_ahead kV__many_ahead dc__many_ahead pm__many_ahead cd__many_ahead ct__many_ahead : Value}
    {f__repeats : Addr} {od__repeats an__repeats : Option Addr} {sl__repeats : Array (Option Value)} {oc__repeats kV__repeats dc__repeats pm__repeats cd__repeats ct__repeats : Value}
    {f_is_formula : Addr} {od_is_formula an_is_formula : Option Addr} {sl_is_formula : Array (Option Value)} {oc_is_formula kV_is_formula dc_is_formula pm_is_formula cd_is_formula ct_is_formula : Value}
    {f_need_formula : Addr} {od_need_formula an_need_formula : Option Addr} {sl_need_formula : Array (Option Value)} {oc_need_formula kV_need_formula dc_need_formula pm_need_formula cd_need_formula ct_need_formula : Value}
    {f_need_rules : Addr} {od_need_rules an_need_rules : Option Addr} {sl_need_rules : Array (Option Value)} {oc_need_rules kV_need_rules dc_need_rules pm_need_rules cd_need_rules ct_need_rules : Value}
    {f_need_names : Addr} {od_need_names an_need_names : Option Addr} {sl_need_names : Array (Option Value)} {oc_need_names kV_need_names dc_need_names pm_need_names cd_need_names ct_need_names : Value}
    {f_need_known : Addr} {od_need_known an_need_known : Option Addr} {sl_need_known : Array (Option Value)} {oc_need_known kV_need_known dc_need_known pm_need_known cd_need_known ct_need_known : Value}
    {f_day_of : Addr} {od_day_of an_day_of : Option Addr} {sl_day_of : Array (Option Value)} {oc_day_of kV_day_of dc_day_of pm_day_of cd_day_of ct_day_of : Value}
    {f_reckoned : Addr} {od_reckoned an_reckoned : Option Addr} {sl_reckoned : Array (Option Value)} {oc_reckoned kV_reckoned dc_reckoned pm_reckoned cd_reckoned ct_reckoned : Value}
    {f__is_piece : Addr} {od__is_piece an__is_piece : Option Addr} {sl__is_piece : Array (Option Value)} {oc__is_piece kV__is_piece dc__is_piece pm__is_piece cd__is_piece ct__is_piece : Value}
    {f_is_saying : Addr} {od_is_saying an_is_saying : Option Addr} {sl_is_saying : Array (Option Value)} {oc_is_saying kV_is_saying dc_is_saying pm_is_saying cd_is_saying ct_is_saying : Value}
    {f_need_saying : Addr} {od_need_saying an_need_saying : Option Addr} {sl_need_saying : Array (Option Value)} {oc_need_saying kV_need_saying dc_need_saying pm_need_saying cd_need_saying ct_need_saying : Value}
    {f_need_told : Addr} {od_need_told an_need_told : Option Addr} {sl_need_told : Array (Option Value)} {oc_need_told kV_need_told dc_need_told pm_need_told cd_need_told ct_need_told : Value}
    {f_holds : Addr} {od_holds an_holds : Option Addr} {sl_holds : Array (Option Value)} {oc_holds kV_holds dc_holds pm_holds cd_holds ct_holds : Value}
    {f_is_so : Addr} {od_is_so an_is_so : Option Addr} {sl_is_so : Array (Option Value)} {oc_is_so kV_is_so dc_is_so pm_is_so cd_is_so ct_is_so : Value}
    {f_pieces : Addr} {od_pieces an_pieces : Option Addr} {sl_pieces : Array (Option Value)} {oc_pieces kV_pieces dc_pieces pm_pieces cd_pieces ct_pieces : Value}
    {f_names_of : Addr} {od_names_of an_names_of : Option Addr} {sl_names_of : Array (Option Value)} {oc_names_of kV_names_of dc_names_of pm_names_of cd_names_of ct_names_of : Value}
    {f_rules_of : Addr} {od_rules_of an_rules_of : Option Addr} {sl_rules_of : Array (Option Value)} {oc_rules_of kV_rules_of dc_rules_of pm_rules_of cd_rules_of ct_rules_of : Value}
    {f__is_tuple_of_saying : Addr} {od__is_tuple_of_saying an__is_tuple_of_saying : Option Addr} {sl__is_tuple_of_saying : Array (Option Value)} {oc__is_tuple_of_saying kV__is_tuple_of_saying dc__is_tuple_of_saying pm__is_tuple_of_saying cd__is_tuple_of_saying ct__is_tuple_of_saying : Value}
    {f__law_pot : Addr} {od__law_pot an__law_pot : Option Addr} {sl__law_pot : Array (Option Value)} {oc__law_pot kV__law_pot dc__law_pot pm__law_pot cd__law_pot ct__law_pot : Value}
    {f__law_draw : Addr} {od__law_draw an__law_draw : Option Addr} {sl__law_draw : Array (Option Value)} {oc__law_draw kV__law_draw dc__law_draw pm__law_draw cd__law_draw ct__law_draw : Value}
    {f__law_pick : Addr} {od__law_pick an__law_pick : Option Addr} {sl__law_pick : Array (Option Value)} {oc__law_pick kV__law_pick dc__law_pick pm__law_pick cd__law_pick ct__law_pick : Value}
    {f__law_some : Addr} {od__law_some an__law_some : Option Addr} {sl__law_some : Array (Option Value)} {oc__law_some kV__law_some dc__law_some pm__law_some cd__law_some ct__law_some : Value}
    {f__law_number : Addr} {od__law_number an__law_number : Option Addr} {sl__law_number : Array (Option Value)} {oc__law_number kV__law_number dc__law_number pm__law_number cd__law_number ct__law_number : Value}
    {f__law_formula : Addr} {od__law_formula an__law_formula : Option Addr} {sl__law_formula : Array (Option Value)} {oc__law_formula kV__law_formula dc__law_formula pm__law_formula cd__law_formula ct__law_formula : Value}
    {f__law_saying : Addr} {od__law_saying an__law_saying : Option Addr} {sl__law_saying : Array (Option Value)} {oc__law_saying kV__law_saying dc__law_saying pm__law_saying cd__law_saying ct__law_saying : Value}
    {f__law_table : Addr} {od__law_table an__law_table : Option Addr} {sl__law_table : Array (Option Value)} {oc__law_table kV__law_table dc__law_table pm__law_table cd__law_table ct__law_table : Value}
    {f__law_on : Addr} {od__law_on an__law_on : Option Addr} {sl__law_on : Array (Option Value)} {oc__law_on kV__law_on dc__law_on pm__law_on cd__law_on ct__law_on : Value}
    {f__law_leads : Addr} {od__law_leads an__law_leads : Option Addr} {sl__law_leads : Array (Option Value)} {oc__law_leads kV__law_leads dc__law_leads pm__law_leads cd__law_leads ct__law_leads : Value}
    {f__law_by : Addr} {od__law_by an__law_by : Option Addr} {sl__law_by : Array (Option Value)} {oc__law_by kV__law_by dc__law_by pm__law_by cd__law_by ct__law_by : Value}
    {f__law_til : Addr} {od__law_til an__law_til : Option Addr} {sl__law_til : Array (Option Value)} {oc__law_til kV__law_til dc__law_til pm__law_til cd__law_til ct__law_til : Value}
    {f__law_day : Addr} {od__law_day an__law_day : Option Addr} {sl__law_day : Array (Option Value)} {oc__law_day kV__law_day dc__law_day pm__law_day cd__law_day ct__law_day : Value}
    {f__law_is_so : Addr} {od__law_is_so an__law_is_so : Option Addr} {sl__law_is_so : Array (Option Value)} {oc__law_is_so kV__law_is_so dc__law_is_so pm__law_is_so cd__law_is_so ct__law_is_so : Value}
    {f__law_parts : Addr} {od__law_parts an__law_parts : Option Addr} {sl__law_parts : Array (Option Value)} {oc__law_parts kV__law_parts dc__law_parts pm__law_parts cd__law_parts ct__law_parts : Value}
    {f__law_size : Addr} {od__law_size an__law_size : Option Addr} {sl__law_size : Array (Option Value)} {oc__law_size kV__law_size dc__law_size pm__law_size cd__law_size ct__law_size : Value}
    {f__law_letters : Addr} {od__law_letters an__law_letters : Option Addr} {sl__law_letters : Array (Option Value)} {oc__law_letters kV__law_letters dc__law_letters pm__law_letters cd__law_letters ct__law_letters : Value}
    {f__law_short : Addr} {od__law_short an__law_short : Option Addr} {sl__law_short : Array (Option Value)} {oc__law_short kV__law_short dc__law_short pm__law_short cd__law_short ct__law_short : Value}
    {f__law_days : Addr} {od__law_days an__law_days : Option Addr} {sl__law_days : Array (Option Value)} {oc__law_days kV__law_days dc__law_days pm__law_days cd__law_days ct__law_days : Value}
    {f__law_world : Addr} {od__law_world an__law_world : Option Addr} {sl__law_world : Array (Option Value)} {oc__law_world kV__law_world dc__law_world pm__law_world cd__law_world ct__law_world : Value}
    {f__law_tables : Addr} {od__law_tables an__law_tables : Option Addr} {sl__law_tables : Array (Option Value)} {oc__law_tables kV__law_tables dc__law_tables pm__law_tables cd__law_tables ct__law_tables : Value}
    {f__law_is_integer : Addr} {od__law_is_integer an__law_is_integer : Option Addr} {sl__law_is_integer : Array (Option Value)} {oc__law_is_integer kV__law_is_integer dc__law_is_integer pm__law_is_integer cd__law_is_integer ct__law_is_integer : Value}
    {f__law_turned : Addr} {od__law_turned an__law_turned : Option Addr} {sl__law_turned : Array (Option Value)} {oc__law_turned kV__law_turned dc__law_turned pm__law_turned cd__law_turned ct__law_turned : Value}
    {f__law_told_right : Addr} {od__law_told_right an__law_told_right : Option Addr} {sl__law_told_right : Array (Option Value)} {oc__law_told_right kV__law_told_right dc__law_told_right pm__law_told_right cd__law_told_right ct__law_told_right : Value}
    {f__law_other_tables : Addr} {od__law_other_tables an__law_other_tables : Option Addr} {sl__law_other_tables : Array (Option Value)} {oc__law_other_tables kV__law_other_tables dc__law_other_tables pm__law_other_tables cd__law_other_tables ct__law_other_tables : Value}
    {f__law_days_right : Addr} {od__law_days_right an__law_days_right : Option Addr} {sl__law_days_right : Array (Option Value)} {oc__law_days_right kV__law_days_right dc__law_days_right pm__law_days_right cd__law_days_right ct__law_days_right : Value}
    {f__law_facts_right : Addr} {od__law_facts_right an__law_facts_right : Option Addr} {sl__law_facts_right : Array (Option Value)} {oc__law_facts_right kV__law_facts_right dc__law_facts_right pm__law_facts_right cd__law_facts_right ct__law_facts_right : Value}
    {f__law_sayings_right : Addr} {od__law_sayings_right an__law_sayings_right : Option Addr} {sl__law_sayings_right : Array (Option Value)} {oc__law_sayings_right kV__law_sayings_right dc__law_sayings_right pm__law_sayings_right cd__law_sayings_right ct__law_sayings_right : Value}
    {f__law_right : Addr} {od__law_right an__law_right : Option Addr} {sl__law_right : Array (Option Value)} {oc__law_right kV__law_right dc__law_right pm__law_right cd__law_right ct__law_right : Value}
    {f_law : Addr} {od_law an_law : Option Addr} {sl_law : Array (Option Value)} {oc_law kV_law dc_law pm_law cd_law ct_law : Value}
    (aC : PySem.W.nsIn K mainGlobals "Table" = some (some (.ref C)))
    (pg : PySem.W.plainGet K C Str.empty = true)
    (hd : PySem.W.hasDictIn K C = true)
    (po : PySem.W.plainOver K C = true)
    (sa : PySem.W.findIn K (.ref C) "__setattr__" = some (some (.builtin "object.__setattr__")))
    (mk : PySem.W.makesIn K C = true)
    (kc : PySem.W.keepIn K (.ref C) = true)
    (n_days : PySem.W.findIn K (.ref C) "_days" = some none)
    (vMOST_LENGTH : PySem.W.findIn K (.ref C) "MOST_LENGTH" = some (some (.int 600 tk_MOST_LENGTH)))
    (wMOST_LENGTH : PySem.W.specialIn K (.int 600 tk_MOST_LENGTH) "__get__" = some none)
    (rd : PySem.W.readsIn K C (.type "type") = true)
    (ga : PySem.W.specialIn K (.ref C) "__getattribute__" = some (some (.builtin "type.__getattribute__")))
    (xMOST_LENGTH : PySem.W.findCls K (.ref C) (.type "type") "MOST_LENGTH" = some (.val (.int 600 tq_MOST_LENGTH)))
    (mo : PySem.W.mroIn K C (.type "object") = some true)
    (tc1 : PySem.W.findIn K (.ref C) "__class__" = some (some (.builtin "object.__class__")))
    (tc2 : PySem.W.specialIn K (.builtin "object.__class__") "__get__" = some (some (.builtin "getset_descriptor.__get__")))
    (tc3 : PySem.W.takesIn K (.builtin "object.__class__") = some true)
    (a_MOST_PIECES : PySem.W.nsIn K mainGlobals "MOST_PIECES" = some (some (.int 60 tk_MOST_PIECES)))
    (a_SZ : PySem.W.nsIn K mainGlobals "SIZES" = some (some (.ref SZ)))
    (l_SZ : K.lookup SZ = some ⟨.type "dict", none, .dict es_SZ n_SZ, #[]⟩)
    (kl_SZ : PySem.W.KeysLit w.params es_SZ.toList)
    (lo_SZ : (SZ == sysModules) = false)
    (v_SZ_day : PySem.W.nsIn K SZ "day" = some (some (.int 2 tk_SZ_day)))
    (v_SZ_num : PySem.W.nsIn K SZ "num" = some (some (.int 2 tk_SZ_num)))
    (v_SZ_on : PySem.W.nsIn K SZ "on" = some (some (.int 3 tk_SZ_on)))
    (v_SZ_by : PySem.W.nsIn K SZ "by" = some (some (.int 3 tk_SZ_by)))
    (v_SZ_til : PySem.W.nsIn K SZ "til" = some (some (.int 3 tk_SZ_til)))
    (v_SZ_add : PySem.W.nsIn K SZ "add" = some (some (.int 3 tk_SZ_add)))
    (v_SZ_late : PySem.W.nsIn K SZ "late" = some (some (.int 3 tk_SZ_late)))
    (v_SZ_soon : PySem.W.nsIn K SZ "soon" = some (some (.int 3 tk_SZ_soon)))
    (o_SZ_le : PySem.W.nsIn K SZ "le" = some none)
    (o_SZ_and : PySem.W.nsIn K SZ "and" = some none)
    (o_SZ_or : PySem.W.nsIn K SZ "or" = some none)
    (o_SZ_not : PySem.W.nsIn K SZ "not" = some none)
    (a_SY : PySem.W.nsIn K mainGlobals "SIZES_OF_SAYINGS" = some (some (.ref SY)))
    (l_SY : K.lookup SY = some ⟨.type "dict", none, .dict es_SY n_SY, #[]⟩)
    (kl_SY : PySem.W.KeysLit w.params es_SY.toList)
    (lo_SY : (SY == sysModules) = false)
    (v_SY_le : PySem.W.nsIn K SY "le" = some (some (.int 3 tk_SY_le)))
    (v_SY_and : PySem.W.nsIn K SY "and" = some (some (.int 3 tk_SY_and)))
    (v_SY_or : PySem.W.nsIn K SY "or" = some (some (.int 3 tk_SY_or)))
    (v_SY_not : PySem.W.nsIn K SY "not" = some (some (.int 2 tk_SY_not)))
    (a_is_day : PySem.W.nsIn K mainGlobals "is_day" = some (some (.ref f_is_day)))
    (l_is_day : K.lookup f_is_day = some ⟨oc_is_day, od_is_day, .func (PySem.W.fnOf "is_day" "is_day" (defArgs s_is_day) (defBody s_is_day) (defScope s_is_day) .none kV_is_day dc_is_day pm_is_day an_is_day cd_is_day ct_is_day), sl_is_day⟩)
    (c_is_day : PySem.W.codeIn K cd_is_day "is_day" = true)
    (k_is_day : PySem.W.keepIn K (.ref f_is_day) = true)
    (a_is_count : PySem.W.nsIn K mainGlobals "is_count" = some (some (.ref f_is_count)))
    (l_is_count : K.lookup f_is_count = some ⟨oc_is_count, od_is_count, .func (PySem.W.fnOf "is_count" "is_count" (defArgs s_is_count) (defBody s_is_count) (defScope s_is_count) .none kV_is_count dc_is_count pm_is_count an_is_count cd_is_count ct_is_count), sl_is_count⟩)
    (c_is_count : PySem.W.codeIn K cd_is_count "is_count" = true)
    (k_is_count : PySem.W.keepIn K (.ref f_is_count) = true)
    (a_is_rule : PySem.W.nsIn K mainGlobals "is_rule" = some (some (.ref f_is_rule)))
    (l_is_rule : K.lookup f_is_rule = some ⟨oc_is_rule, od_is_rule, .func (PySem.W.fnOf "is_rule" "is_rule" (defArgs s_is_rule) (defBody s_is_rule) (defScope s_is_rule) .none kV_is_rule dc_is_rule pm_is_rule an_is_rule cd_is_rule ct_is_rule), sl_is_rule⟩)
    (c_is_rule : PySem.W.codeIn K cd_is_rule "is_rule" = true)
    (k_is_rule : PySem.W.keepIn K (.ref f_is_rule) = true)
    (a_is_name : PySem.W.nsIn K mainGlobals "is_name" = some (some (.ref f_is_name)))
    (l_is_name : K.lookup f_is_name = some ⟨oc_is_name, od_is_name, .func (PySem.W.fnOf "is_name" "is_name" (defArgs s_is_name) (defBody s_is_name) (defScope s_is_name) .none kV_is_name dc_is_name pm_is_name an_is_name cd_is_name ct_is_name), sl_is_name⟩)
    (c_is_name : PySem.W.codeIn K cd_is_name "is_name" = true)
    (k_is_name : PySem.W.keepIn K (.ref f_is_name) = true)
    (a_is_days : PySem.W.nsIn K mainGlobals "is_days" = some (some (.ref f_is_days)))
    (l_is_days : K.lookup f_is_days = some ⟨oc_is_days, od_is_days, .func (PySem.W.fnOf "is_days" "is_days" (defArgs s_is_days) (defBody s_is_days) (defScope s_is_days) .none kV_is_days dc_is_days pm_is_days an_is_days cd_is_days ct_is_days), sl_is_days⟩)
    (c_is_days : PySem.W.codeIn K cd_is_days "is_days" = true)
    (k_is_days : PySem.W.keepIn K (.ref f_is_days) = true)
    (a_need_day : PySem.W.nsIn K mainGlobals "need_day" = some (some (.ref f_need_day)))
    (l_need_day : K.lookup f_need_day = some ⟨oc_need_day, od_need_day, .func (PySem.W.fnOf "need_day" "need_day" (defArgs s_need_day) (defBody s_need_day) (defScope s_need_day) .none kV_need_day dc_need_day pm_need_day an_need_day cd_need_day ct_need_day), sl_need_day⟩)
    (c_need_day : PySem.W.codeIn K cd_need_day "need_day" = true)
    (k_need_day : PySem.W.keepIn K (.ref f_need_day) = true)
    (a_need_length : PySem.W.nsIn K mainGlobals "need_length" = some (some (.ref f_need_length)))
    (l_need_length : K.lookup f_need_length = some ⟨oc_need_length, od_need_length, .func (PySem.W.fnOf "need_length" "need_length" (defArgs s_need_length) (defBody s_need_length) (defScope s_need_length) .none kV_need_length dc_need_length pm_need_length an_need_length cd_need_length ct_need_length), sl_need_length⟩)
    (c_need_length : PySem.W.codeIn K cd_need_length "need_length" = true)
    (k_need_length : PySem.W.keepIn K (.ref f_need_length) = true)
    (a_need_days : PySem.W.nsIn K mainGlobals "need_days" = some (some (.ref f_need_days)))
    (l_need_days : K.lookup f_need_days = some ⟨oc_need_days, od_need_days, .func (PySem.W.fnOf "need_days" "need_days" (defArgs s_need_days) (defBody s_need_days) (defScope s_need_days) .none kV_need_days dc_need_days pm_need_days an_need_days cd_need_days ct_need_days), sl_need_days⟩)
    (c_need_days : PySem.W.codeIn K cd_need_days "need_days" = true)
    (k_need_days : PySem.W.keepIn K (.ref f_need_days) = true)
    (a_is_list : PySem.W.nsIn K mainGlobals "is_list" = some (some (.ref f_is_list)))
    (l_is_list : K.lookup f_is_list = some ⟨oc_is_list, od_is_list, .func (PySem.W.fnOf "is_list" "is_list" (defArgs s_is_list) (defBody s_is_list) (defScope s_is_list) .none kV_is_list dc_is_list pm_is_list an_is_list cd_is_list ct_is_list), sl_is_list⟩)
    (c_is_list : PySem.W.codeIn K cd_is_list "is_list" = true)
    (k_is_list : PySem.W.keepIn K (.ref f_is_list) = true)
    (a_parts_of : PySem.W.nsIn K mainGlobals "parts_of" = some (some (.ref f_parts_of)))
    (l_parts_of : K.lookup f_parts_of = some ⟨oc_parts_of, od_parts_of, .func (PySem.W.fnOf "parts_of" "parts_of" (defArgs s_parts_of) (defBody s_parts_of) (defScope s_parts_of) .none kV_parts_of dc_parts_of pm_parts_of an_parts_of cd_parts_of ct_parts_of), sl_parts_of⟩)
    (c_parts_of : PySem.W.codeIn K cd_parts_of "parts_of" = true)
    (k_parts_of : PySem.W.keepIn K (.ref f_parts_of) = true)
    (a_all_pieces : PySem.W.nsIn K mainGlobals "all_pieces" = some (some (.ref f_all_pieces)))
    (l_all_pieces : K.lookup f_all_pieces = some ⟨oc_all_pieces, od_all_pieces, .func (PySem.W.fnOf "all_pieces" "all_pieces" (defArgs s_all_pieces) (defBody s_all_pieces) (defScope s_all_pieces) .none kV_all_pieces dc_all_pieces pm_all_pieces an_all_pieces cd_all_pieces ct_all_pieces), sl_all_pieces⟩)
    (c_all_pieces : PySem.W.codeIn K cd_all_pieces "all_pieces" = true)
    (k_all_pieces : PySem.W.keepIn K (.ref f_all_pieces) = true)
    (a_names_in : PySem.W.nsIn K mainGlobals "names_in" = some (some (.ref f_names_in)))
    (l_names_in : K.lookup f_names_in = some ⟨oc_names_in, od_names_in, .func (PySem.W.fnOf "names_in" "names_in" (defArgs s_names_in) (defBody s_names_in) (defScope s_names_in) .none kV_names_in dc_names_in pm_names_in an_names_in cd_names_in ct_names_in), sl_names_in⟩)
    (c_names_in : PySem.W.codeIn K cd_names_in "names_in" = true)
    (k_names_in : PySem.W.keepIn K (.ref f_names_in) = true)
    (a_rules_in : PySem.W.nsIn K mainGlobals "rules_in" = some (some (.ref f_rules_in)))
    (l_rules_in : K.lookup f_rules_in = some ⟨oc_rules_in, od_rules_in, .func (PySem.W.fnOf "rules_in" "rules_in" (defArgs s_rules_in) (defBody s_rules_in) (defScope s_rules_in) .none kV_rules_in dc_rules_in pm_rules_in an_rules_in cd_rules_in ct_rules_in), sl_rules_in⟩)
    (c_rules_in : PySem.W.codeIn K cd_rules_in "rules_in" = true)
    (k_rules_in : PySem.W.keepIn K (.ref f_rules_in) = true)
    (a_need_few_pieces : PySem.W.nsIn K mainGlobals "need_few_pieces" = some (some (.ref f_need_few_pieces)))
    (l_need_few_pieces : K.lookup f_need_few_pieces = some ⟨oc_need_few_pieces, od_need_few_pieces, .func (PySem.W.fnOf "need_few_pieces" "need_few_pieces" (defArgs s_need_few_pieces) (defBody s_need_few_pieces) (defScope s_need_few_pieces) .none kV_need_few_pieces dc_need_few_pieces pm_need_few_pieces an_need_few_pieces cd_need_few_pieces ct_need_few_pieces), sl_need_few_pieces⟩)
    (c_need_few_pieces : PySem.W.codeIn K cd_need_few_pieces "need_few_pieces" = true)
    (k_need_few_pieces : PySem.W.keepIn K (.ref f_need_few_pieces) = true)
    (a_Table___init__ : PySem.W.findIn K (.ref C) "__init__" = some (some (.ref f_Table___init__)))
    (i_Table___init__ : PySem.W.isFn K (.ref f_Table___init__) = true)
    (l_Table___init__ : K.lookup f_Table___init__ = some ⟨oc_Table___init__, od_Table___init__, .func (PySem.W.fnOf "__init__" "Table.__init__" (defArgs s_Table___init__) (defBody s_Table___init__) (defScope s_Table___init__) .none kV_Table___init__ dc_Table___init__ pm_Table___init__ an_Table___init__ cd_Table___init__ ct_Table___init__), sl_Table___init__⟩)
    (c_Table___init__ : PySem.W.codeIn K cd_Table___init__ "Table.__init__" = true)
    (k_Table___init__ : PySem.W.keepIn K (.ref f_Table___init__) = true)
    (a_Table_length : PySem.W.findIn K (.ref C) "length" = some (some (.ref p_Table_length)))
    (g_Table_length : PySem.W.specialIn K (.ref p_Table_length) "__get__" = some (some (.builtin "property.__get__")))
    (t_Table_length : PySem.W.takesIn K (.ref p_Table_length) = some true)
    (r_Table_length : PySem.W.recIn K p_Table_length "property" = some (.ref f_Table_length :: rs_Table_length))
    (l_Table_length : K.lookup f_Table_length = some ⟨oc_Table_length, od_Table_length, .func (PySem.W.fnOf "length" "Table.length" (defArgs s_Table_length) (defBody s_Table_length) (defScope s_Table_length) .none kV_Table_length dc_Table_length pm_Table_length an_Table_length cd_Table_length ct_Table_length), sl_Table_length⟩)
    (c_Table_length : PySem.W.codeIn K cd_Table_length "Table.length" = true)
    (k_Table_length : PySem.W.keepIn K (.ref f_Table_length) = true)
    (a_Table_asked_rows : PySem.W.findIn K (.ref C) "asked_rows" = some (some (.ref f_Table_asked_rows)))
    (i_Table_asked_rows : PySem.W.isFn K (.ref f_Table_asked_rows) = true)
    (l_Table_asked_rows : K.lookup f_Table_asked_rows = some ⟨oc_Table_asked_rows, od_Table_asked_rows, .func (PySem.W.fnOf "asked_rows" "Table.asked_rows" (defArgs s_Table_asked_rows) (defBody s_Table_asked_rows) (defScope s_Table_asked_rows) .none kV_Table_asked_rows dc_Table_asked_rows pm_Table_asked_rows an_Table_asked_rows cd_Table_asked_rows ct_Table_asked_rows), sl_Table_asked_rows⟩)
    (c_Table_asked_rows : PySem.W.codeIn K cd_Table_asked_rows "Table.asked_rows" = true)
    (k_Table_asked_rows : PySem.W.keepIn K (.ref f_Table_asked_rows) = true)
    (a_Table_on : PySem.W.findIn K (.ref C) "on" = some (some (.ref f_Table_on)))
    (i_Table_on : PySem.W.isFn K (.ref f_Table_on) = true)
    (l_Table_on : K.lookup f_Table_on = some ⟨oc_Table_on, od_Table_on, .func (PySem.W.fnOf "on" "Table.on" (defArgs s_Table_on) (defBody s_Table_on) (defScope s_Table_on) .none kV_Table_on dc_Table_on pm_Table_on an_Table_on cd_Table_on ct_Table_on), sl_Table_on⟩)
    (c_Table_on : PySem.W.codeIn K cd_Table_on "Table.on" = true)
    (k_Table_on : PySem.W.keepIn K (.ref f_Table_on) = true)
    (a_Table_by : PySem.W.findIn K (.ref C) "by" = some (some (.ref f_Table_by)))
    (i_Table_by : PySem.W.isFn K (.ref f_Table_by) = true)
    (l_Table_by : K.lookup f_Table_by = some ⟨oc_Table_by, od_Table_by, .func (PySem.W.fnOf "by" "Table.by" (defArgs s_Table_by) (defBody s_Table_by) (defScope s_Table_by) .none kV_Table_by dc_Table_by pm_Table_by an_Table_by cd_Table_by ct_Table_by), sl_Table_by⟩)
    (c_Table_by : PySem.W.codeIn K cd_Table_by "Table.by" = true)
    (k_Table_by : PySem.W.keepIn K (.ref f_Table_by) = true)
    (a_Table_til : PySem.W.findIn K (.ref C) "til" = some (some (.ref f_Table_til)))
    (i_Table_til : PySem.W.isFn K (.ref f_Table_til) = true)
    (l_Table_til : K.lookup f_Table_til = some ⟨oc_Table_til, od_Table_til, .func (PySem.W.fnOf "til" "Table.til" (defArgs s_Table_til) (defBody s_Table_til) (defScope s_Table_til) .none kV_Table_til dc_Table_til pm_Table_til an_Table_til cd_Table_til ct_Table_til), sl_Table_til⟩)
    (c_Table_til : PySem.W.codeIn K cd_Table_til "Table.til" = true)
    (k_Table_til : PySem.W.keepIn K (.ref f_Table_til) = true)
    (a_Table_stretched : PySem.W.findIn K (.ref C) "stretched" = some (some (.ref f_Table_stretched)))
    (i_Table_stretched : PySem.W.isFn K (.ref f_Table_stretched) = true)
    (l_Table_stretched : K.lookup f_Table_stretched = some ⟨oc_Table_stretched, od_Table_stretched, .func (PySem.W.fnOf "stretched" "Table.stretched" (defArgs s_Table_stretched) (defBody s_Table_stretched) (defScope s_Table_stretched) .none kV_Table_stretched dc_Table_stretched pm_Table_stretched an_Table_stretched cd_Table_stretched ct_Table_stretched), sl_Table_stretched⟩)
    (c_Table_stretched : PySem.W.codeIn K cd_Table_stretched "Table.stretched" = true)
    (k_Table_stretched : PySem.W.keepIn K (.ref f_Table_stretched) = true)
    (a_Table_shortest : PySem.W.findIn K (.ref C) "shortest" = some (some (.ref f_Table_shortest)))
    (i_Table_shortest : PySem.W.isFn K (.ref f_Table_shortest) = true)
    (l_Table_shortest : K.lookup f_Table_shortest = some ⟨oc_Table_shortest, od_Table_shortest, .func (PySem.W.fnOf "shortest" "Table.shortest" (defArgs s_Table_shortest) (defBody s_Table_shortest) (defScope s_Table_shortest) .none kV_Table_shortest dc_Table_shortest pm_Table_shortest an_Table_shortest cd_Table_shortest ct_Table_shortest), sl_Table_shortest⟩)
    (c_Table_shortest : PySem.W.codeIn K cd_Table_shortest "Table.shortest" = true)
    (k_Table_shortest : PySem.W.keepIn K (.ref f_Table_shortest) = true)
    (a_is_table : PySem.W.nsIn K mainGlobals "is_table" = some (some (.ref f_is_table)))
    (l_is_table : K.lookup f_is_table = some ⟨oc_is_table, od_is_table, .func (PySem.W.fnOf "is_table" "is_table" (defArgs s_is_table) (defBody s_is_table) (defScope s_is_table) .none kV_is_table dc_is_table pm_is_table an_is_table cd_is_table ct_is_table), sl_is_table⟩)
    (c_is_table : PySem.W.codeIn K cd_is_table "is_table" = true)
    (k_is_table : PySem.W.keepIn K (.ref f_is_table) = true)
    (a_is_world : PySem.W.nsIn K mainGlobals "is_world" = some (some (.ref f_is_world)))
    (l_is_world : K.lookup f_is_world = some ⟨oc_is_world, od_is_world, .func (PySem.W.fnOf "is_world" "is_world" (defArgs s_is_world) (defBody s_is_world) (defScope s_is_world) .none kV_is_world dc_is_world pm_is_world an_is_world cd_is_world ct_is_world), sl_is_world⟩)
    (c_is_world : PySem.W.codeIn K cd_is_world "is_world" = true)
    (k_is_world : PySem.W.keepIn K (.ref f_is_world) = true)
    (a_need_world : PySem.W.nsIn K mainGlobals "need_world" = some (some (.ref f_need_world)))
    (l_need_world : K.lookup f_need_world = some ⟨oc_need_world, od_need_world, .func (PySem.W.fnOf "need_world" "need_world" (defArgs s_need_world) (defBody s_need_world) (defScope s_need_world) .none kV_need_world dc_need_world pm_need_world an_need_world cd_need_world ct_need_world), sl_need_world⟩)
    (c_need_world : PySem.W.codeIn K cd_need_world "need_world" = true)
    (k_need_world : PySem.W.keepIn K (.ref f_need_world) = true)
    (a__many_ahead : PySem.W.nsIn K mainGlobals "_many_ahead" = some (some (.ref f__many_ahead)))
    (l__many_ahead : K.lookup f__many_ahead = some ⟨oc__many_ahead, od__many_ahead, .func (PySem.W.fnOf "_many_ahead" "_many_ahead" (defArgs s__many_ahead) (defBody s__many_ahead) (defScope s__many_ahead) .none kV__many_ahead dc__many_ahead pm__many_ahead an__many_ahead cd__many_ahead ct__many_ahead), sl__many_ahead⟩)
    (c__many_ahead : PySem.W.codeIn K cd__many_ahead "_many_ahead" = true)
    (k__many_ahead : PySem.W.keepIn K (.ref f__many_ahead) = true)
    (a__repeats : PySem.W.nsIn K mainGlobals "_repeats" = some (some (.ref f__repeats)))
    (l__repeats : K.lookup f__repeats = some ⟨oc__repeats, od__repeats, .func (PySem.W.fnOf "_repeats" "_repeats" (defArgs s__repeats) (defBody s__repeats) (defScope s__repeats) .none kV__repeats dc__repeats pm__repeats an__repeats cd__repeats ct__repeats), sl__repeats⟩)
    (c__repeats : PySem.W.codeIn K cd__repeats "_repeats" = true)
    (k__repeats : PySem.W.keepIn K (.ref f__repeats) = true)
    (a_is_formula : PySem.W.nsIn K mainGlobals "is_formula" = some (some (.ref f_is_formula)))
    (l_is_formula : K.lookup f_is_formula = some ⟨oc_is_formula, od_is_formula, .func (PySem.W.fnOf "is_formula" "is_formula" (defArgs s_is_formula) (defBody s_is_formula) (defScope s_is_formula) .none kV_is_formula dc_is_formula pm_is_formula an_is_formula cd_is_formula ct_is_formula), sl_is_formula⟩)
    (c_is_formula : PySem.W.codeIn K cd_is_formula "is_formula" = true)
    (k_is_formula : PySem.W.keepIn K (.ref f_is_formula) = true)
    (a_need_formula : PySem.W.nsIn K mainGlobals "need_formula" = some (some (.ref f_need_formula)))
    (l_need_formula : K.lookup f_need_formula = some ⟨oc_need_formula, od_need_formula, .func (PySem.W.fnOf "need_formula" "need_formula" (defArgs s_need_formula) (defBody s_need_formula) (defScope s_need_formula) .none kV_need_formula dc_need_formula pm_need_formula an_need_formula cd_need_formula ct_need_formula), sl_need_formula⟩)
    (c_need_formula : PySem.W.codeIn K cd_need_formula "need_formula" = true)
    (k_need_formula : PySem.W.keepIn K (.ref f_need_formula) = true)
    (a_need_rules : PySem.W.nsIn K mainGlobals "need_rules" = some (some (.ref f_need_rules)))
    (l_need_rules : K.lookup f_need_rules = some ⟨oc_need_rules, od_need_rules, .func (PySem.W.fnOf "need_rules" "need_rules" (defArgs s_need_rules) (defBody s_need_rules) (defScope s_need_rules) .none kV_need_rules dc_need_rules pm_need_rules an_need_rules cd_need_rules ct_need_rules), sl_need_rules⟩)
    (c_need_rules : PySem.W.codeIn K cd_need_rules "need_rules" = true)
    (k_need_rules : PySem.W.keepIn K (.ref f_need_rules) = true)
    (a_need_names : PySem.W.nsIn K mainGlobals "need_names" = some (some (.ref f_need_names)))
    (l_need_names : K.lookup f_need_names = some ⟨oc_need_names, od_need_names, .func (PySem.W.fnOf "need_names" "need_names" (defArgs s_need_names) (defBody s_need_names) (defScope s_need_names) .none kV_need_names dc_need_names pm_need_names an_need_names cd_need_names ct_need_names), sl_need_names⟩)
    (c_need_names : PySem.W.codeIn K cd_need_names "need_names" = true)
    (k_need_names : PySem.W.keepIn K (.ref f_need_names) = true)
    (a_need_known : PySem.W.nsIn K mainGlobals "need_known" = some (some (.ref f_need_known)))
    (l_need_known : K.lookup f_need_known = some ⟨oc_need_known, od_need_known, .func (PySem.W.fnOf "need_known" "need_known" (defArgs s_need_known) (defBody s_need_known) (defScope s_need_known) .none kV_need_known dc_need_known pm_need_known an_need_known cd_need_known ct_need_known), sl_need_known⟩)
    (c_need_known : PySem.W.codeIn K cd_need_known "need_known" = true)
    (k_need_known : PySem.W.keepIn K (.ref f_need_known) = true)
    (a_day_of : PySem.W.nsIn K mainGlobals "day_of" = some (some (.ref f_day_of)))
    (l_day_of : K.lookup f_day_of = some ⟨oc_day_of, od_day_of, .func (PySem.W.fnOf "day_of" "day_of" (defArgs s_day_of) (defBody s_day_of) (defScope s_day_of) .none kV_day_of dc_day_of pm_day_of an_day_of cd_day_of ct_day_of), sl_day_of⟩)
    (c_day_of : PySem.W.codeIn K cd_day_of "day_of" = true)
    (k_day_of : PySem.W.keepIn K (.ref f_day_of) = true)
    (a_reckoned : PySem.W.nsIn K mainGlobals "reckoned" = some (some (.ref f_reckoned)))
    (l_reckoned : K.lookup f_reckoned = some ⟨oc_reckoned, od_reckoned, .func (PySem.W.fnOf "reckoned" "reckoned" (defArgs s_reckoned) (defBody s_reckoned) (defScope s_reckoned) .none kV_reckoned dc_reckoned pm_reckoned an_reckoned cd_reckoned ct_reckoned), sl_reckoned⟩)
    (c_reckoned : PySem.W.codeIn K cd_reckoned "reckoned" = true)
    (k_reckoned : PySem.W.keepIn K (.ref f_reckoned) = true)
    (a__is_piece : PySem.W.nsIn K mainGlobals "_is_piece" = some (some (.ref f__is_piece)))
    (l__is_piece : K.lookup f__is_piece = some ⟨oc__is_piece, od__is_piece, .func (PySem.W.fnOf "_is_piece" "_is_piece" (defArgs s__is_piece) (defBody s__is_piece) (defScope s__is_piece) .none kV__is_piece dc__is_piece pm__is_piece an__is_piece cd__is_piece ct__is_piece), sl__is_piece⟩)
    (c__is_piece : PySem.W.codeIn K cd__is_piece "_is_piece" = true)
    (k__is_piece : PySem.W.keepIn K (.ref f__is_piece) = true)
    (a_is_saying : PySem.W.nsIn K mainGlobals "is_saying" = some (some (.ref f_is_saying)))
    (l_is_saying : K.lookup f_is_saying = some ⟨oc_is_saying, od_is_saying, .func (PySem.W.fnOf "is_saying" "is_saying" (defArgs s_is_saying) (defBody s_is_saying) (defScope s_is_saying) .none kV_is_saying dc_is_saying pm_is_saying an_is_saying cd_is_saying ct_is_saying), sl_is_saying⟩)
    (c_is_saying : PySem.W.codeIn K cd_is_saying "is_saying" = true)
    (k_is_saying : PySem.W.keepIn K (.ref f_is_saying) = true)
    (a_need_saying : PySem.W.nsIn K mainGlobals "need_saying" = some (some (.ref f_need_saying)))
    (l_need_saying : K.lookup f_need_saying = some ⟨oc_need_saying, od_need_saying, .func (PySem.W.fnOf "need_saying" "need_saying" (defArgs s_need_saying) (defBody s_need_saying) (defScope s_need_saying) .none kV_need_saying dc_need_saying pm_need_saying an_need_saying cd_need_saying ct_need_saying), sl_need_saying⟩)
    (c_need_saying : PySem.W.codeIn K cd_need_saying "need_saying" = true)
    (k_need_saying : PySem.W.keepIn K (.ref f_need_saying) = true)
    (a_need_told : PySem.W.nsIn K mainGlobals "need_told" = some (some (.ref f_need_told)))
    (l_need_told : K.lookup f_need_told = some ⟨oc_need_told, od_need_told, .func (PySem.W.fnOf "need_told" "need_told" (defArgs s_need_told) (defBody s_need_told) (defScope s_need_told) .none kV_need_told dc_need_told pm_need_told an_need_told cd_need_told ct_need_told), sl_need_told⟩)
    (c_need_told : PySem.W.codeIn K cd_need_told "need_told" = true)
    (k_need_told : PySem.W.keepIn K (.ref f_need_told) = true)
    (a_holds : PySem.W.nsIn K mainGlobals "holds" = some (some (.ref f_holds)))
    (l_holds : K.lookup f_holds = some ⟨oc_holds, od_holds, .func (PySem.W.fnOf "holds" "holds" (defArgs s_holds) (defBody s_holds) (defScope s_holds) .none kV_holds dc_holds pm_holds an_holds cd_holds ct_holds), sl_holds⟩)
    (c_holds : PySem.W.codeIn K cd_holds "holds" = true)
    (k_holds : PySem.W.keepIn K (.ref f_holds) = true)
    (a_is_so : PySem.W.nsIn K mainGlobals "is_so" = some (some (.ref f_is_so)))
    (l_is_so : K.lookup f_is_so = some ⟨oc_is_so, od_is_so, .func (PySem.W.fnOf "is_so" "is_so" (defArgs s_is_so) (defBody s_is_so) (defScope s_is_so) .none kV_is_so dc_is_so pm_is_so an_is_so cd_is_so ct_is_so), sl_is_so⟩)
    (c_is_so : PySem.W.codeIn K cd_is_so "is_so" = true)
    (k_is_so : PySem.W.keepIn K (.ref f_is_so) = true)
    (a_pieces : PySem.W.nsIn K mainGlobals "pieces" = some (some (.ref f_pieces)))
    (l_pieces : K.lookup f_pieces = some ⟨oc_pieces, od_pieces, .func (PySem.W.fnOf "pieces" "pieces" (defArgs s_pieces) (defBody s_pieces) (defScope s_pieces) .none kV_pieces dc_pieces pm_pieces an_pieces cd_pieces ct_pieces), sl_pieces⟩)
    (c_pieces : PySem.W.codeIn K cd_pieces "pieces" = true)
    (k_pieces : PySem.W.keepIn K (.ref f_pieces) = true)
    (a_names_of : PySem.W.nsIn K mainGlobals "names_of" = some (some (.ref f_names_of)))
    (l_names_of : K.lookup f_names_of = some ⟨oc_names_of, od_names_of, .func (PySem.W.fnOf "names_of" "names_of" (defArgs s_names_of) (defBody s_names_of) (defScope s_names_of) .none kV_names_of dc_names_of pm_names_of an_names_of cd_names_of ct_names_of), sl_names_of⟩)
    (c_names_of : PySem.W.codeIn K cd_names_of "names_of" = true)
    (k_names_of : PySem.W.keepIn K (.ref f_names_of) = true)
    (a_rules_of : PySem.W.nsIn K mainGlobals "rules_of" = some (some (.ref f_rules_of)))
    (l_rules_of : K.lookup f_rules_of = some ⟨oc_rules_of, od_rules_of, .func (PySem.W.fnOf "rules_of" "rules_of" (defArgs s_rules_of) (defBody s_rules_of) (defScope s_rules_of) .none kV_rules_of dc_rules_of pm_rules_of an_rules_of cd_rules_of ct_rules_of), sl_rules_of⟩)
    (c_rules_of : PySem.W.codeIn K cd_rules_of "rules_of" = true)
    (k_rules_of : PySem.W.keepIn K (.ref f_rules_of) = true)
    (a__is_tuple_of_saying : PySem.W.nsIn K mainGlobals "_is_tuple_of_saying" = some (some (.ref f__is_tuple_of_saying)))
    (l__is_tuple_of_saying : K.lookup f__is_tuple_of_saying = some ⟨oc__is_tuple_of_saying, od__is_tuple_of_saying, .func (PySem.W.fnOf "_is_tuple_of_saying" "_is_tuple_of_saying" (defArgs s__is_tuple_of_saying) (defBody s__is_tuple_of_saying) (defScope s__is_tuple_of_saying) .none kV__is_tuple_of_saying dc__is_tuple_of_saying pm__is_tuple_of_saying an__is_tuple_of_saying cd__is_tuple_of_saying ct__is_tuple_of_saying), sl__is_tuple_of_saying⟩)
    (c__is_tuple_of_saying : PySem.W.codeIn K cd__is_tuple_of_saying "_is_tuple_of_saying" = true)
    (k__is_tuple_of_saying : PySem.W.keepIn K (.ref f__is_tuple_of_saying) = true)
    (a__law_pot : PySem.W.nsIn K mainGlobals "_law_pot" = some (some (.ref f__law_pot)))
    (l__law_pot : K.lookup f__law_pot = some ⟨oc__law_pot, od__law_pot, .func (PySem.W.fnOf "_law_pot" "_law_pot" (defArgs s__law_pot) (defBody s__law_pot) (defScope s__law_pot) .none kV__law_pot dc__law_pot pm__law_pot an__law_pot cd__law_pot ct__law_pot), sl__law_pot⟩)
    (c__law_pot : PySem.W.codeIn K cd__law_pot "_law_pot" = true)
    (k__law_pot : PySem.W.keepIn K (.ref f__law_pot) = true)
    (a__law_draw : PySem.W.nsIn K mainGlobals "_law_draw" = some (some (.ref f__law_draw)))
    (l__law_draw : K.lookup f__law_draw = some ⟨oc__law_draw, od__law_draw, .func (PySem.W.fnOf "_law_draw" "_law_draw" (defArgs s__law_draw) (defBody s__law_draw) (defScope s__law_draw) .none kV__law_draw dc__law_draw pm__law_draw an__law_draw cd__law_draw ct__law_draw), sl__law_draw⟩)
    (c__law_draw : PySem.W.codeIn K cd__law_draw "_law_draw" = true)
    (k__law_draw : PySem.W.keepIn K (.ref f__law_draw) = true)
    (a__law_pick : PySem.W.nsIn K mainGlobals "_law_pick" = some (some (.ref f__law_pick)))
    (l__law_pick : K.lookup f__law_pick = some ⟨oc__law_pick, od__law_pick, .func (PySem.W.fnOf "_law_pick" "_law_pick" (defArgs s__law_pick) (defBody s__law_pick) (defScope s__law_pick) .none kV__law_pick dc__law_pick pm__law_pick an__law_pick cd__law_pick ct__law_pick), sl__law_pick⟩)
    (c__law_pick : PySem.W.codeIn K cd__law_pick "_law_pick" = true)
    (k__law_pick : PySem.W.keepIn K (.ref f__law_pick) = true)
    (a__law_some : PySem.W.nsIn K mainGlobals "_law_some" = some (some (.ref f__law_some)))
    (l__law_some : K.lookup f__law_some = some ⟨oc__law_some, od__law_some, .func (PySem.W.fnOf "_law_some" "_law_some" (defArgs s__law_some) (defBody s__law_some) (defScope s__law_some) .none kV__law_some dc__law_some pm__law_some an__law_some cd__law_some ct__law_some), sl__law_some⟩)
    (c__law_some : PySem.W.codeIn K cd__law_some "_law_some" = true)
    (k__law_some : PySem.W.keepIn K (.ref f__law_some) = true)
    (a__law_number : PySem.W.nsIn K mainGlobals "_law_number" = some (some (.ref f__law_number)))
    (l__law_number : K.lookup f__law_number = some ⟨oc__law_number, od__law_number, .func (PySem.W.fnOf "_law_number" "_law_number" (defArgs s__law_number) (defBody s__law_number) (defScope s__law_number) .none kV__law_number dc__law_number pm__law_number an__law_number cd__law_number ct__law_number), sl__law_number⟩)
    (c__law_number : PySem.W.codeIn K cd__law_number "_law_number" = true)
    (k__law_number : PySem.W.keepIn K (.ref f__law_number) = true)
    (a__law_formula : PySem.W.nsIn K mainGlobals "_law_formula" = some (some (.ref f__law_formula)))
    (l__law_formula : K.lookup f__law_formula = some ⟨oc__law_formula, od__law_formula, .func (PySem.W.fnOf "_law_formula" "_law_formula" (defArgs s__law_formula) (defBody s__law_formula) (defScope s__law_formula) .none kV__law_formula dc__law_formula pm__law_formula an__law_formula cd__law_formula ct__law_formula), sl__law_formula⟩)
    (c__law_formula : PySem.W.codeIn K cd__law_formula "_law_formula" = true)
    (k__law_formula : PySem.W.keepIn K (.ref f__law_formula) = true)
    (a__law_saying : PySem.W.nsIn K mainGlobals "_law_saying" = some (some (.ref f__law_saying)))
    (l__law_saying : K.lookup f__law_saying = some ⟨oc__law_saying, od__law_saying, .func (PySem.W.fnOf "_law_saying" "_law_saying" (defArgs s__law_saying) (defBody s__law_saying) (defScope s__law_saying) .none kV__law_saying dc__law_saying pm__law_saying an__law_saying cd__law_saying ct__law_saying), sl__law_saying⟩)
    (c__law_saying : PySem.W.codeIn K cd__law_saying "_law_saying" = true)
    (k__law_saying : PySem.W.keepIn K (.ref f__law_saying) = true)
    (a__law_table : PySem.W.nsIn K mainGlobals "_law_table" = some (some (.ref f__law_table)))
    (l__law_table : K.lookup f__law_table = some ⟨oc__law_table, od__law_table, .func (PySem.W.fnOf "_law_table" "_law_table" (defArgs s__law_table) (defBody s__law_table) (defScope s__law_table) .none kV__law_table dc__law_table pm__law_table an__law_table cd__law_table ct__law_table), sl__law_table⟩)
    (c__law_table : PySem.W.codeIn K cd__law_table "_law_table" = true)
    (k__law_table : PySem.W.keepIn K (.ref f__law_table) = true)
    (a__law_on : PySem.W.nsIn K mainGlobals "_law_on" = some (some (.ref f__law_on)))
    (l__law_on : K.lookup f__law_on = some ⟨oc__law_on, od__law_on, .func (PySem.W.fnOf "_law_on" "_law_on" (defArgs s__law_on) (defBody s__law_on) (defScope s__law_on) .none kV__law_on dc__law_on pm__law_on an__law_on cd__law_on ct__law_on), sl__law_on⟩)
    (c__law_on : PySem.W.codeIn K cd__law_on "_law_on" = true)
    (k__law_on : PySem.W.keepIn K (.ref f__law_on) = true)
    (a__law_leads : PySem.W.nsIn K mainGlobals "_law_leads" = some (some (.ref f__law_leads)))
    (l__law_leads : K.lookup f__law_leads = some ⟨oc__law_leads, od__law_leads, .func (PySem.W.fnOf "_law_leads" "_law_leads" (defArgs s__law_leads) (defBody s__law_leads) (defScope s__law_leads) .none kV__law_leads dc__law_leads pm__law_leads an__law_leads cd__law_leads ct__law_leads), sl__law_leads⟩)
    (c__law_leads : PySem.W.codeIn K cd__law_leads "_law_leads" = true)
    (k__law_leads : PySem.W.keepIn K (.ref f__law_leads) = true)
    (a__law_by : PySem.W.nsIn K mainGlobals "_law_by" = some (some (.ref f__law_by)))
    (l__law_by : K.lookup f__law_by = some ⟨oc__law_by, od__law_by, .func (PySem.W.fnOf "_law_by" "_law_by" (defArgs s__law_by) (defBody s__law_by) (defScope s__law_by) .none kV__law_by dc__law_by pm__law_by an__law_by cd__law_by ct__law_by), sl__law_by⟩)
    (c__law_by : PySem.W.codeIn K cd__law_by "_law_by" = true)
    (k__law_by : PySem.W.keepIn K (.ref f__law_by) = true)
    (a__law_til : PySem.W.nsIn K mainGlobals "_law_til" = some (some (.ref f__law_til)))
    (l__law_til : K.lookup f__law_til = some ⟨oc__law_til, od__law_til, .func (PySem.W.fnOf "_law_til" "_law_til" (defArgs s__law_til) (defBody s__law_til) (defScope s__law_til) .none kV__law_til dc__law_til pm__law_til an__law_til cd__law_til ct__law_til), sl__law_til⟩)
    (c__law_til : PySem.W.codeIn K cd__law_til "_law_til" = true)
    (k__law_til : PySem.W.keepIn K (.ref f__law_til) = true)
    (a__law_day : PySem.W.nsIn K mainGlobals "_law_day" = some (some (.ref f__law_day)))
    (l__law_day : K.lookup f__law_day = some ⟨oc__law_day, od__law_day, .func (PySem.W.fnOf "_law_day" "_law_day" (defArgs s__law_day) (defBody s__law_day) (defScope s__law_day) .none kV__law_day dc__law_day pm__law_day an__law_day cd__law_day ct__law_day), sl__law_day⟩)
    (c__law_day : PySem.W.codeIn K cd__law_day "_law_day" = true)
    (k__law_day : PySem.W.keepIn K (.ref f__law_day) = true)
    (a__law_is_so : PySem.W.nsIn K mainGlobals "_law_is_so" = some (some (.ref f__law_is_so)))
    (l__law_is_so : K.lookup f__law_is_so = some ⟨oc__law_is_so, od__law_is_so, .func (PySem.W.fnOf "_law_is_so" "_law_is_so" (defArgs s__law_is_so) (defBody s__law_is_so) (defScope s__law_is_so) .none kV__law_is_so dc__law_is_so pm__law_is_so an__law_is_so cd__law_is_so ct__law_is_so), sl__law_is_so⟩)
    (c__law_is_so : PySem.W.codeIn K cd__law_is_so "_law_is_so" = true)
    (k__law_is_so : PySem.W.keepIn K (.ref f__law_is_so) = true)
    (a__law_parts : PySem.W.nsIn K mainGlobals "_law_parts" = some (some (.ref f__law_parts)))
    (l__law_parts : K.lookup f__law_parts = some ⟨oc__law_parts, od__law_parts, .func (PySem.W.fnOf "_law_parts" "_law_parts" (defArgs s__law_parts) (defBody s__law_parts) (defScope s__law_parts) .none kV__law_parts dc__law_parts pm__law_parts an__law_parts cd__law_parts ct__law_parts), sl__law_parts⟩)
    (c__law_parts : PySem.W.codeIn K cd__law_parts "_law_parts" = true)
    (k__law_parts : PySem.W.keepIn K (.ref f__law_parts) = true)
    (a__law_size : PySem.W.nsIn K mainGlobals "_law_size" = some (some (.ref f__law_size)))
    (l__law_size : K.lookup f__law_size = some ⟨oc__law_size, od__law_size, .func (PySem.W.fnOf "_law_size" "_law_size" (defArgs s__law_size) (defBody s__law_size) (defScope s__law_size) .none kV__law_size dc__law_size pm__law_size an__law_size cd__law_size ct__law_size), sl__law_size⟩)
    (c__law_size : PySem.W.codeIn K cd__law_size "_law_size" = true)
    (k__law_size : PySem.W.keepIn K (.ref f__law_size) = true)
    (a__law_letters : PySem.W.nsIn K mainGlobals "_law_letters" = some (some (.ref f__law_letters)))
    (l__law_letters : K.lookup f__law_letters = some ⟨oc__law_letters, od__law_letters, .func (PySem.W.fnOf "_law_letters" "_law_letters" (defArgs s__law_letters) (defBody s__law_letters) (defScope s__law_letters) .none kV__law_letters dc__law_letters pm__law_letters an__law_letters cd__law_letters ct__law_letters), sl__law_letters⟩)
    (c__law_letters : PySem.W.codeIn K cd__law_letters "_law_letters" = true)
    (k__law_letters : PySem.W.keepIn K (.ref f__law_letters) = true)
    (a__law_short : PySem.W.nsIn K mainGlobals "_law_short" = some (some (.ref f__law_short)))
    (l__law_short : K.lookup f__law_short = some ⟨oc__law_short, od__law_short, .func (PySem.W.fnOf "_law_short" "_law_short" (defArgs s__law_short) (defBody s__law_short) (defScope s__law_short) .none kV__law_short dc__law_short pm__law_short an__law_short cd__law_short ct__law_short), sl__law_short⟩)
    (c__law_short : PySem.W.codeIn K cd__law_short "_law_short" = true)
    (k__law_short : PySem.W.keepIn K (.ref f__law_short) = true)
    (a__law_days : PySem.W.nsIn K mainGlobals "_law_days" = some (some (.ref f__law_days)))
    (l__law_days : K.lookup f__law_days = some ⟨oc__law_days, od__law_days, .func (PySem.W.fnOf "_law_days" "_law_days" (defArgs s__law_days) (defBody s__law_days) (defScope s__law_days) .none kV__law_days dc__law_days pm__law_days an__law_days cd__law_days ct__law_days), sl__law_days⟩)
    (c__law_days : PySem.W.codeIn K cd__law_days "_law_days" = true)
    (k__law_days : PySem.W.keepIn K (.ref f__law_days) = true)
    (a__law_world : PySem.W.nsIn K mainGlobals "_law_world" = some (some (.ref f__law_world)))
    (l__law_world : K.lookup f__law_world = some ⟨oc__law_world, od__law_world, .func (PySem.W.fnOf "_law_world" "_law_world" (defArgs s__law_world) (defBody s__law_world) (defScope s__law_world) .none kV__law_world dc__law_world pm__law_world an__law_world cd__law_world ct__law_world), sl__law_world⟩)
    (c__law_world : PySem.W.codeIn K cd__law_world "_law_world" = true)
    (k__law_world : PySem.W.keepIn K (.ref f__law_world) = true)
    (a__law_tables : PySem.W.nsIn K mainGlobals "_law_tables" = some (some (.ref f__law_tables)))
    (l__law_tables : K.lookup f__law_tables = some ⟨oc__law_tables, od__law_tables, .func (PySem.W.fnOf "_law_tables" "_law_tables" (defArgs s__law_tables) (defBody s__law_tables) (defScope s__law_tables) .none kV__law_tables dc__law_tables pm__law_tables an__law_tables cd__law_tables ct__law_tables), sl__law_tables⟩)
    (c__law_tables : PySem.W.codeIn K cd__law_tables "_law_tables" = true)
    (k__law_tables : PySem.W.keepIn K (.ref f__law_tables) = true)
    (a__law_is_integer : PySem.W.nsIn K mainGlobals "_law_is_integer" = some (some (.ref f__law_is_integer)))
    (l__law_is_integer : K.lookup f__law_is_integer = some ⟨oc__law_is_integer, od__law_is_integer, .func (PySem.W.fnOf "_law_is_integer" "_law_is_integer" (defArgs s__law_is_integer) (defBody s__law_is_integer) (defScope s__law_is_integer) .none kV__law_is_integer dc__law_is_integer pm__law_is_integer an__law_is_integer cd__law_is_integer ct__law_is_integer), sl__law_is_integer⟩)
    (c__law_is_integer : PySem.W.codeIn K cd__law_is_integer "_law_is_integer" = true)
    (k__law_is_integer : PySem.W.keepIn K (.ref f__law_is_integer) = true)
    (a__law_turned : PySem.W.nsIn K mainGlobals "_law_turned" = some (some (.ref f__law_turned)))
    (l__law_turned : K.lookup f__law_turned = some ⟨oc__law_turned, od__law_turned, .func (PySem.W.fnOf "_law_turned" "_law_turned" (defArgs s__law_turned) (defBody s__law_turned) (defScope s__law_turned) .none kV__law_turned dc__law_turned pm__law_turned an__law_turned cd__law_turned ct__law_turned), sl__law_turned⟩)
    (c__law_turned : PySem.W.codeIn K cd__law_turned "_law_turned" = true)
    (k__law_turned : PySem.W.keepIn K (.ref f__law_turned) = true)
    (a__law_told_right : PySem.W.nsIn K mainGlobals "_law_told_right" = some (some (.ref f__law_told_right)))
    (l__law_told_right : K.lookup f__law_told_right = some ⟨oc__law_told_right, od__law_told_right, .func (PySem.W.fnOf "_law_told_right" "_law_told_right" (defArgs s__law_told_right) (defBody s__law_told_right) (defScope s__law_told_right) .none kV__law_told_right dc__law_told_right pm__law_told_right an__law_told_right cd__law_told_right ct__law_told_right), sl__law_told_right⟩)
    (c__law_told_right : PySem.W.codeIn K cd__law_told_right "_law_told_right" = true)
    (k__law_told_right : PySem.W.keepIn K (.ref f__law_told_right) = true)
    (a__law_other_tables : PySem.W.nsIn K mainGlobals "_law_other_tables" = some (some (.ref f__law_other_tables)))
    (l__law_other_tables : K.lookup f__law_other_tables = some ⟨oc__law_other_tables, od__law_other_tables, .func (PySem.W.fnOf "_law_other_tables" "_law_other_tables" (defArgs s__law_other_tables) (defBody s__law_other_tables) (defScope s__law_other_tables) .none kV__law_other_tables dc__law_other_tables pm__law_other_tables an__law_other_tables cd__law_other_tables ct__law_other_tables), sl__law_other_tables⟩)
    (c__law_other_tables : PySem.W.codeIn K cd__law_other_tables "_law_other_tables" = true)
    (k__law_other_tables : PySem.W.keepIn K (.ref f__law_other_tables) = true)
    (a__law_days_right : PySem.W.nsIn K mainGlobals "_law_days_right" = some (some (.ref f__law_days_right)))
    (l__law_days_right : K.lookup f__law_days_right = some ⟨oc__law_days_right, od__law_days_right, .func (PySem.W.fnOf "_law_days_right" "_law_days_right" (defArgs s__law_days_right) (defBody s__law_days_right) (defScope s__law_days_right) .none kV__law_days_right dc__law_days_right pm__law_days_right an__law_days_right cd__law_days_right ct__law_days_right), sl__law_days_right⟩)
    (c__law_days_right : PySem.W.codeIn K cd__law_days_right "_law_days_right" = true)
    (k__law_days_right : PySem.W.keepIn K (.ref f__law_days_right) = true)
    (a__law_facts_right : PySem.W.nsIn K mainGlobals "_law_facts_right" = some (some (.ref f__law_facts_right)))
    (l__law_facts_right : K.lookup f__law_facts_right = some ⟨oc__law_facts_right, od__law_facts_right, .func (PySem.W.fnOf "_law_facts_right" "_law_facts_right" (defArgs s__law_facts_right) (defBody s__law_facts_right) (defScope s__law_facts_right) .none kV__law_facts_right dc__law_facts_right pm__law_facts_right an__law_facts_right cd__law_facts_right ct__law_facts_right), sl__law_facts_right⟩)
    (c__law_facts_right : PySem.W.codeIn K cd__law_facts_right "_law_facts_right" = true)
    (k__law_facts_right : PySem.W.keepIn K (.ref f__law_facts_right) = true)
    (a__law_sayings_right : PySem.W.nsIn K mainGlobals "_law_sayings_right" = some (some (.ref f__law_sayings_right)))
    (l__law_sayings_right : K.lookup f__law_sayings_right = some ⟨oc__law_sayings_right, od__law_sayings_right, .func (PySem.W.fnOf "_law_sayings_right" "_law_sayings_right" (defArgs s__law_sayings_right) (defBody s__law_sayings_right) (defScope s__law_sayings_right) .none kV__law_sayings_right dc__law_sayings_right pm__law_sayings_right an__law_sayings_right cd__law_sayings_right ct__law_sayings_right), sl__law_sayings_right⟩)
    (c__law_sayings_right : PySem.W.codeIn K cd__law_sayings_right "_law_sayings_right" = true)
    (k__law_sayings_right : PySem.W.keepIn K (.ref f__law_sayings_right) = true)
    (a__law_right : PySem.W.nsIn K mainGlobals "_law_right" = some (some (.ref f__law_right)))
    (l__law_right : K.lookup f__law_right = some ⟨oc__law_right, od__law_right, .func (PySem.W.fnOf "_law_right" "_law_right" (defArgs s__law_right) (defBody s__law_right) (defScope s__law_right) .none kV__law_right dc__law_right pm__law_right an__law_right cd__law_right ct__law_right), sl__law_right⟩)
    (c__law_right : PySem.W.codeIn K cd__law_right "_law_right" = true)
    (k__law_right : PySem.W.keepIn K (.ref f__law_right) = true)
    (a_law : PySem.W.nsIn K mainGlobals "law" = some (some (.ref f_law)))
    (l_law : K.lookup f_law = some ⟨oc_law, od_law, .func (PySem.W.fnOf "law" "law" (defArgs s_law) (defBody s_law) (defScope s_law) .none kV_law dc_law pm_law an_law cd_law ct_law), sl_law⟩)
    (c_law : PySem.W.codeIn K cd_law "law" = true)
    (k_law : PySem.W.keepIn K (.ref f_law) = true)
    (b_isinstance : PySem.W.nsIn K mainGlobals "isinstance" = some none)
    (b_int : PySem.W.nsIn K mainGlobals "int" = some none)
    (b_bool : PySem.W.nsIn K mainGlobals "bool" = some none)
    (b_list : PySem.W.nsIn K mainGlobals "list" = some none)
    (b_tuple : PySem.W.nsIn K mainGlobals "tuple" = some none)
    (b_str : PySem.W.nsIn K mainGlobals "str" = some none)
    (b_dict : PySem.W.nsIn K mainGlobals "dict" = some none)
    (b_len : PySem.W.nsIn K mainGlobals "len" = some none)
    (b_enumerate : PySem.W.nsIn K mainGlobals "enumerate" = some none)
    (b_range : PySem.W.nsIn K mainGlobals "range" = some none)
    (b_divmod : PySem.W.nsIn K mainGlobals "divmod" = some none)
    (b_min : PySem.W.nsIn K mainGlobals "min" = some none)
    (b_max : PySem.W.nsIn K mainGlobals "max" = some none)
    (b_all : PySem.W.nsIn K mainGlobals "all" = some none)
    (b_abs : PySem.W.nsIn K mainGlobals "abs" = some none)
    (b_repr : PySem.W.nsIn K mainGlobals "repr" = some none)
    (b_sum : PySem.W.nsIn K mainGlobals "sum" = some none)
    (b_set : PySem.W.nsIn K mainGlobals "set" = some none)
    (b_sorted : PySem.W.nsIn K mainGlobals "sorted" = some none)
    : ∃ fd : FuncData, (∀ (s : Shared) (u : Value), BindsTo s fd ⟨[u], []⟩ [("_law_script", u)]) ∧ ∀ base : Heap, K.In base → base.Ns mainGlobals mg → FnG P w K mg base CX0 32 fa fd ["_law_script"] (sp_law K) := by
  have ef : fa = f_law := by
    have z := PySem.W.mg_of X G a_law
    rw [hmg] at z
    cases z
    rfl
  subst ef
  have T : Txt P w K mg C SZ SY := { cl := ⟨pg, hd, po, sa⟩, nD := n_days, kc := kc, mki := mk, mg_Table := PySem.W.mg_of X G aC, tyC := fun H a dx fs e => .ins e ⟨pg, hd, po, sa⟩ tc1 tc2 tc3 mo, cM := ⟨_, _, ⟨rd, ga⟩, ⟨xMOST_LENGTH, ⟨_, rfl⟩⟩⟩, cL := ⟨_, vMOST_LENGTH, ⟨_, rfl⟩, wMOST_LENGTH, rfl⟩, z := kd_mk l_SZ kl_SZ lo_SZ (fm_cons ⟨_, v_SZ_day⟩ (fm_cons ⟨_, v_SZ_num⟩ (fm_cons ⟨_, v_SZ_on⟩ (fm_cons ⟨_, v_SZ_by⟩ (fm_cons ⟨_, v_SZ_til⟩ (fm_cons ⟨_, v_SZ_add⟩ (fm_cons ⟨_, v_SZ_late⟩ (fm_cons ⟨_, v_SZ_soon⟩ (fm_nil))))))))) (fm_cons o_SZ_le (fm_cons o_SZ_and (fm_cons o_SZ_or (fm_cons o_SZ_not (fm_nil))))), mg_SIZES := PySem.W.mg_of X G a_SZ, y := kd_mk l_SY kl_SY lo_SY (fm_cons ⟨_, v_SY_le⟩ (fm_cons ⟨_, v_SY_and⟩ (fm_cons ⟨_, v_SY_or⟩ (fm_cons ⟨_, v_SY_not⟩ (fm_nil))))) fm_nil, mg_SIZES_OF_SAYINGS := PySem.W.mg_of X G a_SY, mg_MOST_PIECES := ⟨_, PySem.W.mg_of X G a_MOST_PIECES⟩, b_isinstance := PySem.W.mg_none_of X G b_isinstance, b_int := PySem.W.mg_none_of X G b_int, b_bool := PySem.W.mg_none_of X G b_bool, b_list := PySem.W.mg_none_of X G b_list, b_tuple := PySem.W.mg_none_of X G b_tuple, b_str := PySem.W.mg_none_of X G b_str, b_dict := PySem.W.mg_none_of X G b_dict, b_len := PySem.W.mg_none_of X G b_len, b_enumerate := PySem.W.mg_none_of X G b_enumerate, b_range := PySem.W.mg_none_of X G b_range, b_divmod := PySem.W.mg_none_of X G b_divmod, b_min := PySem.W.mg_none_of X G b_min, b_max := PySem.W.mg_none_of X G b_max, b_all := PySem.W.mg_none_of X G b_all, b_abs := PySem.W.mg_none_of X G b_abs, b_repr := PySem.W.mg_none_of X G b_repr, b_sum := PySem.W.mg_none_of X G b_sum, b_set := PySem.W.mg_none_of X G b_set, b_sorted := PySem.W.mg_none_of X G b_sorted }
  have F_is_day := fun_mk (K := K) (st := s_is_day) l_is_day c_is_day k_is_day
  have bd_is_day : Binds K _ ["value"] [] := F_is_day.binds (fun _ _ _ _ _ _ => us_1 fun _ => rfl)
  have F_is_count := fun_mk (K := K) (st := s_is_count) l_is_count c_is_count k_is_count
  have bd_is_count : Binds K _ ["value"] [] := F_is_count.binds (fun _ _ _ _ _ _ => us_1 fun _ => rfl)
  have F_is_rule := fun_mk (K := K) (st := s_is_rule) l_is_rule c_is_rule k_is_rule
  have bd_is_rule : Binds K _ ["value"] [] := F_is_rule.binds (fun _ _ _ _ _ _ => us_1 fun _ => rfl)
  have F_is_name := fun_mk (K := K) (st := s_is_name) l_is_name c_is_name k_is_name
  have bd_is_name : Binds K _ ["value"] [] := F_is_name.binds (fun _ _ _ _ _ _ => us_1 fun _ => rfl)
  have F_is_days := fun_mk (K := K) (st := s_is_days) l_is_days c_is_days k_is_days
  have bd_is_days : Binds K _ ["value"] [] := F_is_days.binds (fun _ _ _ _ _ _ => us_1 fun _ => rfl)
  have F_need_day := fun_mk (K := K) (st := s_need_day) l_need_day c_need_day k_need_day
  have bd_need_day : Binds K _ ["value"] [] := F_need_day.binds (fun _ _ _ _ _ _ => us_1 fun _ => rfl)
  have F_need_length := fun_mk (K := K) (st := s_need_length) l_need_length c_need_length k_need_length
  have bd_need_length : Binds K _ ["value"] [] := F_need_length.binds (fun _ _ _ _ _ _ => us_1 fun _ => rfl)
  have F_need_days := fun_mk (K := K) (st := s_need_days) l_need_days c_need_days k_need_days
  have bd_need_days : Binds K _ ["value"] [] := F_need_days.binds (fun _ _ _ _ _ _ => us_1 fun _ => rfl)
  have F_is_list := fun_mk (K := K) (st := s_is_list) l_is_list c_is_list k_is_list
  have bd_is_list : Binds K _ ["value"] [] := F_is_list.binds (fun _ _ _ _ _ _ => us_1 fun _ => rfl)
  have F_parts_of := fun_mk (K := K) (st := s_parts_of) l_parts_of c_parts_of k_parts_of
  have bd_parts_of : Binds K _ ["told"] [] := F_parts_of.binds (fun _ _ _ _ _ _ => us_1 fun _ => rfl)
  have F_all_pieces := fun_mk (K := K) (st := s_all_pieces) l_all_pieces c_all_pieces k_all_pieces
  have bd_all_pieces : Binds K _ ["told"] [] := F_all_pieces.binds (fun _ _ _ _ _ _ => us_1 fun _ => rfl)
  have F_names_in := fun_mk (K := K) (st := s_names_in) l_names_in c_names_in k_names_in
  have bd_names_in : Binds K _ ["told"] [] := F_names_in.binds (fun _ _ _ _ _ _ => us_1 fun _ => rfl)
  have F_rules_in := fun_mk (K := K) (st := s_rules_in) l_rules_in c_rules_in k_rules_in
  have bd_rules_in : Binds K _ ["told"] [] := F_rules_in.binds (fun _ _ _ _ _ _ => us_1 fun _ => rfl)
  have F_need_few_pieces := fun_mk (K := K) (st := s_need_few_pieces) l_need_few_pieces c_need_few_pieces k_need_few_pieces
  have bd_need_few_pieces : Binds K _ ["tolds"] [] := F_need_few_pieces.binds (fun _ _ _ _ _ _ => us_1 fun _ => rfl)
  have F_Table___init__ := fun_mk (K := K) (st := s_Table___init__) l_Table___init__ c_Table___init__ k_Table___init__
  have bd_Table___init__ : Binds K _ ["self", "days"] [] := F_Table___init__.binds (fun _ _ _ _ _ _ => us_2 fun _ _ => rfl)
  have F_Table_length := fun_mk (K := K) (st := s_Table_length) l_Table_length c_Table_length k_Table_length
  have bd_Table_length : Binds K _ ["self"] [] := F_Table_length.binds (fun _ _ _ _ _ _ => us_1 fun _ => rfl)
  have F_Table_asked_rows := fun_mk (K := K) (st := s_Table_asked_rows) l_Table_asked_rows c_Table_asked_rows k_Table_asked_rows
  have bd_Table_asked_rows : Binds K _ ["self"] [] := F_Table_asked_rows.binds (fun _ _ _ _ _ _ => us_1 fun _ => rfl)
  have F_Table_on := fun_mk (K := K) (st := s_Table_on) l_Table_on c_Table_on k_Table_on
  have bd_Table_on : Binds K _ ["self", "day"] [] := F_Table_on.binds (fun _ _ _ _ _ _ => us_2 fun _ _ => rfl)
  have F_Table_by := fun_mk (K := K) (st := s_Table_by) l_Table_by c_Table_by k_Table_by
  have bd_Table_by : Binds K _ ["self", "day"] [] := F_Table_by.binds (fun _ _ _ _ _ _ => us_2 fun _ _ => rfl)
  have F_Table_til := fun_mk (K := K) (st := s_Table_til) l_Table_til c_Table_til k_Table_til
  have bd_Table_til : Binds K _ ["self", "day"] [] := F_Table_til.binds (fun _ _ _ _ _ _ => us_2 fun _ _ => rfl)
  have F_Table_stretched := fun_mk (K := K) (st := s_Table_stretched) l_Table_stretched c_Table_stretched k_Table_stretched
  have bd_Table_stretched : Binds K _ ["self", "count"] [] := F_Table_stretched.binds (fun _ _ _ _ _ _ => us_2 fun _ _ => rfl)
  have F_Table_shortest := fun_mk (K := K) (st := s_Table_shortest) l_Table_shortest c_Table_shortest k_Table_shortest
  have bd_Table_shortest : Binds K _ ["self"] [] := F_Table_shortest.binds (fun _ _ _ _ _ _ => us_1 fun _ => rfl)
  have F_is_table := fun_mk (K := K) (st := s_is_table) l_is_table c_is_table k_is_table
  have bd_is_table : Binds K _ ["value"] [] := F_is_table.binds (fun _ _ _ _ _ _ => us_1 fun _ => rfl)
  have F_is_world := fun_mk (K := K) (st := s_is_world) l_is_world c_is_world k_is_world
  have bd_is_world : Binds K _ ["value"] [] := F_is_world.binds (fun _ _ _ _ _ _ => us_1 fun _ => rfl)
  have F_need_world := fun_mk (K := K) (st := s_need_world) l_need_world c_need_world k_need_world
  have bd_need_world : Binds K _ ["value"] [] := F_need_world.binds (fun _ _ _ _ _ _ => us_1 fun _ => rfl)
  have F__many_ahead := fun_mk (K := K) (st := s__many_ahead) l__many_ahead c__many_ahead k__many_ahead
  have bd__many_ahead : Binds K _ ["days", "day"] [] := F__many_ahead.binds (fun _ _ _ _ _ _ => us_2 fun _ _ => rfl)
  have F__repeats := fun_mk (K := K) (st := s__repeats) l__repeats c__repeats k__repeats
  have bd__repeats : Binds K _ ["table", "length"] [] := F__repeats.binds (fun _ _ _ _ _ _ => us_2 fun _ _ => rfl)
  have F_is_formula := fun_mk (K := K) (st := s_is_formula) l_is_formula c_is_formula k_is_formula
  have bd_is_formula : Binds K _ ["value"] [] := F_is_formula.binds (fun _ _ _ _ _ _ => us_1 fun _ => rfl)
  have F_need_formula := fun_mk (K := K) (st := s_need_formula) l_need_formula c_need_formula k_need_formula
  have bd_need_formula : Binds K _ ["value"] [] := F_need_formula.binds (fun _ _ _ _ _ _ => us_1 fun _ => rfl)
  have F_need_rules := fun_mk (K := K) (st := s_need_rules) l_need_rules c_need_rules k_need_rules
  have bd_need_rules : Binds K _ ["told", "world"] [] := F_need_rules.binds (fun _ _ _ _ _ _ => us_2 fun _ _ => rfl)
  have F_need_names := fun_mk (K := K) (st := s_need_names) l_need_names c_need_names k_need_names
  have bd_need_names : Binds K _ ["told", "days"] [] := F_need_names.binds (fun _ _ _ _ _ _ => us_2 fun _ _ => rfl)
  have F_need_known := fun_mk (K := K) (st := s_need_known) l_need_known c_need_known k_need_known
  have bd_need_known : Binds K _ ["told", "days", "world"] [] := F_need_known.binds (fun _ _ _ _ _ _ => us_3 fun _ _ _ => rfl)
  have F_day_of := fun_mk (K := K) (st := s_day_of) l_day_of c_day_of k_day_of
  have bd_day_of : Binds K _ ["formula", "days", "world"] [] := F_day_of.binds (fun _ _ _ _ _ _ => us_3 fun _ _ _ => rfl)
  have F_reckoned := fun_mk (K := K) (st := s_reckoned) l_reckoned c_reckoned k_reckoned
  have bd_reckoned : Binds K _ ["formula", "days", "rules"] [] := F_reckoned.binds (fun _ _ _ _ _ _ => us_3 fun _ _ _ => rfl)
  have F__is_piece := fun_mk (K := K) (st := s__is_piece) l__is_piece c__is_piece k__is_piece
  have bd__is_piece : Binds K _ ["value"] [] := F__is_piece.binds (fun _ _ _ _ _ _ => us_1 fun _ => rfl)
  have F_is_saying := fun_mk (K := K) (st := s_is_saying) l_is_saying c_is_saying k_is_saying
  have bd_is_saying : Binds K _ ["value"] [] := F_is_saying.binds (fun _ _ _ _ _ _ => us_1 fun _ => rfl)
  have F_need_saying := fun_mk (K := K) (st := s_need_saying) l_need_saying c_need_saying k_need_saying
  have bd_need_saying : Binds K _ ["value"] [] := F_need_saying.binds (fun _ _ _ _ _ _ => us_1 fun _ => rfl)
  have F_need_told := fun_mk (K := K) (st := s_need_told) l_need_told c_need_told k_need_told
  have bd_need_told : Binds K _ ["value"] [] := F_need_told.binds (fun _ _ _ _ _ _ => us_1 fun _ => rfl)
  have F_holds := fun_mk (K := K) (st := s_holds) l_holds c_holds k_holds
  have bd_holds : Binds K _ ["saying", "days", "world"] [] := F_holds.binds (fun _ _ _ _ _ _ => us_3 fun _ _ _ => rfl)
  have F_is_so := fun_mk (K := K) (st := s_is_so) l_is_so c_is_so k_is_so
  have bd_is_so : Binds K _ ["saying", "days", "rules"] [] := F_is_so.binds (fun _ _ _ _ _ _ => us_3 fun _ _ _ => rfl)
  have F_pieces := fun_mk (K := K) (st := s_pieces) l_pieces c_pieces k_pieces
  have bd_pieces : Binds K _ ["told"] [] := F_pieces.binds (fun _ _ _ _ _ _ => us_1 fun _ => rfl)
  have F_names_of := fun_mk (K := K) (st := s_names_of) l_names_of c_names_of k_names_of
  have bd_names_of : Binds K _ ["told"] [] := F_names_of.binds (fun _ _ _ _ _ _ => us_1 fun _ => rfl)
  have F_rules_of := fun_mk (K := K) (st := s_rules_of) l_rules_of c_rules_of k_rules_of
  have bd_rules_of : Binds K _ ["told"] [] := F_rules_of.binds (fun _ _ _ _ _ _ => us_1 fun _ => rfl)
  have F__is_tuple_of_saying := fun_mk (K := K) (st := s__is_tuple_of_saying) l__is_tuple_of_saying c__is_tuple_of_saying k__is_tuple_of_saying
  have bd__is_tuple_of_saying : Binds K _ ["value"] [] := F__is_tuple_of_saying.binds (fun _ _ _ _ _ _ => us_1 fun _ => rfl)
  have F__law_pot := fun_mk (K := K) (st := s__law_pot) l__law_pot c__law_pot k__law_pot
  have bd__law_pot : Binds K _ ["_law_script", "_law_k"] [] := F__law_pot.binds (fun _ _ _ _ _ _ => us_2 fun _ _ => rfl)
  have F__law_draw := fun_mk (K := K) (st := s__law_draw) l__law_draw c__law_draw k__law_draw
  have bd__law_draw : Binds K _ ["_law_pot_here", "_law_many"] [] := F__law_draw.binds (fun _ _ _ _ _ _ => us_2 fun _ _ => rfl)
  have F__law_pick := fun_mk (K := K) (st := s__law_pick) l__law_pick c__law_pick k__law_pick
  have bd__law_pick : Binds K _ ["_law_pot_here", "_law_some_here"] [] := F__law_pick.binds (fun _ _ _ _ _ _ => us_2 fun _ _ => rfl)
  have F__law_some := fun_mk (K := K) (st := s__law_some) l__law_some c__law_some k__law_some
  have bd__law_some : Binds K _ ["_law_pot_here", "_law_letters_here", "_law_many"] [] := F__law_some.binds (fun _ _ _ _ _ _ => us_3 fun _ _ _ => rfl)
  have F__law_number := fun_mk (K := K) (st := s__law_number) l__law_number c__law_number k__law_number
  have bd__law_number : Binds K _ ["_law_pot_here"] [] := F__law_number.binds (fun _ _ _ _ _ _ => us_1 fun _ => rfl)
  have F__law_formula := fun_mk (K := K) (st := s__law_formula) l__law_formula c__law_formula k__law_formula
  have bd__law_formula : Binds K _ ["_law_pot_here", "_law_deep", "_law_names", "_law_rules"] [] := F__law_formula.binds (fun _ _ _ _ _ _ => us_4 fun _ _ _ _ => rfl)
  have F__law_saying := fun_mk (K := K) (st := s__law_saying) l__law_saying c__law_saying k__law_saying
  have bd__law_saying : Binds K _ ["_law_pot_here", "_law_deep", "_law_names", "_law_rules"] [] := F__law_saying.binds (fun _ _ _ _ _ _ => us_4 fun _ _ _ _ => rfl)
  have F__law_table := fun_mk (K := K) (st := s__law_table) l__law_table c__law_table k__law_table
  have bd__law_table : Binds K _ ["_law_pot_here"] [] := F__law_table.binds (fun _ _ _ _ _ _ => us_1 fun _ => rfl)
  have F__law_on := fun_mk (K := K) (st := s__law_on) l__law_on c__law_on k__law_on
  have bd__law_on : Binds K _ ["_law_days_here", "_law_day_here"] [] := F__law_on.binds (fun _ _ _ _ _ _ => us_2 fun _ _ => rfl)
  have F__law_leads := fun_mk (K := K) (st := s__law_leads) l__law_leads c__law_leads k__law_leads
  have bd__law_leads : Binds K _ ["_law_days_here"] [] := F__law_leads.binds (fun _ _ _ _ _ _ => us_1 fun _ => rfl)
  have F__law_by := fun_mk (K := K) (st := s__law_by) l__law_by c__law_by k__law_by
  have bd__law_by : Binds K _ ["_law_days_here", "_law_day_here"] [] := F__law_by.binds (fun _ _ _ _ _ _ => us_2 fun _ _ => rfl)
  have F__law_til := fun_mk (K := K) (st := s__law_til) l__law_til c__law_til k__law_til
  have bd__law_til : Binds K _ ["_law_days_here", "_law_day_here"] [] := F__law_til.binds (fun _ _ _ _ _ _ => us_2 fun _ _ => rfl)
  have F__law_day := fun_mk (K := K) (st := s__law_day) l__law_day c__law_day k__law_day
  have bd__law_day : Binds K _ ["_law_formula_here", "_law_days_here", "_law_world_here"] [] := F__law_day.binds (fun _ _ _ _ _ _ => us_3 fun _ _ _ => rfl)
  have F__law_is_so := fun_mk (K := K) (st := s__law_is_so) l__law_is_so c__law_is_so k__law_is_so
  have bd__law_is_so : Binds K _ ["_law_saying_here", "_law_days_here", "_law_world_here"] [] := F__law_is_so.binds (fun _ _ _ _ _ _ => us_3 fun _ _ _ => rfl)
  have F__law_parts := fun_mk (K := K) (st := s__law_parts) l__law_parts c__law_parts k__law_parts
  have bd__law_parts : Binds K _ ["_law_told"] [] := F__law_parts.binds (fun _ _ _ _ _ _ => us_1 fun _ => rfl)
  have F__law_size := fun_mk (K := K) (st := s__law_size) l__law_size c__law_size k__law_size
  have bd__law_size : Binds K _ ["_law_told"] [] := F__law_size.binds (fun _ _ _ _ _ _ => us_1 fun _ => rfl)
  have F__law_letters := fun_mk (K := K) (st := s__law_letters) l__law_letters c__law_letters k__law_letters
  have bd__law_letters : Binds K _ ["_law_told", "_law_words"] [] := F__law_letters.binds (fun _ _ _ _ _ _ => us_2 fun _ _ => rfl)
  have F__law_short := fun_mk (K := K) (st := s__law_short) l__law_short c__law_short k__law_short
  have bd__law_short : Binds K _ ["_law_pot_here", "_law_deep", "_law_names", "_law_rules", "_law_most"] [] := F__law_short.binds (fun _ _ _ _ _ _ => us_5 fun _ _ _ _ _ => rfl)
  have F__law_days := fun_mk (K := K) (st := s__law_days) l__law_days c__law_days k__law_days
  have bd__law_days : Binds K _ ["_law_pot_here", "_law_names"] [] := F__law_days.binds (fun _ _ _ _ _ _ => us_2 fun _ _ => rfl)
  have F__law_world := fun_mk (K := K) (st := s__law_world) l__law_world c__law_world k__law_world
  have bd__law_world : Binds K _ ["_law_pot_here", "_law_rules"] [] := F__law_world.binds (fun _ _ _ _ _ _ => us_2 fun _ _ => rfl)
  have F__law_tables := fun_mk (K := K) (st := s__law_tables) l__law_tables c__law_tables k__law_tables
  have bd__law_tables : Binds K _ ["_law_world_here"] [] := F__law_tables.binds (fun _ _ _ _ _ _ => us_1 fun _ => rfl)
  have F__law_is_integer := fun_mk (K := K) (st := s__law_is_integer) l__law_is_integer c__law_is_integer k__law_is_integer
  have bd__law_is_integer : Binds K _ ["_law_value"] [] := F__law_is_integer.binds (fun _ _ _ _ _ _ => us_1 fun _ => rfl)
  have F__law_turned := fun_mk (K := K) (st := s__law_turned) l__law_turned c__law_turned k__law_turned
  have bd__law_turned : Binds K _ ["_law_some_here"] [] := F__law_turned.binds (fun _ _ _ _ _ _ => us_1 fun _ => rfl)
  have F__law_told_right := fun_mk (K := K) (st := s__law_told_right) l__law_told_right c__law_told_right k__law_told_right
  have bd__law_told_right : Binds K _ ["_law_told", "_law_words"] [] := F__law_told_right.binds (fun _ _ _ _ _ _ => us_2 fun _ _ => rfl)
  have F__law_other_tables := fun_mk (K := K) (st := s__law_other_tables) l__law_other_tables c__law_other_tables k__law_other_tables
  have bd__law_other_tables : Binds K _ ["_law_pot_here", "_law_tables_here"] [] := F__law_other_tables.binds (fun _ _ _ _ _ _ => us_2 fun _ _ => rfl)
  have F__law_days_right := fun_mk (K := K) (st := s__law_days_right) l__law_days_right c__law_days_right k__law_days_right
  have bd__law_days_right : Binds K _ ["_law_pot_here", "_law_formula_here", "_law_days_here", "_law_world_here"] [] := F__law_days_right.binds (fun _ _ _ _ _ _ => us_4 fun _ _ _ _ => rfl)
  have F__law_facts_right := fun_mk (K := K) (st := s__law_facts_right) l__law_facts_right c__law_facts_right k__law_facts_right
  have bd__law_facts_right : Binds K _ ["_law_pot_here", "_law_formula_here", "_law_days_here", "_law_world_here"] [] := F__law_facts_right.binds (fun _ _ _ _ _ _ => us_4 fun _ _ _ _ => rfl)
  have F__law_sayings_right := fun_mk (K := K) (st := s__law_sayings_right) l__law_sayings_right c__law_sayings_right k__law_sayings_right
  have bd__law_sayings_right : Binds K _ ["_law_pot_here", "_law_saying_here", "_law_days_here", "_law_world_here"] [] := F__law_sayings_right.binds (fun _ _ _ _ _ _ => us_4 fun _ _ _ _ => rfl)
  have F__law_right := fun_mk (K := K) (st := s__law_right) l__law_right c__law_right k__law_right
  have bd__law_right : Binds K _ ["_law_pot_here"] [] := F__law_right.binds (fun _ _ _ _ _ _ => us_1 fun _ => rfl)
  have F_law := fun_mk (K := K) (st := s_law) l_law c_law k_law
  have bd_law : Binds K _ ["_law_script"] [] := F_law.binds (fun _ _ _ _ _ _ => us_1 fun _ => rfl)
  have kb_pieces_told := kb_of (ps := ["told"]) (ks := ["told"]) (n := 0) (g := fun us ws => us ++ ws) (gV := fun vs zs => vs ++ zs) F_pieces (by intro _ _ _ _ _ _ us ws h1 h2; cases us_nil h1; obtain ⟨w0, tw0, rfl, kw0⟩ := us_cons (n := 0) h2; cases us_nil kw0; rfl) (fun a b => a.append b)
  have kb_names_of_told := kb_of (ps := ["told"]) (ks := ["told"]) (n := 0) (g := fun us ws => us ++ ws) (gV := fun vs zs => vs ++ zs) F_names_of (by intro _ _ _ _ _ _ us ws h1 h2; cases us_nil h1; obtain ⟨w0, tw0, rfl, kw0⟩ := us_cons (n := 0) h2; cases us_nil kw0; rfl) (fun a b => a.append b)
  have kb_rules_of_told := kb_of (ps := ["told"]) (ks := ["told"]) (n := 0) (g := fun us ws => us ++ ws) (gV := fun vs zs => vs ++ zs) F_rules_of (by intro _ _ _ _ _ _ us ws h1 h2; cases us_nil h1; obtain ⟨w0, tw0, rfl, kw0⟩ := us_cons (n := 0) h2; cases us_nil kw0; rfl) (fun a b => a.append b)
  have kb_day_of_world_days_formula := kb_of (ps := ["formula", "days", "world"]) (ks := ["world", "days", "formula"]) (n := 0) (g := fun us ws => us ++ ws.reverse) (gV := fun vs zs => vs ++ zs.reverse) F_day_of (by intro _ _ _ _ _ _ us ws h1 h2; cases us_nil h1; obtain ⟨w0, tw0, rfl, kw0⟩ := us_cons (n := 2) h2; obtain ⟨w1, tw1, rfl, kw1⟩ := us_cons (n := 1) kw0; obtain ⟨w2, tw2, rfl, kw2⟩ := us_cons (n := 0) kw1; cases us_nil kw2; rfl) (fun a b => a.append (vals_rev b))
  have kb_holds_world_days_saying := kb_of (ps := ["saying", "days", "world"]) (ks := ["world", "days", "saying"]) (n := 0) (g := fun us ws => us ++ ws.reverse) (gV := fun vs zs => vs ++ zs.reverse) F_holds (by intro _ _ _ _ _ _ us ws h1 h2; cases us_nil h1; obtain ⟨w0, tw0, rfl, kw0⟩ := us_cons (n := 2) h2; obtain ⟨w1, tw1, rfl, kw1⟩ := us_cons (n := 1) kw0; obtain ⟨w2, tw2, rfl, kw2⟩ := us_cons (n := 0) kw1; cases us_nil kw2; rfl) (fun a b => a.append (vals_rev b))
  refine ⟨PySem.W.fnOf "law" "law" (defArgs s_law) (defBody s_law) (defScope s_law) .none kV_law dc_law pm_law an_law cd_law ct_law, ?bb, fun base kb nb => ?_⟩
  rotate_left
  have mkI : Mk K C f_Table___init__ := ⟨mk, a_Table___init__, i_Table___init__, kc⟩
  have c_parts_of : Cal P w K mg base "parts_of" f_parts_of _ _ _ _ := ⟨ok_parts_of (P := P) (w := w) (base := base) F_parts_of T, PySem.W.mg_of X G a_parts_of, k_parts_of, bd_parts_of⟩
  have c_all_pieces : Cal P w K mg base "all_pieces" f_all_pieces _ _ _ _ := ⟨ok_all_pieces (P := P) (w := w) (base := base) F_all_pieces T c_parts_of, PySem.W.mg_of X G a_all_pieces, k_all_pieces, bd_all_pieces⟩
  have c_is_rule : Cal P w K mg base "is_rule" f_is_rule _ _ _ _ := ⟨ok_is_rule (P := P) (w := w) (base := base) F_is_rule T, PySem.W.mg_of X G a_is_rule, k_is_rule, bd_is_rule⟩
  have c_is_name : Cal P w K mg base "is_name" f_is_name _ _ _ _ := ⟨ok_is_name (P := P) (w := w) (base := base) F_is_name T, PySem.W.mg_of X G a_is_name, k_is_name, bd_is_name⟩
  have c_is_day : Cal P w K mg base "is_day" f_is_day _ _ _ _ := ⟨ok_is_day (P := P) (w := w) (base := base) F_is_day T, PySem.W.mg_of X G a_is_day, k_is_day, bd_is_day⟩
  have c_names_in : Cal P w K mg base "names_in" f_names_in _ _ _ _ := ⟨ok_names_in (P := P) (w := w) (base := base) F_names_in T c_all_pieces, PySem.W.mg_of X G a_names_in, k_names_in, bd_names_in⟩
  have c_rules_in : Cal P w K mg base "rules_in" f_rules_in _ _ _ _ := ⟨ok_rules_in (P := P) (w := w) (base := base) F_rules_in T c_all_pieces, PySem.W.mg_of X G a_rules_in, k_rules_in, bd_rules_in⟩
  have c__is_piece : Cal P w K mg base "_is_piece" f__is_piece _ _ _ _ := ⟨ok__is_piece (P := P) (w := w) (base := base) F__is_piece T c_is_name c_is_day c_is_rule, PySem.W.mg_of X G a__is_piece, k__is_piece, bd__is_piece⟩
  have c_is_formula : Cal P w K mg base "is_formula" f_is_formula _ _ _ _ := ⟨ok_is_formula (P := P) (w := w) (base := base) F_is_formula T c__is_piece c_parts_of, PySem.W.mg_of X G a_is_formula, k_is_formula, bd_is_formula⟩
  have c_need_formula : Cal P w K mg base "need_formula" f_need_formula _ _ _ _ := ⟨ok_need_formula (P := P) (w := w) (base := base) F_need_formula T c_is_formula, PySem.W.mg_of X G a_need_formula, k_need_formula, bd_need_formula⟩
  have c__is_tuple_of_saying : Cal P w K mg base "_is_tuple_of_saying" f__is_tuple_of_saying _ _ _ _ := ⟨ok__is_tuple_of_saying (P := P) (w := w) (base := base) F__is_tuple_of_saying T, PySem.W.mg_of X G a__is_tuple_of_saying, k__is_tuple_of_saying, bd__is_tuple_of_saying⟩
  have c_is_saying : Cal P w K mg base "is_saying" f_is_saying _ _ _ _ := ⟨ok_is_saying (P := P) (w := w) (base := base) F_is_saying T c__is_tuple_of_saying c_parts_of c_is_formula, PySem.W.mg_of X G a_is_saying, k_is_saying, bd_is_saying⟩
  have c_need_saying : Cal P w K mg base "need_saying" f_need_saying _ _ _ _ := ⟨ok_need_saying (P := P) (w := w) (base := base) F_need_saying T c_is_saying, PySem.W.mg_of X G a_need_saying, k_need_saying, bd_need_saying⟩
  have c_need_told : Cal P w K mg base "need_told" f_need_told _ _ _ _ := ⟨ok_need_told (P := P) (w := w) (base := base) F_need_told T c_is_formula c_is_saying, PySem.W.mg_of X G a_need_told, k_need_told, bd_need_told⟩
  have c_pieces : Cal P w K mg base "pieces" f_pieces _ _ _ _ := ⟨ok_pieces (P := P) (w := w) (base := base) F_pieces T c_need_told c_all_pieces, PySem.W.mg_of X G a_pieces, k_pieces, bd_pieces⟩
  have c_names_of : Cal P w K mg base "names_of" f_names_of _ _ _ _ := ⟨ok_names_of (P := P) (w := w) (base := base) F_names_of T c_need_told c_names_in, PySem.W.mg_of X G a_names_of, k_names_of, bd_names_of⟩
  have c_rules_of : Cal P w K mg base "rules_of" f_rules_of _ _ _ _ := ⟨ok_rules_of (P := P) (w := w) (base := base) F_rules_of T c_need_told c_rules_in, PySem.W.mg_of X G a_rules_of, k_rules_of, bd_rules_of⟩
  have c_is_days : Cal P w K mg base "is_days" f_is_days _ _ _ _ := ⟨ok_is_days (P := P) (w := w) (base := base) F_is_days T c_is_name c_is_day, PySem.W.mg_of X G a_is_days, k_is_days, bd_is_days⟩
  have c_need_days : Cal P w K mg base "need_days" f_need_days _ _ _ _ := ⟨ok_need_days (P := P) (w := w) (base := base) F_need_days T c_is_days, PySem.W.mg_of X G a_need_days, k_need_days, bd_need_days⟩
  have c_is_world : Cal P w K mg base "is_world" f_is_world _ _ _ _ := ⟨ok_is_world (P := P) (w := w) (base := base) F_is_world T c_is_rule, PySem.W.mg_of X G a_is_world, k_is_world, bd_is_world⟩
  have c_need_world : Cal P w K mg base "need_world" f_need_world _ _ _ _ := ⟨ok_need_world (P := P) (w := w) (base := base) F_need_world T c_is_world, PySem.W.mg_of X G a_need_world, k_need_world, bd_need_world⟩
  have c_need_few_pieces : Cal P w K mg base "need_few_pieces" f_need_few_pieces _ _ _ _ := ⟨ok_need_few_pieces (P := P) (w := w) (base := base) F_need_few_pieces T c_all_pieces, PySem.W.mg_of X G a_need_few_pieces, k_need_few_pieces, bd_need_few_pieces⟩
  have c_need_rules : Cal P w K mg base "need_rules" f_need_rules _ _ _ _ := ⟨ok_need_rules (P := P) (w := w) (base := base) F_need_rules T c_rules_in, PySem.W.mg_of X G a_need_rules, k_need_rules, bd_need_rules⟩
  have c_need_names : Cal P w K mg base "need_names" f_need_names _ _ _ _ := ⟨ok_need_names (P := P) (w := w) (base := base) F_need_names T c_names_in, PySem.W.mg_of X G a_need_names, k_need_names, bd_need_names⟩
  have c_need_known : Cal P w K mg base "need_known" f_need_known _ _ _ _ := ⟨ok_need_known (P := P) (w := w) (base := base) F_need_known T c_need_rules c_need_names c_need_few_pieces, PySem.W.mg_of X G a_need_known, k_need_known, bd_need_known⟩
  have c_need_day : Cal P w K mg base "need_day" f_need_day _ _ _ _ := ⟨ok_need_day (P := P) (w := w) (base := base) F_need_day T c_is_day, PySem.W.mg_of X G a_need_day, k_need_day, bd_need_day⟩
  have c_is_list : Cal P w K mg base "is_list" f_is_list _ _ _ _ := ⟨ok_is_list (P := P) (w := w) (base := base) F_is_list T, PySem.W.mg_of X G a_is_list, k_is_list, bd_is_list⟩
  have c_is_table : Cal P w K mg base "is_table" f_is_table _ _ _ _ := ⟨ok_is_table (P := P) (w := w) (base := base) F_is_table T c_is_list c_is_day, PySem.W.mg_of X G a_is_table, k_is_table, bd_is_table⟩
  have c__many_ahead : Cal P w K mg base "_many_ahead" f__many_ahead _ _ _ _ := ⟨ok_many (P := P) (w := w) (base := base) F__many_ahead T, PySem.W.mg_of X G a__many_ahead, k__many_ahead, bd__many_ahead⟩
  have m_init : Ini P w K mg base C f_Table___init__ _ := ⟨ok_init (P := P) (w := w) (base := base) F_Table___init__ T c_is_table, bd_Table___init__⟩
  have m_length : Prp P w K mg base C "length" p_Table_length f_Table_length _ _ _ _ := ⟨ok_length (P := P) (w := w) (base := base) F_Table_length T, ⟨a_Table_length, g_Table_length, t_Table_length, ⟨_, r_Table_length⟩⟩, bd_Table_length⟩
  have m_on : Met P w K mg base C "on" f_Table_on _ _ _ _ := ⟨ok_on (P := P) (w := w) (base := base) F_Table_on T c_need_day m_length, ⟨a_Table_on, i_Table_on, k_Table_on⟩, bd_Table_on⟩
  have m_by : Met P w K mg base C "by" f_Table_by _ _ _ _ := ⟨ok_by (P := P) (w := w) (base := base) F_Table_by T c_need_day m_length c__many_ahead, ⟨a_Table_by, i_Table_by, k_Table_by⟩, bd_Table_by⟩
  have m_til : Met P w K mg base C "til" f_Table_til _ _ _ _ := ⟨ok_til (P := P) (w := w) (base := base) F_Table_til T c_need_day m_by, ⟨a_Table_til, i_Table_til, k_Table_til⟩, bd_Table_til⟩
  have c_reckoned : Cal P w K mg base "reckoned" f_reckoned _ _ _ _ := ⟨ok_reckoned (P := P) (w := w) (base := base) F_reckoned T ⟨PySem.W.mg_of X G a_reckoned, k_reckoned, bd_reckoned⟩ c_parts_of m_on m_by m_til 10, PySem.W.mg_of X G a_reckoned, k_reckoned, bd_reckoned⟩
  have c_is_so : Cal P w K mg base "is_so" f_is_so _ _ _ _ := ⟨ok_is_so (P := P) (w := w) (base := base) F_is_so T ⟨PySem.W.mg_of X G a_is_so, k_is_so, bd_is_so⟩ c_reckoned 10, PySem.W.mg_of X G a_is_so, k_is_so, bd_is_so⟩
  have c_day_of : Cal P w K mg base "day_of" f_day_of _ _ _ _ := ⟨ok_day_of (P := P) (w := w) (base := base) F_day_of T c_need_formula c_need_days c_need_world c_need_known c_reckoned, PySem.W.mg_of X G a_day_of, k_day_of, bd_day_of⟩
  have c_holds : Cal P w K mg base "holds" f_holds _ _ _ _ := ⟨ok_holds (P := P) (w := w) (base := base) F_holds T c_need_saying c_need_days c_need_world c_need_known c_is_so, PySem.W.mg_of X G a_holds, k_holds, bd_holds⟩
  have c__law_pot : Cal P w K mg base "_law_pot" f__law_pot _ _ _ _ := ⟨ok_pot (P := P) (w := w) (base := base) F__law_pot T, PySem.W.mg_of X G a__law_pot, k__law_pot, bd__law_pot⟩
  have c__law_draw : Cal P w K mg base "_law_draw" f__law_draw _ _ _ _ := ⟨ok_draw (P := P) (w := w) (base := base) F__law_draw T, PySem.W.mg_of X G a__law_draw, k__law_draw, bd__law_draw⟩
  have c__law_pick : Cal P w K mg base "_law_pick" f__law_pick _ _ _ _ := ⟨ok_pick (P := P) (w := w) (base := base) F__law_pick T c__law_draw, PySem.W.mg_of X G a__law_pick, k__law_pick, bd__law_pick⟩
  have c__law_number : Cal P w K mg base "_law_number" f__law_number _ _ _ _ := ⟨ok_number (P := P) (w := w) (base := base) F__law_number T c__law_draw c__law_pick, PySem.W.mg_of X G a__law_number, k__law_number, bd__law_number⟩
  have c__law_some : Cal P w K mg base "_law_some" f__law_some _ _ _ _ := ⟨ok_some (P := P) (w := w) (base := base) F__law_some T c__law_draw, PySem.W.mg_of X G a__law_some, k__law_some, bd__law_some⟩
  have c__law_formula : Cal P w K mg base "_law_formula" f__law_formula _ _ _ _ := ⟨ok_formula (P := P) (w := w) (base := base) F__law_formula T ⟨PySem.W.mg_of X G a__law_formula, k__law_formula, bd__law_formula⟩ c__law_draw c__law_pick c__law_number 4, PySem.W.mg_of X G a__law_formula, k__law_formula, bd__law_formula⟩
  have c__law_saying : Cal P w K mg base "_law_saying" f__law_saying _ _ _ _ := ⟨ok_saying (P := P) (w := w) (base := base) F__law_saying T ⟨PySem.W.mg_of X G a__law_saying, k__law_saying, bd__law_saying⟩ c__law_draw c__law_formula 3, PySem.W.mg_of X G a__law_saying, k__law_saying, bd__law_saying⟩
  have c__law_parts : Cal P w K mg base "_law_parts" f__law_parts _ _ _ _ := ⟨ok_parts (P := P) (w := w) (base := base) F__law_parts T, PySem.W.mg_of X G a__law_parts, k__law_parts, bd__law_parts⟩
  have c__law_size : Cal P w K mg base "_law_size" f__law_size _ _ _ _ := ⟨ok_size (P := P) (w := w) (base := base) F__law_size T ⟨PySem.W.mg_of X G a__law_size, k__law_size, bd__law_size⟩ c__law_parts 10, PySem.W.mg_of X G a__law_size, k__law_size, bd__law_size⟩
  have c__law_letters : Cal P w K mg base "_law_letters" f__law_letters _ _ _ _ := ⟨ok_letters (P := P) (w := w) (base := base) F__law_letters T ⟨PySem.W.mg_of X G a__law_letters, k__law_letters, bd__law_letters⟩ c__law_parts 10, PySem.W.mg_of X G a__law_letters, k__law_letters, bd__law_letters⟩
  have c__law_short : Cal P w K mg base "_law_short" f__law_short _ _ _ _ := ⟨ok_short (P := P) (w := w) (base := base) F__law_short T c__law_saying c__law_size, PySem.W.mg_of X G a__law_short, k__law_short, bd__law_short⟩
  have c__law_on : Cal P w K mg base "_law_on" f__law_on _ _ _ _ := ⟨ok_lon (P := P) (w := w) (base := base) F__law_on T, PySem.W.mg_of X G a__law_on, k__law_on, bd__law_on⟩
  have c__law_leads : Cal P w K mg base "_law_leads" f__law_leads _ _ _ _ := ⟨ok_leads (P := P) (w := w) (base := base) F__law_leads T, PySem.W.mg_of X G a__law_leads, k__law_leads, bd__law_leads⟩
  have c__law_by : Cal P w K mg base "_law_by" f__law_by _ _ _ _ := ⟨ok_lby (P := P) (w := w) (base := base) F__law_by T c__law_on c__law_leads, PySem.W.mg_of X G a__law_by, k__law_by, bd__law_by⟩
  have c__law_til : Cal P w K mg base "_law_til" f__law_til _ _ _ _ := ⟨ok_ltil (P := P) (w := w) (base := base) F__law_til T c__law_on c__law_leads, PySem.W.mg_of X G a__law_til, k__law_til, bd__law_til⟩
  have c__law_table : Cal P w K mg base "_law_table" f__law_table _ _ _ _ := ⟨ok_table (P := P) (w := w) (base := base) F__law_table T c__law_draw c__law_pick, PySem.W.mg_of X G a__law_table, k__law_table, bd__law_table⟩
  have c__law_day : Cal P w K mg base "_law_day" f__law_day _ _ _ _ := ⟨ok_lday (P := P) (w := w) (base := base) F__law_day T ⟨PySem.W.mg_of X G a__law_day, k__law_day, bd__law_day⟩ c__law_on c__law_by c__law_til 10, PySem.W.mg_of X G a__law_day, k__law_day, bd__law_day⟩
  have c__law_is_so : Cal P w K mg base "_law_is_so" f__law_is_so _ _ _ _ := ⟨ok_lso (P := P) (w := w) (base := base) F__law_is_so T ⟨PySem.W.mg_of X G a__law_is_so, k__law_is_so, bd__law_is_so⟩ c__law_day 10, PySem.W.mg_of X G a__law_is_so, k__law_is_so, bd__law_is_so⟩
  have c__law_days : Cal P w K mg base "_law_days" f__law_days _ _ _ _ := ⟨ok_days (P := P) (w := w) (base := base) F__law_days T c__law_draw c__law_pick, PySem.W.mg_of X G a__law_days, k__law_days, bd__law_days⟩
  have c__law_world : Cal P w K mg base "_law_world" f__law_world _ _ _ _ := ⟨ok_world (P := P) (w := w) (base := base) F__law_world T c__law_table, PySem.W.mg_of X G a__law_world, k__law_world, bd__law_world⟩
  have c__law_is_integer : Cal P w K mg base "_law_is_integer" f__law_is_integer _ _ _ _ := ⟨ok_is_integer (P := P) (w := w) (base := base) F__law_is_integer T, PySem.W.mg_of X G a__law_is_integer, k__law_is_integer, bd__law_is_integer⟩
  have c__law_turned : Cal P w K mg base "_law_turned" f__law_turned _ _ _ _ := ⟨ok_turned (P := P) (w := w) (base := base) F__law_turned T, PySem.W.mg_of X G a__law_turned, k__law_turned, bd__law_turned⟩
  have c__law_tables : Cal P w K mg base "_law_tables" f__law_tables _ _ _ _ := ⟨ok_tables (P := P) (w := w) (base := base) F__law_tables T mkI m_init, PySem.W.mg_of X G a__law_tables, k__law_tables, bd__law_tables⟩
  have c__law_told_right : Cal P w K mg base "_law_told_right" f__law_told_right _ _ _ _ := ⟨ok_told_right (P := P) (w := w) (base := base) F__law_told_right T c__law_letters c_names_of c_rules_of c_pieces c__law_size kb_pieces_told kb_names_of_told kb_rules_of_told, PySem.W.mg_of X G a__law_told_right, k__law_told_right, bd__law_told_right⟩
  have c_is_count : Cal P w K mg base "is_count" f_is_count _ _ _ _ := ⟨ok_is_count (P := P) (w := w) (base := base) F_is_count T c_is_day, PySem.W.mg_of X G a_is_count, k_is_count, bd_is_count⟩
  have c_need_length : Cal P w K mg base "need_length" f_need_length _ _ _ _ := ⟨ok_need_length (P := P) (w := w) (base := base) F_need_length T c_is_count, PySem.W.mg_of X G a_need_length, k_need_length, bd_need_length⟩
  have m_asked_rows : Met P w K mg base C "asked_rows" f_Table_asked_rows _ _ _ _ := ⟨ok_rows (P := P) (w := w) (base := base) F_Table_asked_rows T, ⟨a_Table_asked_rows, i_Table_asked_rows, k_Table_asked_rows⟩, bd_Table_asked_rows⟩
  have c__repeats : Cal P w K mg base "_repeats" f__repeats _ _ _ _ := ⟨ok_repeats (P := P) (w := w) (base := base) F__repeats T m_on m_asked_rows, PySem.W.mg_of X G a__repeats, k__repeats, bd__repeats⟩
  have m_shortest : Met P w K mg base C "shortest" f_Table_shortest _ _ _ _ := ⟨ok_shortest (P := P) (w := w) (base := base) F_Table_shortest T mkI m_length c__repeats m_init, ⟨a_Table_shortest, i_Table_shortest, k_Table_shortest⟩, bd_Table_shortest⟩
  have m_stretched : Met P w K mg base C "stretched" f_Table_stretched _ _ _ _ := ⟨ok_stretched (P := P) (w := w) (base := base) F_Table_stretched T mkI c_need_length m_length m_on m_init, ⟨a_Table_stretched, i_Table_stretched, k_Table_stretched⟩, bd_Table_stretched⟩
  have c__law_other_tables : Cal P w K mg base "_law_other_tables" f__law_other_tables _ _ _ _ := ⟨ok_other (P := P) (w := w) (base := base) F__law_other_tables T m_stretched m_shortest c__law_draw, PySem.W.mg_of X G a__law_other_tables, k__law_other_tables, bd__law_other_tables⟩
  have c__law_days_right : CalG P w K mg base "_law_days_right" f__law_days_right _ _ _ _ := ⟨ok_days_right (P := P) (w := w) (base := base) F__law_days_right T mkI m_init c__law_tables c__law_day c__law_other_tables c__law_turned c_day_of c__law_is_integer c__law_pick c__law_draw c__law_table kb_day_of_world_days_formula, PySem.W.mg_of X G a__law_days_right, k__law_days_right, bd__law_days_right⟩
  have c__law_facts_right : Cal P w K mg base "_law_facts_right" f__law_facts_right _ _ _ _ := ⟨ok_facts_right (P := P) (w := w) (base := base) F__law_facts_right T c__law_tables c__law_day c_day_of c__law_pick, PySem.W.mg_of X G a__law_facts_right, k__law_facts_right, bd__law_facts_right⟩
  have c__law_sayings_right : Cal P w K mg base "_law_sayings_right" f__law_sayings_right _ _ _ _ := ⟨ok_sayings_right (P := P) (w := w) (base := base) F__law_sayings_right T c__law_tables c__law_is_so c__law_other_tables c__law_turned c_holds c__law_pick c__law_draw kb_holds_world_days_saying, PySem.W.mg_of X G a__law_sayings_right, k__law_sayings_right, bd__law_sayings_right⟩
  have c__law_right : CalG P w K mg base "_law_right" f__law_right _ _ _ _ := ⟨ok_right (P := P) (w := w) (base := base) F__law_right T c__law_some c__law_draw c__law_formula c__law_short c__law_days c__law_world c__law_told_right c__law_days_right c__law_facts_right c__law_sayings_right, PySem.W.mg_of X G a__law_right, k__law_right, bd__law_right⟩
  exact ok_law (P := P) (w := w) (base := base) F_law T c__law_pot c__law_right
  exact fun s u => BindsTo.of_looks fun M => PySem.W.Looks.of_pure rfl
end
end K22
end
section
set_option maxHeartbeats 2000000
/-! a head by facts of one's own: any Boolean question of the part of the heap that the module's names reach; each def as it stands at an address that the part tells -/
namespace Hd
open PySem PySem.Spec PyProof.Rows L2
abbrev Fc := PySem.W.Frag → Bool
/-- a def: where it stands, what it is -/
structure Df where
  at_ : PySem.W.Frag → Addr
  name : Str
  qual : Str
  params : Arguments
  body : List Stmt
  scope : Scope
abbrev DfV : Type := Option (Str × Str × Arguments × FuncBody × Scope × Addr × List (Str × Addr) × Value × Addr)
def Df.obs (K : PySem.W.Frag) (d : Df) : DfV := match K.lookup (d.at_ K) with
  | some ⟨_, _, .func fd, _⟩ => some (fd.name, fd.qualname, fd.params, fd.body, fd.scope, fd.globals, fd.closure, fd.defaults, fd.builtins)
  | _ => none
def Df.val (d : Df) : DfV := some (d.name, d.qual, d.params, .stmts d.body, d.scope, mainGlobals, [], .none, builtinsNs)
def Df.code (d : Df) : Fc := fun K => match K.lookup (d.at_ K) with
  | some ⟨_, _, .func fd, _⟩ => PySem.W.codeIn K fd.code d.qual
  | _ => false
/-- a table with text keys: its keys and their hashes -/
def keysAt (a : PySem.W.Frag → Addr) (K : PySem.W.Frag) : List (Value × Int) := match K.lookup (a K) with
  | some ⟨_, _, .dict es _, _⟩ => es.toList.map fun e => (match e.key with
    | .str x _ => .str x 0
    | _ => .none, e.hash)
  | _ => []
abbrev Al : Type := Bool × List DfV × List (List (Value × Int))
def obs (fa : List Fc) (fn : List Df) (ks : List (PySem.W.Frag → Addr)) (K : PySem.W.Frag) : Al := ((fa.all fun f => f K) && fn.all fun d => d.code K, fn.map fun d => d.obs K, ks.map fun a => keysAt a K)
def val (fn : List Df) (xs : List (List Str)) (w : World) : Al := (true, fn.map Df.val, xs.map fun l => l.map fun x => (.str x 0, PyData.keyHash w.params x))
def Says (fa : List Fc) (fn : List Df) (ks : List (PySem.W.Frag → Addr)) (xs : List (List Str)) (w : World) (K : PySem.W.Frag) : Prop := obs fa fn ks K = val fn xs w
/-- the module's names, what the boot keeps of its own, and all that stands from lo on -/
def reach (lo sz : Nat) : List Addr := mainGlobals :: PySem.cStatics :: List.range' lo (sz - lo)
/-- the part of the heap: no tuples, no lists, and nothing that is not wanted -/
def kept (o : Obj) : Bool := match o.data with
  | .seq .. => false
  | _ => true
def part (no : PySem.W.Frag → List Addr) (n sz : Nat) (g : Addr → Option Obj) : PySem.W.Frag := match (He.frG g (reach n sz)).filter fun p => kept p.2 with
  | K => K.filter fun p => !(no K).contains p.1
theorem lookup_filter {q : Addr → Bool} : ∀ {K : PySem.W.Frag} {a : Addr} {o : Obj}, (K.filter fun p => q p.1).lookup a = some o → K.lookup a = some o
  | [], _, _, e => nomatch e
  | (b, u) :: K, a, o, e => by
    rw [List.filter_cons] at e
    by_cases hq : q b = true
    · rw [if_pos hq, List.lookup_cons] at e
      rw [List.lookup_cons]
      cases h : a == b with
      | true => rw [h] at e; exact e
      | false => rw [h] at e; exact lookup_filter e
    · rw [if_neg hq] at e
      rw [List.lookup_cons]
      cases h : a == b with
      | true =>
        exfalso
        have := lookup_filter e
        rw [← eq_of_beq h] at hq
        have key : ∀ {K : PySem.W.Frag}, (K.filter fun p => q p.1).lookup a = some o → q a = true := by
          intro K
          induction K with
          | nil => intro z; cases z
          | cons p K ih =>
            intro z
            rw [List.filter_cons] at z
            by_cases hp : q p.1 = true
            · rw [if_pos hp, List.lookup_cons] at z
              cases h2 : a == p.1 with
              | true => rw [eq_of_beq h2]; exact hp
              | false => rw [h2] at z; exact ih z
            · rw [if_neg hp] at z
              exact ih z
        exact hq (key e)
      | false => exact lookup_filter e
theorem kept_get {g : Addr → Option Obj} {a : Addr} {o : Obj} : ∀ as : List Addr, ((He.frG g as).filter fun p => kept p.2).lookup a = some o → g a = some o
  | [], e => nomatch e
  | b :: r, e => by
    unfold He.frG at e
    cases hb : g b with
    | none =>
      rw [List.filterMap_cons, hb] at e
      exact kept_get r e
    | some u =>
      rw [List.filterMap_cons, hb] at e
      have e : (((b, u) :: He.frG g r).filter fun p => kept p.2).lookup a = some o := e
      rw [List.filter_cons] at e
      split at e
      · rw [List.lookup_cons] at e
        cases h : a == b with
        | true =>
          rw [h] at e
          rw [eq_of_beq h, hb]
          exact e
        | false =>
          rw [h] at e
          exact kept_get r e
      · exact kept_get r e
theorem part_in {no : PySem.W.Frag → List Addr} {n sz : Nat} {h : Heap} : (part no n sz h.get?).In h := fun a o e =>
  kept_get (reach n sz) (lookup_filter (q := fun b => !(no ((He.frG h.get? (reach n sz)).filter fun p => kept p.2)).contains b) e)
def hook (no : PySem.W.Frag → List Addr) (n : Nat) (fa : List Fc) (fn : List Df) (ks : List (PySem.W.Frag → Addr)) (xs : List (List Str)) : PySem.W.Hook where
  α := Al
  obs := fun s => obs fa fn ks (part no n s.heap.objs.size s.heap.get?)
  val := val fn xs
  says := fun w h => ∃ K : PySem.W.Frag, K.In h ∧ Says fa fn ks xs w K
  of := fun _ _ e => ⟨_, part_in, e⟩
  keeps := fun _ _ _ ⟨K, hK, c⟩ k => ⟨K, PySem.W.Frag.In.keeps hK k, c⟩
def look (no : PySem.W.Frag → List Addr) (n : Nat) (fa : List Fc) (fn : List Df) (ks : List (PySem.W.Frag → Addr)) (s : PySem.W.SharedT) : Al := obs fa fn ks (part no n s.n (HandSHeadRun.getT s))
theorem look_eq (no : PySem.W.Frag → List Addr) (n : Nat) (fa : List Fc) (fn : List Df) (ks : List (PySem.W.Frag → Addr)) (xs : List (List Str)) (s : PySem.W.SharedT) : look no n fa fn ks s = (hook no n fa fn ks xs).obs s.abs := by
  have e : HandSHeadRun.getT s = s.abs.heap.get? := funext (HandSHeadRun.getT_eq s)
  have e2 : s.abs.heap.objs.size = s.n := PySem.W.absHeap_size _ _ _
  show obs fa fn ks (part no n s.n (HandSHeadRun.getT s)) = obs fa fn ks (part no n s.abs.heap.objs.size s.abs.heap.get?)
  rw [e, e2]
section
variable {fa : List Fc} {fn : List Df} {ks : List (PySem.W.Frag → Addr)} {xs : List (List Str)} {w : World} {K : PySem.W.Frag}
theorem Says.all (c : Says fa fn ks xs w K) : (∀ f ∈ fa, f K = true) ∧ ∀ d ∈ fn, d.code K = true := by
  have q : ((fa.all fun f => f K) && fn.all fun d => d.code K) = true := congrArg (fun z : Al => z.1) c
  rw [Bool.and_eq_true, List.all_eq_true, List.all_eq_true] at q
  exact q
theorem Says.fact (c : Says fa fn ks xs w K) (i : Nat) {f : Fc} (h : fa[i]? = some f := by rfl) : f K = true := c.all.1 f (List.mem_of_getElem? h)
theorem Says.def_ (c : Says fa fn ks xs w K) (i : Nat) {d : Df} (h : fn[i]? = some d := by rfl) :
    ∃ oc od sl kV dc pm an cd ct, K.lookup (d.at_ K) = some ⟨oc, od, .func (PySem.W.fnOf d.name d.qual d.params d.body d.scope .none kV dc pm an cd ct), sl⟩ ∧ PySem.W.codeIn K cd d.qual = true := by
  have e : fn.map (fun d => d.obs K) = fn.map Df.val := congrArg (fun z : Al => z.2.1) c
  have e2 : (fn.map fun d => d.obs K)[i]? = (fn.map Df.val)[i]? := by rw [e]
  rw [List.getElem?_map, List.getElem?_map, h] at e2
  have e3 : d.obs K = d.val := Option.some.inj e2
  have e4 := c.all.2 d (List.mem_of_getElem? h)
  unfold Df.obs at e3
  unfold Df.code at e4
  cases q : K.lookup (d.at_ K) with
  | none => rw [q] at e4; cases e4
  | some o =>
    obtain ⟨oc, od, dt, sl⟩ := o
    rw [q] at e3 e4
    cases dt with
    | func fd =>
      obtain ⟨n1, n2, n3, n4, n5, n6, n7, n8, n9, n10, n11, n12, n13, n14, n15⟩ := fd
      have e5 : (some (n1, n2, n3, n4, n5, n6, n7, n8, n15) : DfV) = some (d.name, d.qual, d.params, .stmts d.body, d.scope, mainGlobals, [], .none, builtinsNs) := e3
      simp only [Option.some.injEq, Prod.mk.injEq] at e5
      obtain ⟨rfl, rfl, rfl, rfl, rfl, rfl, rfl, rfl, rfl⟩ := e5
      exact ⟨oc, od, sl, n9, n10, n11, n12, n13, n14, rfl, e4⟩
    | _ => cases e4
end
/-! ### questions and what they tell -/
def valOf : Option (Option Value) → Value
  | some (some v) => v
  | _ => .none
def isInt (i : Int) : Option (Option Value) → Bool
  | some (some (.int j _)) => decide (j = i)
  | _ => false
theorem isInt_ok {i : Int} {v : Option (Option Value)} (h : isInt i v = true) : ∃ t, v = some (some (.int i t)) := by
  unfold isInt at h
  split at h
  · exact ⟨_, by rw [of_decide_eq_true h]⟩
  · cases h
def isStr (x : Str) : Option (Option Value) → Bool
  | some (some (.str y _)) => decide (y = x)
  | _ => false
theorem isStr_ok {x : Str} {v : Option (Option Value)} (h : isStr x v = true) : ∃ t, v = some (some (.str x t)) := by
  unfold isStr at h
  split at h
  · exact ⟨_, by rw [of_decide_eq_true h]⟩
  · cases h
/-- the object at an address that the part tells -/
def refOf : Option (Option Value) → Addr
  | some (some (.ref a)) => a
  | _ => 0
def isRef : Option (Option Value) → Bool
  | some (some (.ref _)) => true
  | _ => false
theorem isRef_ok {v : Option (Option Value)} (h : isRef v = true) : v = some (some (.ref (refOf v))) := by
  unfold isRef at h
  split at h
  · rfl
  · cases h
def isDict (K : PySem.W.Frag) (a : Addr) : Bool := match K.lookup a with
  | some ⟨.type c, none, .dict _ _, sl⟩ => decide (c = "dict") && decide (sl = #[])
  | _ => false
theorem isDict_ok {K : PySem.W.Frag} {a : Addr} (h : isDict K a = true) : ∃ es n, K.lookup a = some ⟨.type "dict", none, .dict es n, #[]⟩ := by
  unfold isDict at h
  split at h
  · rename_i c es n sl e
    rw [Bool.and_eq_true, decide_eq_true_eq, decide_eq_true_eq] at h
    exact ⟨es, n, by rw [e, h.1, h.2]⟩
  · cases h
/-- the keys of a table -/
theorem keys_ok {w : World} : ∀ (es : List DictEntry) (xs : List Str), (es.map fun e => ((match e.key with
    | .str x _ => .str x 0
    | _ => .none : Value), e.hash)) = (xs.map fun x => (Value.str x 0, PyData.keyHash w.params x)) → PySem.W.KeysLit w.params es
  | [], _, _ => trivial
  | e :: es, [], h => nomatch h
  | e :: es, x :: xs, h => by
    rw [List.map_cons, List.map_cons] at h
    injection h with h1 h2
    refine ⟨?_, keys_ok es xs h2⟩
    injection h1 with h3 h4
    split at h3
    · rename_i y t e1
      injection h3 with h5
      subst h5
      exact ⟨_, t, e1, h4⟩
    · cases h3
theorem Says.keys {fa : List Fc} {fn : List Df} {ks : List (PySem.W.Frag → Addr)} {xs : List (List Str)} {w : World} {K : PySem.W.Frag} (c : Says fa fn ks xs w K) (i : Nat) {a : PySem.W.Frag → Addr} {l : List Str} {es : Array DictEntry} {n : Nat}
    (e : K.lookup (a K) = some ⟨.type "dict", none, .dict es n, #[]⟩) (h : ks[i]? = some a := by rfl) (hx : xs[i]? = some l := by rfl) : PySem.W.KeysLit w.params es.toList := by
  have q : ks.map (fun a => keysAt a K) = xs.map fun l => l.map fun x => (Value.str x 0, PyData.keyHash w.params x) := congrArg (fun z : Al => z.2.2) c
  have q2 : (ks.map fun a => keysAt a K)[i]? = (xs.map fun l => l.map fun x => (Value.str x 0, PyData.keyHash w.params x))[i]? := by rw [q]
  rw [List.getElem?_map, List.getElem?_map, h, hx] at q2
  have q3 : keysAt a K = l.map fun x => (Value.str x 0, PyData.keyHash w.params x) := Option.some.inj q2
  unfold keysAt at q3
  rw [e] at q3
  exact keys_ok _ _ q3
def isRec (K : PySem.W.Frag) (p : Addr) (T : String) : Bool := match PySem.W.recIn K p T with
  | some (.ref _ :: _) => true
  | _ => false
def recOf (K : PySem.W.Frag) (p : Addr) (T : String) : Addr := match PySem.W.recIn K p T with
  | some (.ref f :: _) => f
  | _ => 0
theorem isRec_ok {K : PySem.W.Frag} {p : Addr} {T : String} (h : isRec K p T = true) : ∃ rs, PySem.W.recIn K p T = some (.ref (recOf K p T) :: rs) := by
  unfold isRec at h
  unfold recOf
  split at h
  · rename_i f rs e
    exact ⟨rs, by rw [e]⟩
  · cases h
def isClsInt (i : Int) : Option PySem.W.CFound → Bool
  | some (.val (.int j _)) => decide (j = i)
  | _ => false
theorem isClsInt_ok {i : Int} {v : Option PySem.W.CFound} (h : isClsInt i v = true) : ∃ t, v = some (.val (.int i t)) := by
  unfold isClsInt at h
  split at h
  · exact ⟨_, by rw [of_decide_eq_true h]⟩
  · cases h
theorem yes {a : Option Bool} (h : decide (a = some true) = true) : a = some true := of_decide_eq_true h
theorem isnt {a b : Addr} (h : (!(a == b)) = true) : (a == b) = false := by
  cases q : a == b with
  | true => rw [q] at h; cases h
  | false => rfl
/-! ### the end -/
theorem walkE {l : PySem.W.OpenLaw} {n k : Nat} {q : Program} {loose : List Str} {XP : (Str → Option Value) → Heap → Prop} {YP : World → Heap → Prop} {d : DefRec} {CX : CXT} {sp : PySem.W.Frag → Sp} {x : Str}
    (hn : l.most = some n) (hn2 : n ≤ sizeLine) (hdf : d.params.defaults = []) (hr : Room k callerA)
    (F : ∀ (w : World) (mg : Str → Option Value) (fa : Addr) (h : Heap), YP w h → h.Ns mainGlobals mg → mg d.name = some (.ref fa) →
      ∃ (K : PySem.W.Frag) (fd : FuncData), K.In h ∧ (∀ (s : Shared) (u : Value), BindsTo s fd ⟨[u], []⟩ [(x, u)]) ∧ ∀ base : Heap, K.In base → base.Ns mainGlobals mg → G.FnG l.prog w K mg base CX k fa fd [x] (sp K))
    (hsp : ∀ (K : PySem.W.Frag) (H : Hp) (a : Addr) (ns : List Int), ns.length ≤ n → Only H → SqL K H a (ns.map V.int) → sp K [.ref a] H (fun v _ => v = .bl true) fun _ _ _ => False)
    (hCX : ∀ (H : Hp) (s : Shared) (e : Value) (s' : Shared), CX [] H s (fun _ _ _ => False) e s' → False) : PySem.W.WalkO q loose XP YP l.row.toRowW d [] (fun f vs => PySem.call f vs) :=
  Att.attach_call hn hdf fun w s₀ s₁ mg mb fa o pm cd doc a vs ns G Y ho hd hcd hmg hobj hints hlen hg => by
    obtain ⟨K, fd, KX, hb, hF⟩ := F w mg fa _ Y G.T.g hmg
    exact _root_.G.law_true KX G.T.g G.T.b G.T.builtins G.T.nolimit hg hobj hints (Nat.le_trans hlen hn2) hr hF hb (fun H hO hS => hsp _ H a ns hlen hO hS) fun H e s' => hCX H s₁ e s'
/-! ### the run's equation, part by part: each part runs the top anew -/
section
open HandSHeadRun PySem.W
variable (r : OpenRow) (q : Program) (M : Nat) (loose : List PySem.Str) (w : World)
noncomputable def fin (os : OsState) : Option SharedT := endF (stepQ (denQ tabQ) r.prog w) M r.prog w os
noncomputable def sq (s : SharedT) := seenQ q loose (importedModules r.prog.main.body) (fun s => xlAt q [] s && recOk r.toRowW.records s) s.abs
def RunA : Prop := ∀ os, (fin r M w os).map (fun s => (looksF r.prog (boot_heap w.params) s.abs, (sq r q loose s).1, (sq r q loose s).2.1, (sq r q loose s).2.2.1, (sq r q loose s).2.2.2.1)) = some (true, (openGood q loose).1, (openGood q loose).2.1, (openGood q loose).2.2.1, (openGood q loose).2.2.2.1)
def RunB : Prop := ∀ os, (fin r M w os).map (fun s => (sq r q loose s).2.2.2.2) = some (openGood q loose).2.2.2.2
/-- the part of the heap behind the run -/
def Kt (no : PySem.W.Frag → List Addr) (n : Nat) (s : SharedT) : PySem.W.Frag := part no n s.n (getT s)
def RunF (no : PySem.W.Frag → List Addr) (n : Nat) (fs : List Fc) : Prop := ∀ os, (fin r M w os).map (fun s => fs.all fun f => f (Kt no n s)) = some true
def RunN (no : PySem.W.Frag → List Addr) (n : Nat) (fn : List Df) (ks : List (PySem.W.Frag → Addr)) (xs : List (List Str)) : Prop := ∀ os, (fin r M w os).map (fun s => (fn.all fun d => d.code (Kt no n s), fn.map fun d => d.obs (Kt no n s), ks.map fun a => keysAt a (Kt no n s))) = some (true, fn.map Df.val, xs.map fun l => l.map fun x => (.str x 0, PyData.keyHash w.params x))
variable {r q M loose w}
theorem RunF.app {no : PySem.W.Frag → List Addr} {n : Nat} {fs gs : List Fc} (a : RunF r M w no n fs) (b : RunF r M w no n gs) : RunF r M w no n (fs ++ gs) := fun os => by
  obtain ⟨s, hs, ha⟩ := Option.map_eq_some_iff.mp (a os)
  have hb := b os
  rw [hs] at hb ⊢
  have hb : (gs.all fun f => f (Kt no n s)) = true := Option.some.inj hb
  show some ((fs ++ gs).all fun f => f (Kt no n s)) = some true
  rw [List.all_append, ha, hb]
  rfl
theorem RunN.app {no : PySem.W.Frag → List Addr} {n : Nat} {fn gn : List Df} {ks js : List (PySem.W.Frag → Addr)} {xs ys : List (List Str)} (a : RunN r M w no n fn ks xs) (b : RunN r M w no n gn js ys) : RunN r M w no n (fn ++ gn) (ks ++ js) (xs ++ ys) := fun os => by
  obtain ⟨s, hs, ha⟩ := Option.map_eq_some_iff.mp (a os)
  have hb := b os
  rw [hs] at hb ⊢
  have hb := Option.some.inj hb
  have a1 := congrArg (fun z : Al => z.1) ha
  have a2 := congrArg (fun z : Al => z.2.1) ha
  have a3 := congrArg (fun z : Al => z.2.2) ha
  have b1 := congrArg (fun z : Al => z.1) hb
  have b2 := congrArg (fun z : Al => z.2.1) hb
  have b3 := congrArg (fun z : Al => z.2.2) hb
  dsimp only at a1 a2 a3 b1 b2 b3
  show some (((fn ++ gn).all fun d => d.code (Kt no n s)), (fn ++ gn).map (fun d => d.obs (Kt no n s)), (ks ++ js).map fun a => keysAt a (Kt no n s)) = some _
  rw [List.all_append, List.map_append, List.map_append, List.map_append, List.map_append, a1, a2, a3, b1, b2, b3]
  rfl
theorem run_join {no : PySem.W.Frag → List Addr} {n : Nat} {fa : List Fc} {fn : List Df} {ks : List (PySem.W.Frag → Addr)} {xs : List (List Str)} (a : RunA r q M loose w) (b : RunB r q M loose w) (c : RunF r M w no n fa) (d : RunN r M w no n fn ks xs) : RunEq r q (hook no n fa fn ks xs) (look no n fa fn ks) M loose w := fun os => by
  obtain ⟨s, hs, ha⟩ := Option.map_eq_some_iff.mp (a os)
  have hb := b os
  have hc := c os
  have hd := d os
  rw [hs] at hb hc hd
  have hb := Option.some.inj hb
  have hc : (fa.all fun f => f (Kt no n s)) = true := Option.some.inj hc
  have hd := Option.some.inj hd
  have h0 : (endF (stepQ (denQ tabQ) r.prog w) M r.prog w os) = some s := hs
  rw [h0]
  have key : sq r q loose s = openGood q loose := Prod.ext (congrArg (·.2.1) ha) (Prod.ext (congrArg (·.2.2.1) ha) (Prod.ext (congrArg (·.2.2.2.1) ha) (Prod.ext (congrArg (·.2.2.2.2) ha) hb)))
  have d1 := congrArg (fun z : Al => z.1) hd
  have d2 := congrArg (fun z : Al => z.2) hd
  dsimp only at d1 d2
  have ho : look no n fa fn ks s = val fn xs w := by
    show ((fa.all fun f => f (Kt no n s)) && fn.all fun d => d.code (Kt no n s), fn.map fun d => d.obs (Kt no n s), ks.map fun a => keysAt a (Kt no n s)) = _
    rw [hc, d1, d2]
    rfl
  exact congrArg some (Prod.ext (congrArg (·.1) ha) (Prod.ext key ho))
end
end Hd
end
section
set_option maxHeartbeats 2000000
namespace K22.Hh
open PySem L2
def fa0 : List Hd.Fc := [
  (fun K => Hd.isRef (PySem.W.nsIn K mainGlobals "Table")),
  (fun K => PySem.W.plainGet K (Hd.refOf (PySem.W.nsIn K mainGlobals "Table")) Str.empty),
  (fun K => PySem.W.hasDictIn K (Hd.refOf (PySem.W.nsIn K mainGlobals "Table"))),
  (fun K => PySem.W.plainOver K (Hd.refOf (PySem.W.nsIn K mainGlobals "Table"))),
  (fun K => He.eqO (PySem.W.findIn K (.ref (Hd.refOf (PySem.W.nsIn K mainGlobals "Table"))) "__setattr__") (some (some (.builtin "object.__setattr__")))),
  (fun K => PySem.W.makesIn K (Hd.refOf (PySem.W.nsIn K mainGlobals "Table"))),
  (fun K => PySem.W.keepIn K (.ref (Hd.refOf (PySem.W.nsIn K mainGlobals "Table")))),
  (fun K => He.eqO (PySem.W.findIn K (.ref (Hd.refOf (PySem.W.nsIn K mainGlobals "Table"))) "_days") (some none)),
  (fun K => Hd.isInt 600 (PySem.W.findIn K (.ref (Hd.refOf (PySem.W.nsIn K mainGlobals "Table"))) "MOST_LENGTH")),
  (fun K => He.eqO (PySem.W.specialIn K (Hd.valOf (PySem.W.findIn K (.ref (Hd.refOf (PySem.W.nsIn K mainGlobals "Table"))) "MOST_LENGTH")) "__get__") (some none)),
  (fun K => PySem.W.readsIn K (Hd.refOf (PySem.W.nsIn K mainGlobals "Table")) (.type "type")),
  (fun K => He.eqO (PySem.W.specialIn K (.ref (Hd.refOf (PySem.W.nsIn K mainGlobals "Table"))) "__getattribute__") (some (some (.builtin "type.__getattribute__")))),
  (fun K => Hd.isClsInt 600 (PySem.W.findCls K (.ref (Hd.refOf (PySem.W.nsIn K mainGlobals "Table"))) (.type "type") "MOST_LENGTH")),
  (fun K => decide (PySem.W.mroIn K (Hd.refOf (PySem.W.nsIn K mainGlobals "Table")) (.type "object") = some true)),
  (fun K => He.eqO (PySem.W.findIn K (.ref (Hd.refOf (PySem.W.nsIn K mainGlobals "Table"))) "__class__") (some (some (.builtin "object.__class__")))),
  (fun K => He.eqO (PySem.W.specialIn K (.builtin "object.__class__") "__get__") (some (some (.builtin "getset_descriptor.__get__")))),
  (fun K => decide (PySem.W.takesIn K (.builtin "object.__class__") = some true)),
  (fun K => Hd.isInt 60 (PySem.W.nsIn K mainGlobals "MOST_PIECES")),
  (fun K => Hd.isRef (PySem.W.nsIn K mainGlobals "SIZES")),
  (fun K => Hd.isDict K (Hd.refOf (PySem.W.nsIn K mainGlobals "SIZES"))),
  (fun K => !((Hd.refOf (PySem.W.nsIn K mainGlobals "SIZES")) == sysModules)),
  (fun K => Hd.isInt 2 (PySem.W.nsIn K (Hd.refOf (PySem.W.nsIn K mainGlobals "SIZES")) "day")),
  (fun K => Hd.isInt 2 (PySem.W.nsIn K (Hd.refOf (PySem.W.nsIn K mainGlobals "SIZES")) "num")),
  (fun K => Hd.isInt 3 (PySem.W.nsIn K (Hd.refOf (PySem.W.nsIn K mainGlobals "SIZES")) "on")),
  (fun K => Hd.isInt 3 (PySem.W.nsIn K (Hd.refOf (PySem.W.nsIn K mainGlobals "SIZES")) "by")),
  (fun K => Hd.isInt 3 (PySem.W.nsIn K (Hd.refOf (PySem.W.nsIn K mainGlobals "SIZES")) "til")),
  (fun K => Hd.isInt 3 (PySem.W.nsIn K (Hd.refOf (PySem.W.nsIn K mainGlobals "SIZES")) "add")),
  (fun K => Hd.isInt 3 (PySem.W.nsIn K (Hd.refOf (PySem.W.nsIn K mainGlobals "SIZES")) "late")),
  (fun K => Hd.isInt 3 (PySem.W.nsIn K (Hd.refOf (PySem.W.nsIn K mainGlobals "SIZES")) "soon")),
  (fun K => He.eqO (PySem.W.nsIn K (Hd.refOf (PySem.W.nsIn K mainGlobals "SIZES")) "le") (some none)),
  (fun K => He.eqO (PySem.W.nsIn K (Hd.refOf (PySem.W.nsIn K mainGlobals "SIZES")) "and") (some none)),
  (fun K => He.eqO (PySem.W.nsIn K (Hd.refOf (PySem.W.nsIn K mainGlobals "SIZES")) "or") (some none)),
  (fun K => He.eqO (PySem.W.nsIn K (Hd.refOf (PySem.W.nsIn K mainGlobals "SIZES")) "not") (some none)),
  (fun K => Hd.isRef (PySem.W.nsIn K mainGlobals "SIZES_OF_SAYINGS")),
  (fun K => Hd.isDict K (Hd.refOf (PySem.W.nsIn K mainGlobals "SIZES_OF_SAYINGS"))),
  (fun K => !((Hd.refOf (PySem.W.nsIn K mainGlobals "SIZES_OF_SAYINGS")) == sysModules)),
  (fun K => Hd.isInt 3 (PySem.W.nsIn K (Hd.refOf (PySem.W.nsIn K mainGlobals "SIZES_OF_SAYINGS")) "le")),
  (fun K => Hd.isInt 3 (PySem.W.nsIn K (Hd.refOf (PySem.W.nsIn K mainGlobals "SIZES_OF_SAYINGS")) "and")),
  (fun K => Hd.isInt 3 (PySem.W.nsIn K (Hd.refOf (PySem.W.nsIn K mainGlobals "SIZES_OF_SAYINGS")) "or")),
  (fun K => Hd.isInt 2 (PySem.W.nsIn K (Hd.refOf (PySem.W.nsIn K mainGlobals "SIZES_OF_SAYINGS")) "not"))]
def fa1 : List Hd.Fc := [
  (fun K => Hd.isRef (PySem.W.nsIn K mainGlobals "is_day")),
  (fun K => PySem.W.keepIn K (.ref (Hd.refOf (PySem.W.nsIn K mainGlobals "is_day")))),
  (fun K => Hd.isRef (PySem.W.nsIn K mainGlobals "is_count")),
  (fun K => PySem.W.keepIn K (.ref (Hd.refOf (PySem.W.nsIn K mainGlobals "is_count")))),
  (fun K => Hd.isRef (PySem.W.nsIn K mainGlobals "is_rule")),
  (fun K => PySem.W.keepIn K (.ref (Hd.refOf (PySem.W.nsIn K mainGlobals "is_rule")))),
  (fun K => Hd.isRef (PySem.W.nsIn K mainGlobals "is_name")),
  (fun K => PySem.W.keepIn K (.ref (Hd.refOf (PySem.W.nsIn K mainGlobals "is_name")))),
  (fun K => Hd.isRef (PySem.W.nsIn K mainGlobals "is_days")),
  (fun K => PySem.W.keepIn K (.ref (Hd.refOf (PySem.W.nsIn K mainGlobals "is_days")))),
  (fun K => Hd.isRef (PySem.W.nsIn K mainGlobals "need_day")),
  (fun K => PySem.W.keepIn K (.ref (Hd.refOf (PySem.W.nsIn K mainGlobals "need_day")))),
  (fun K => Hd.isRef (PySem.W.nsIn K mainGlobals "need_length")),
  (fun K => PySem.W.keepIn K (.ref (Hd.refOf (PySem.W.nsIn K mainGlobals "need_length")))),
  (fun K => Hd.isRef (PySem.W.nsIn K mainGlobals "need_days")),
  (fun K => PySem.W.keepIn K (.ref (Hd.refOf (PySem.W.nsIn K mainGlobals "need_days")))),
  (fun K => Hd.isRef (PySem.W.nsIn K mainGlobals "is_list")),
  (fun K => PySem.W.keepIn K (.ref (Hd.refOf (PySem.W.nsIn K mainGlobals "is_list")))),
  (fun K => Hd.isRef (PySem.W.nsIn K mainGlobals "parts_of")),
  (fun K => PySem.W.keepIn K (.ref (Hd.refOf (PySem.W.nsIn K mainGlobals "parts_of")))),
  (fun K => Hd.isRef (PySem.W.nsIn K mainGlobals "all_pieces")),
  (fun K => PySem.W.keepIn K (.ref (Hd.refOf (PySem.W.nsIn K mainGlobals "all_pieces")))),
  (fun K => Hd.isRef (PySem.W.nsIn K mainGlobals "names_in")),
  (fun K => PySem.W.keepIn K (.ref (Hd.refOf (PySem.W.nsIn K mainGlobals "names_in")))),
  (fun K => Hd.isRef (PySem.W.nsIn K mainGlobals "rules_in")),
  (fun K => PySem.W.keepIn K (.ref (Hd.refOf (PySem.W.nsIn K mainGlobals "rules_in")))),
  (fun K => Hd.isRef (PySem.W.nsIn K mainGlobals "need_few_pieces")),
  (fun K => PySem.W.keepIn K (.ref (Hd.refOf (PySem.W.nsIn K mainGlobals "need_few_pieces")))),
  (fun K => Hd.isRef (PySem.W.findIn K (.ref (Hd.refOf (PySem.W.nsIn K mainGlobals "Table"))) "__init__")),
  (fun K => PySem.W.isFn K (.ref (Hd.refOf (PySem.W.findIn K (.ref (Hd.refOf (PySem.W.nsIn K mainGlobals "Table"))) "__init__")))),
  (fun K => PySem.W.keepIn K (.ref (Hd.refOf (PySem.W.findIn K (.ref (Hd.refOf (PySem.W.nsIn K mainGlobals "Table"))) "__init__")))),
  (fun K => Hd.isRef (PySem.W.findIn K (.ref (Hd.refOf (PySem.W.nsIn K mainGlobals "Table"))) "length")),
  (fun K => He.eqO (PySem.W.specialIn K (.ref (Hd.refOf (PySem.W.findIn K (.ref (Hd.refOf (PySem.W.nsIn K mainGlobals "Table"))) "length"))) "__get__") (some (some (.builtin "property.__get__")))),
  (fun K => decide (PySem.W.takesIn K (.ref (Hd.refOf (PySem.W.findIn K (.ref (Hd.refOf (PySem.W.nsIn K mainGlobals "Table"))) "length"))) = some true)),
  (fun K => Hd.isRec K (Hd.refOf (PySem.W.findIn K (.ref (Hd.refOf (PySem.W.nsIn K mainGlobals "Table"))) "length")) "property"),
  (fun K => PySem.W.keepIn K (.ref (Hd.recOf K (Hd.refOf (PySem.W.findIn K (.ref (Hd.refOf (PySem.W.nsIn K mainGlobals "Table"))) "length")) "property"))),
  (fun K => Hd.isRef (PySem.W.findIn K (.ref (Hd.refOf (PySem.W.nsIn K mainGlobals "Table"))) "asked_rows")),
  (fun K => PySem.W.isFn K (.ref (Hd.refOf (PySem.W.findIn K (.ref (Hd.refOf (PySem.W.nsIn K mainGlobals "Table"))) "asked_rows")))),
  (fun K => PySem.W.keepIn K (.ref (Hd.refOf (PySem.W.findIn K (.ref (Hd.refOf (PySem.W.nsIn K mainGlobals "Table"))) "asked_rows")))),
  (fun K => Hd.isRef (PySem.W.findIn K (.ref (Hd.refOf (PySem.W.nsIn K mainGlobals "Table"))) "on"))]
def fa2 : List Hd.Fc := [
  (fun K => PySem.W.isFn K (.ref (Hd.refOf (PySem.W.findIn K (.ref (Hd.refOf (PySem.W.nsIn K mainGlobals "Table"))) "on")))),
  (fun K => PySem.W.keepIn K (.ref (Hd.refOf (PySem.W.findIn K (.ref (Hd.refOf (PySem.W.nsIn K mainGlobals "Table"))) "on")))),
  (fun K => Hd.isRef (PySem.W.findIn K (.ref (Hd.refOf (PySem.W.nsIn K mainGlobals "Table"))) "by")),
  (fun K => PySem.W.isFn K (.ref (Hd.refOf (PySem.W.findIn K (.ref (Hd.refOf (PySem.W.nsIn K mainGlobals "Table"))) "by")))),
  (fun K => PySem.W.keepIn K (.ref (Hd.refOf (PySem.W.findIn K (.ref (Hd.refOf (PySem.W.nsIn K mainGlobals "Table"))) "by")))),
  (fun K => Hd.isRef (PySem.W.findIn K (.ref (Hd.refOf (PySem.W.nsIn K mainGlobals "Table"))) "til")),
  (fun K => PySem.W.isFn K (.ref (Hd.refOf (PySem.W.findIn K (.ref (Hd.refOf (PySem.W.nsIn K mainGlobals "Table"))) "til")))),
  (fun K => PySem.W.keepIn K (.ref (Hd.refOf (PySem.W.findIn K (.ref (Hd.refOf (PySem.W.nsIn K mainGlobals "Table"))) "til")))),
  (fun K => Hd.isRef (PySem.W.findIn K (.ref (Hd.refOf (PySem.W.nsIn K mainGlobals "Table"))) "stretched")),
  (fun K => PySem.W.isFn K (.ref (Hd.refOf (PySem.W.findIn K (.ref (Hd.refOf (PySem.W.nsIn K mainGlobals "Table"))) "stretched")))),
  (fun K => PySem.W.keepIn K (.ref (Hd.refOf (PySem.W.findIn K (.ref (Hd.refOf (PySem.W.nsIn K mainGlobals "Table"))) "stretched")))),
  (fun K => Hd.isRef (PySem.W.findIn K (.ref (Hd.refOf (PySem.W.nsIn K mainGlobals "Table"))) "shortest")),
  (fun K => PySem.W.isFn K (.ref (Hd.refOf (PySem.W.findIn K (.ref (Hd.refOf (PySem.W.nsIn K mainGlobals "Table"))) "shortest")))),
  (fun K => PySem.W.keepIn K (.ref (Hd.refOf (PySem.W.findIn K (.ref (Hd.refOf (PySem.W.nsIn K mainGlobals "Table"))) "shortest")))),
  (fun K => Hd.isRef (PySem.W.nsIn K mainGlobals "is_table")),
  (fun K => PySem.W.keepIn K (.ref (Hd.refOf (PySem.W.nsIn K mainGlobals "is_table")))),
  (fun K => Hd.isRef (PySem.W.nsIn K mainGlobals "is_world")),
  (fun K => PySem.W.keepIn K (.ref (Hd.refOf (PySem.W.nsIn K mainGlobals "is_world")))),
  (fun K => Hd.isRef (PySem.W.nsIn K mainGlobals "need_world")),
  (fun K => PySem.W.keepIn K (.ref (Hd.refOf (PySem.W.nsIn K mainGlobals "need_world")))),
  (fun K => Hd.isRef (PySem.W.nsIn K mainGlobals "_many_ahead")),
  (fun K => PySem.W.keepIn K (.ref (Hd.refOf (PySem.W.nsIn K mainGlobals "_many_ahead")))),
  (fun K => Hd.isRef (PySem.W.nsIn K mainGlobals "_repeats")),
  (fun K => PySem.W.keepIn K (.ref (Hd.refOf (PySem.W.nsIn K mainGlobals "_repeats")))),
  (fun K => Hd.isRef (PySem.W.nsIn K mainGlobals "is_formula")),
  (fun K => PySem.W.keepIn K (.ref (Hd.refOf (PySem.W.nsIn K mainGlobals "is_formula")))),
  (fun K => Hd.isRef (PySem.W.nsIn K mainGlobals "need_formula")),
  (fun K => PySem.W.keepIn K (.ref (Hd.refOf (PySem.W.nsIn K mainGlobals "need_formula")))),
  (fun K => Hd.isRef (PySem.W.nsIn K mainGlobals "need_rules")),
  (fun K => PySem.W.keepIn K (.ref (Hd.refOf (PySem.W.nsIn K mainGlobals "need_rules")))),
  (fun K => Hd.isRef (PySem.W.nsIn K mainGlobals "need_names")),
  (fun K => PySem.W.keepIn K (.ref (Hd.refOf (PySem.W.nsIn K mainGlobals "need_names")))),
  (fun K => Hd.isRef (PySem.W.nsIn K mainGlobals "need_known")),
  (fun K => PySem.W.keepIn K (.ref (Hd.refOf (PySem.W.nsIn K mainGlobals "need_known")))),
  (fun K => Hd.isRef (PySem.W.nsIn K mainGlobals "day_of")),
  (fun K => PySem.W.keepIn K (.ref (Hd.refOf (PySem.W.nsIn K mainGlobals "day_of")))),
  (fun K => Hd.isRef (PySem.W.nsIn K mainGlobals "reckoned")),
  (fun K => PySem.W.keepIn K (.ref (Hd.refOf (PySem.W.nsIn K mainGlobals "reckoned")))),
  (fun K => Hd.isRef (PySem.W.nsIn K mainGlobals "_is_piece")),
  (fun K => PySem.W.keepIn K (.ref (Hd.refOf (PySem.W.nsIn K mainGlobals "_is_piece"))))]
def fa3 : List Hd.Fc := [
  (fun K => Hd.isRef (PySem.W.nsIn K mainGlobals "is_saying")),
  (fun K => PySem.W.keepIn K (.ref (Hd.refOf (PySem.W.nsIn K mainGlobals "is_saying")))),
  (fun K => Hd.isRef (PySem.W.nsIn K mainGlobals "need_saying")),
  (fun K => PySem.W.keepIn K (.ref (Hd.refOf (PySem.W.nsIn K mainGlobals "need_saying")))),
  (fun K => Hd.isRef (PySem.W.nsIn K mainGlobals "need_told")),
  (fun K => PySem.W.keepIn K (.ref (Hd.refOf (PySem.W.nsIn K mainGlobals "need_told")))),
  (fun K => Hd.isRef (PySem.W.nsIn K mainGlobals "holds")),
  (fun K => PySem.W.keepIn K (.ref (Hd.refOf (PySem.W.nsIn K mainGlobals "holds")))),
  (fun K => Hd.isRef (PySem.W.nsIn K mainGlobals "is_so")),
  (fun K => PySem.W.keepIn K (.ref (Hd.refOf (PySem.W.nsIn K mainGlobals "is_so")))),
  (fun K => Hd.isRef (PySem.W.nsIn K mainGlobals "pieces")),
  (fun K => PySem.W.keepIn K (.ref (Hd.refOf (PySem.W.nsIn K mainGlobals "pieces")))),
  (fun K => Hd.isRef (PySem.W.nsIn K mainGlobals "names_of")),
  (fun K => PySem.W.keepIn K (.ref (Hd.refOf (PySem.W.nsIn K mainGlobals "names_of")))),
  (fun K => Hd.isRef (PySem.W.nsIn K mainGlobals "rules_of")),
  (fun K => PySem.W.keepIn K (.ref (Hd.refOf (PySem.W.nsIn K mainGlobals "rules_of")))),
  (fun K => Hd.isRef (PySem.W.nsIn K mainGlobals "_is_tuple_of_saying")),
  (fun K => PySem.W.keepIn K (.ref (Hd.refOf (PySem.W.nsIn K mainGlobals "_is_tuple_of_saying")))),
  (fun K => Hd.isRef (PySem.W.nsIn K mainGlobals "_law_pot")),
  (fun K => PySem.W.keepIn K (.ref (Hd.refOf (PySem.W.nsIn K mainGlobals "_law_pot")))),
  (fun K => Hd.isRef (PySem.W.nsIn K mainGlobals "_law_draw")),
  (fun K => PySem.W.keepIn K (.ref (Hd.refOf (PySem.W.nsIn K mainGlobals "_law_draw")))),
  (fun K => Hd.isRef (PySem.W.nsIn K mainGlobals "_law_pick")),
  (fun K => PySem.W.keepIn K (.ref (Hd.refOf (PySem.W.nsIn K mainGlobals "_law_pick")))),
  (fun K => Hd.isRef (PySem.W.nsIn K mainGlobals "_law_some")),
  (fun K => PySem.W.keepIn K (.ref (Hd.refOf (PySem.W.nsIn K mainGlobals "_law_some")))),
  (fun K => Hd.isRef (PySem.W.nsIn K mainGlobals "_law_number")),
  (fun K => PySem.W.keepIn K (.ref (Hd.refOf (PySem.W.nsIn K mainGlobals "_law_number")))),
  (fun K => Hd.isRef (PySem.W.nsIn K mainGlobals "_law_formula")),
  (fun K => PySem.W.keepIn K (.ref (Hd.refOf (PySem.W.nsIn K mainGlobals "_law_formula")))),
  (fun K => Hd.isRef (PySem.W.nsIn K mainGlobals "_law_saying")),
  (fun K => PySem.W.keepIn K (.ref (Hd.refOf (PySem.W.nsIn K mainGlobals "_law_saying")))),
  (fun K => Hd.isRef (PySem.W.nsIn K mainGlobals "_law_table")),
  (fun K => PySem.W.keepIn K (.ref (Hd.refOf (PySem.W.nsIn K mainGlobals "_law_table")))),
  (fun K => Hd.isRef (PySem.W.nsIn K mainGlobals "_law_on")),
  (fun K => PySem.W.keepIn K (.ref (Hd.refOf (PySem.W.nsIn K mainGlobals "_law_on")))),
  (fun K => Hd.isRef (PySem.W.nsIn K mainGlobals "_law_leads")),
  (fun K => PySem.W.keepIn K (.ref (Hd.refOf (PySem.W.nsIn K mainGlobals "_law_leads")))),
  (fun K => Hd.isRef (PySem.W.nsIn K mainGlobals "_law_by")),
  (fun K => PySem.W.keepIn K (.ref (Hd.refOf (PySem.W.nsIn K mainGlobals "_law_by"))))]
def fa4 : List Hd.Fc := [
  (fun K => Hd.isRef (PySem.W.nsIn K mainGlobals "_law_til")),
  (fun K => PySem.W.keepIn K (.ref (Hd.refOf (PySem.W.nsIn K mainGlobals "_law_til")))),
  (fun K => Hd.isRef (PySem.W.nsIn K mainGlobals "_law_day")),
  (fun K => PySem.W.keepIn K (.ref (Hd.refOf (PySem.W.nsIn K mainGlobals "_law_day")))),
  (fun K => Hd.isRef (PySem.W.nsIn K mainGlobals "_law_is_so")),
  (fun K => PySem.W.keepIn K (.ref (Hd.refOf (PySem.W.nsIn K mainGlobals "_law_is_so")))),
  (fun K => Hd.isRef (PySem.W.nsIn K mainGlobals "_law_parts")),
  (fun K => PySem.W.keepIn K (.ref (Hd.refOf (PySem.W.nsIn K mainGlobals "_law_parts")))),
  (fun K => Hd.isRef (PySem.W.nsIn K mainGlobals "_law_size")),
  (fun K => PySem.W.keepIn K (.ref (Hd.refOf (PySem.W.nsIn K mainGlobals "_law_size")))),
  (fun K => Hd.isRef (PySem.W.nsIn K mainGlobals "_law_letters")),
  (fun K => PySem.W.keepIn K (.ref (Hd.refOf (PySem.W.nsIn K mainGlobals "_law_letters")))),
  (fun K => Hd.isRef (PySem.W.nsIn K mainGlobals "_law_short")),
  (fun K => PySem.W.keepIn K (.ref (Hd.refOf (PySem.W.nsIn K mainGlobals "_law_short")))),
  (fun K => Hd.isRef (PySem.W.nsIn K mainGlobals "_law_days")),
  (fun K => PySem.W.keepIn K (.ref (Hd.refOf (PySem.W.nsIn K mainGlobals "_law_days")))),
  (fun K => Hd.isRef (PySem.W.nsIn K mainGlobals "_law_world")),
  (fun K => PySem.W.keepIn K (.ref (Hd.refOf (PySem.W.nsIn K mainGlobals "_law_world")))),
  (fun K => Hd.isRef (PySem.W.nsIn K mainGlobals "_law_tables")),
  (fun K => PySem.W.keepIn K (.ref (Hd.refOf (PySem.W.nsIn K mainGlobals "_law_tables")))),
  (fun K => Hd.isRef (PySem.W.nsIn K mainGlobals "_law_is_integer")),
  (fun K => PySem.W.keepIn K (.ref (Hd.refOf (PySem.W.nsIn K mainGlobals "_law_is_integer")))),
  (fun K => Hd.isRef (PySem.W.nsIn K mainGlobals "_law_turned")),
  (fun K => PySem.W.keepIn K (.ref (Hd.refOf (PySem.W.nsIn K mainGlobals "_law_turned")))),
  (fun K => Hd.isRef (PySem.W.nsIn K mainGlobals "_law_told_right")),
  (fun K => PySem.W.keepIn K (.ref (Hd.refOf (PySem.W.nsIn K mainGlobals "_law_told_right")))),
  (fun K => Hd.isRef (PySem.W.nsIn K mainGlobals "_law_other_tables")),
  (fun K => PySem.W.keepIn K (.ref (Hd.refOf (PySem.W.nsIn K mainGlobals "_law_other_tables")))),
  (fun K => Hd.isRef (PySem.W.nsIn K mainGlobals "_law_days_right")),
  (fun K => PySem.W.keepIn K (.ref (Hd.refOf (PySem.W.nsIn K mainGlobals "_law_days_right")))),
  (fun K => Hd.isRef (PySem.W.nsIn K mainGlobals "_law_facts_right")),
  (fun K => PySem.W.keepIn K (.ref (Hd.refOf (PySem.W.nsIn K mainGlobals "_law_facts_right")))),
  (fun K => Hd.isRef (PySem.W.nsIn K mainGlobals "_law_sayings_right")),
  (fun K => PySem.W.keepIn K (.ref (Hd.refOf (PySem.W.nsIn K mainGlobals "_law_sayings_right")))),
  (fun K => Hd.isRef (PySem.W.nsIn K mainGlobals "_law_right")),
  (fun K => PySem.W.keepIn K (.ref (Hd.refOf (PySem.W.nsIn K mainGlobals "_law_right")))),
  (fun K => Hd.isRef (PySem.W.nsIn K mainGlobals "law")),
  (fun K => PySem.W.keepIn K (.ref (Hd.refOf (PySem.W.nsIn K mainGlobals "law")))),
  (fun K => He.eqO (PySem.W.nsIn K mainGlobals "isinstance") (some none)),
  (fun K => He.eqO (PySem.W.nsIn K mainGlobals "int") (some none))]
def fa5 : List Hd.Fc := [
  (fun K => He.eqO (PySem.W.nsIn K mainGlobals "bool") (some none)),
  (fun K => He.eqO (PySem.W.nsIn K mainGlobals "list") (some none)),
  (fun K => He.eqO (PySem.W.nsIn K mainGlobals "tuple") (some none)),
  (fun K => He.eqO (PySem.W.nsIn K mainGlobals "str") (some none)),
  (fun K => He.eqO (PySem.W.nsIn K mainGlobals "dict") (some none)),
  (fun K => He.eqO (PySem.W.nsIn K mainGlobals "len") (some none)),
  (fun K => He.eqO (PySem.W.nsIn K mainGlobals "enumerate") (some none)),
  (fun K => He.eqO (PySem.W.nsIn K mainGlobals "range") (some none)),
  (fun K => He.eqO (PySem.W.nsIn K mainGlobals "divmod") (some none)),
  (fun K => He.eqO (PySem.W.nsIn K mainGlobals "min") (some none)),
  (fun K => He.eqO (PySem.W.nsIn K mainGlobals "max") (some none)),
  (fun K => He.eqO (PySem.W.nsIn K mainGlobals "all") (some none)),
  (fun K => He.eqO (PySem.W.nsIn K mainGlobals "abs") (some none)),
  (fun K => He.eqO (PySem.W.nsIn K mainGlobals "repr") (some none)),
  (fun K => He.eqO (PySem.W.nsIn K mainGlobals "sum") (some none)),
  (fun K => He.eqO (PySem.W.nsIn K mainGlobals "set") (some none)),
  (fun K => He.eqO (PySem.W.nsIn K mainGlobals "sorted") (some none))]
def fg0 : List Hd.Fc := fa0 ++ fa1 ++ fa2 ++ fa3 ++ fa4 ++ fa5
def fa : List Hd.Fc := fg0
def fn0 : List Hd.Df := [
  ⟨fun K => (Hd.refOf (PySem.W.nsIn K mainGlobals "is_day")), "is_day", "is_day", (defArgs s_is_day), (defBody s_is_day), (defScope s_is_day)⟩,
  ⟨fun K => (Hd.refOf (PySem.W.nsIn K mainGlobals "is_count")), "is_count", "is_count", (defArgs s_is_count), (defBody s_is_count), (defScope s_is_count)⟩,
  ⟨fun K => (Hd.refOf (PySem.W.nsIn K mainGlobals "is_rule")), "is_rule", "is_rule", (defArgs s_is_rule), (defBody s_is_rule), (defScope s_is_rule)⟩,
  ⟨fun K => (Hd.refOf (PySem.W.nsIn K mainGlobals "is_name")), "is_name", "is_name", (defArgs s_is_name), (defBody s_is_name), (defScope s_is_name)⟩,
  ⟨fun K => (Hd.refOf (PySem.W.nsIn K mainGlobals "is_days")), "is_days", "is_days", (defArgs s_is_days), (defBody s_is_days), (defScope s_is_days)⟩,
  ⟨fun K => (Hd.refOf (PySem.W.nsIn K mainGlobals "need_day")), "need_day", "need_day", (defArgs s_need_day), (defBody s_need_day), (defScope s_need_day)⟩,
  ⟨fun K => (Hd.refOf (PySem.W.nsIn K mainGlobals "need_length")), "need_length", "need_length", (defArgs s_need_length), (defBody s_need_length), (defScope s_need_length)⟩,
  ⟨fun K => (Hd.refOf (PySem.W.nsIn K mainGlobals "need_days")), "need_days", "need_days", (defArgs s_need_days), (defBody s_need_days), (defScope s_need_days)⟩,
  ⟨fun K => (Hd.refOf (PySem.W.nsIn K mainGlobals "is_list")), "is_list", "is_list", (defArgs s_is_list), (defBody s_is_list), (defScope s_is_list)⟩,
  ⟨fun K => (Hd.refOf (PySem.W.nsIn K mainGlobals "parts_of")), "parts_of", "parts_of", (defArgs s_parts_of), (defBody s_parts_of), (defScope s_parts_of)⟩,
  ⟨fun K => (Hd.refOf (PySem.W.nsIn K mainGlobals "all_pieces")), "all_pieces", "all_pieces", (defArgs s_all_pieces), (defBody s_all_pieces), (defScope s_all_pieces)⟩,
  ⟨fun K => (Hd.refOf (PySem.W.nsIn K mainGlobals "names_in")), "names_in", "names_in", (defArgs s_names_in), (defBody s_names_in), (defScope s_names_in)⟩,
  ⟨fun K => (Hd.refOf (PySem.W.nsIn K mainGlobals "rules_in")), "rules_in", "rules_in", (defArgs s_rules_in), (defBody s_rules_in), (defScope s_rules_in)⟩,
  ⟨fun K => (Hd.refOf (PySem.W.nsIn K mainGlobals "need_few_pieces")), "need_few_pieces", "need_few_pieces", (defArgs s_need_few_pieces), (defBody s_need_few_pieces), (defScope s_need_few_pieces)⟩,
  ⟨fun K => (Hd.refOf (PySem.W.findIn K (.ref (Hd.refOf (PySem.W.nsIn K mainGlobals "Table"))) "__init__")), "__init__", "Table.__init__", (defArgs s_Table___init__), (defBody s_Table___init__), (defScope s_Table___init__)⟩,
  ⟨fun K => (Hd.recOf K (Hd.refOf (PySem.W.findIn K (.ref (Hd.refOf (PySem.W.nsIn K mainGlobals "Table"))) "length")) "property"), "length", "Table.length", (defArgs s_Table_length), (defBody s_Table_length), (defScope s_Table_length)⟩,
  ⟨fun K => (Hd.refOf (PySem.W.findIn K (.ref (Hd.refOf (PySem.W.nsIn K mainGlobals "Table"))) "asked_rows")), "asked_rows", "Table.asked_rows", (defArgs s_Table_asked_rows), (defBody s_Table_asked_rows), (defScope s_Table_asked_rows)⟩,
  ⟨fun K => (Hd.refOf (PySem.W.findIn K (.ref (Hd.refOf (PySem.W.nsIn K mainGlobals "Table"))) "on")), "on", "Table.on", (defArgs s_Table_on), (defBody s_Table_on), (defScope s_Table_on)⟩,
  ⟨fun K => (Hd.refOf (PySem.W.findIn K (.ref (Hd.refOf (PySem.W.nsIn K mainGlobals "Table"))) "by")), "by", "Table.by", (defArgs s_Table_by), (defBody s_Table_by), (defScope s_Table_by)⟩,
  ⟨fun K => (Hd.refOf (PySem.W.findIn K (.ref (Hd.refOf (PySem.W.nsIn K mainGlobals "Table"))) "til")), "til", "Table.til", (defArgs s_Table_til), (defBody s_Table_til), (defScope s_Table_til)⟩,
  ⟨fun K => (Hd.refOf (PySem.W.findIn K (.ref (Hd.refOf (PySem.W.nsIn K mainGlobals "Table"))) "stretched")), "stretched", "Table.stretched", (defArgs s_Table_stretched), (defBody s_Table_stretched), (defScope s_Table_stretched)⟩,
  ⟨fun K => (Hd.refOf (PySem.W.findIn K (.ref (Hd.refOf (PySem.W.nsIn K mainGlobals "Table"))) "shortest")), "shortest", "Table.shortest", (defArgs s_Table_shortest), (defBody s_Table_shortest), (defScope s_Table_shortest)⟩,
  ⟨fun K => (Hd.refOf (PySem.W.nsIn K mainGlobals "is_table")), "is_table", "is_table", (defArgs s_is_table), (defBody s_is_table), (defScope s_is_table)⟩,
  ⟨fun K => (Hd.refOf (PySem.W.nsIn K mainGlobals "is_world")), "is_world", "is_world", (defArgs s_is_world), (defBody s_is_world), (defScope s_is_world)⟩,
  ⟨fun K => (Hd.refOf (PySem.W.nsIn K mainGlobals "need_world")), "need_world", "need_world", (defArgs s_need_world), (defBody s_need_world), (defScope s_need_world)⟩,
  ⟨fun K => (Hd.refOf (PySem.W.nsIn K mainGlobals "_many_ahead")), "_many_ahead", "_many_ahead", (defArgs s__many_ahead), (defBody s__many_ahead), (defScope s__many_ahead)⟩,
  ⟨fun K => (Hd.refOf (PySem.W.nsIn K mainGlobals "_repeats")), "_repeats", "_repeats", (defArgs s__repeats), (defBody s__repeats), (defScope s__repeats)⟩,
  ⟨fun K => (Hd.refOf (PySem.W.nsIn K mainGlobals "is_formula")), "is_formula", "is_formula", (defArgs s_is_formula), (defBody s_is_formula), (defScope s_is_formula)⟩,
  ⟨fun K => (Hd.refOf (PySem.W.nsIn K mainGlobals "need_formula")), "need_formula", "need_formula", (defArgs s_need_formula), (defBody s_need_formula), (defScope s_need_formula)⟩,
  ⟨fun K => (Hd.refOf (PySem.W.nsIn K mainGlobals "need_rules")), "need_rules", "need_rules", (defArgs s_need_rules), (defBody s_need_rules), (defScope s_need_rules)⟩,
  ⟨fun K => (Hd.refOf (PySem.W.nsIn K mainGlobals "need_names")), "need_names", "need_names", (defArgs s_need_names), (defBody s_need_names), (defScope s_need_names)⟩,
  ⟨fun K => (Hd.refOf (PySem.W.nsIn K mainGlobals "need_known")), "need_known", "need_known", (defArgs s_need_known), (defBody s_need_known), (defScope s_need_known)⟩,
  ⟨fun K => (Hd.refOf (PySem.W.nsIn K mainGlobals "day_of")), "day_of", "day_of", (defArgs s_day_of), (defBody s_day_of), (defScope s_day_of)⟩,
  ⟨fun K => (Hd.refOf (PySem.W.nsIn K mainGlobals "reckoned")), "reckoned", "reckoned", (defArgs s_reckoned), (defBody s_reckoned), (defScope s_reckoned)⟩,
  ⟨fun K => (Hd.refOf (PySem.W.nsIn K mainGlobals "_is_piece")), "_is_piece", "_is_piece", (defArgs s__is_piece), (defBody s__is_piece), (defScope s__is_piece)⟩,
  ⟨fun K => (Hd.refOf (PySem.W.nsIn K mainGlobals "is_saying")), "is_saying", "is_saying", (defArgs s_is_saying), (defBody s_is_saying), (defScope s_is_saying)⟩,
  ⟨fun K => (Hd.refOf (PySem.W.nsIn K mainGlobals "need_saying")), "need_saying", "need_saying", (defArgs s_need_saying), (defBody s_need_saying), (defScope s_need_saying)⟩,
  ⟨fun K => (Hd.refOf (PySem.W.nsIn K mainGlobals "need_told")), "need_told", "need_told", (defArgs s_need_told), (defBody s_need_told), (defScope s_need_told)⟩,
  ⟨fun K => (Hd.refOf (PySem.W.nsIn K mainGlobals "holds")), "holds", "holds", (defArgs s_holds), (defBody s_holds), (defScope s_holds)⟩,
  ⟨fun K => (Hd.refOf (PySem.W.nsIn K mainGlobals "is_so")), "is_so", "is_so", (defArgs s_is_so), (defBody s_is_so), (defScope s_is_so)⟩]
def fn1 : List Hd.Df := [
  ⟨fun K => (Hd.refOf (PySem.W.nsIn K mainGlobals "pieces")), "pieces", "pieces", (defArgs s_pieces), (defBody s_pieces), (defScope s_pieces)⟩,
  ⟨fun K => (Hd.refOf (PySem.W.nsIn K mainGlobals "names_of")), "names_of", "names_of", (defArgs s_names_of), (defBody s_names_of), (defScope s_names_of)⟩,
  ⟨fun K => (Hd.refOf (PySem.W.nsIn K mainGlobals "rules_of")), "rules_of", "rules_of", (defArgs s_rules_of), (defBody s_rules_of), (defScope s_rules_of)⟩,
  ⟨fun K => (Hd.refOf (PySem.W.nsIn K mainGlobals "_is_tuple_of_saying")), "_is_tuple_of_saying", "_is_tuple_of_saying", (defArgs s__is_tuple_of_saying), (defBody s__is_tuple_of_saying), (defScope s__is_tuple_of_saying)⟩,
  ⟨fun K => (Hd.refOf (PySem.W.nsIn K mainGlobals "_law_pot")), "_law_pot", "_law_pot", (defArgs s__law_pot), (defBody s__law_pot), (defScope s__law_pot)⟩,
  ⟨fun K => (Hd.refOf (PySem.W.nsIn K mainGlobals "_law_draw")), "_law_draw", "_law_draw", (defArgs s__law_draw), (defBody s__law_draw), (defScope s__law_draw)⟩,
  ⟨fun K => (Hd.refOf (PySem.W.nsIn K mainGlobals "_law_pick")), "_law_pick", "_law_pick", (defArgs s__law_pick), (defBody s__law_pick), (defScope s__law_pick)⟩,
  ⟨fun K => (Hd.refOf (PySem.W.nsIn K mainGlobals "_law_some")), "_law_some", "_law_some", (defArgs s__law_some), (defBody s__law_some), (defScope s__law_some)⟩,
  ⟨fun K => (Hd.refOf (PySem.W.nsIn K mainGlobals "_law_number")), "_law_number", "_law_number", (defArgs s__law_number), (defBody s__law_number), (defScope s__law_number)⟩,
  ⟨fun K => (Hd.refOf (PySem.W.nsIn K mainGlobals "_law_formula")), "_law_formula", "_law_formula", (defArgs s__law_formula), (defBody s__law_formula), (defScope s__law_formula)⟩,
  ⟨fun K => (Hd.refOf (PySem.W.nsIn K mainGlobals "_law_saying")), "_law_saying", "_law_saying", (defArgs s__law_saying), (defBody s__law_saying), (defScope s__law_saying)⟩,
  ⟨fun K => (Hd.refOf (PySem.W.nsIn K mainGlobals "_law_table")), "_law_table", "_law_table", (defArgs s__law_table), (defBody s__law_table), (defScope s__law_table)⟩,
  ⟨fun K => (Hd.refOf (PySem.W.nsIn K mainGlobals "_law_on")), "_law_on", "_law_on", (defArgs s__law_on), (defBody s__law_on), (defScope s__law_on)⟩,
  ⟨fun K => (Hd.refOf (PySem.W.nsIn K mainGlobals "_law_leads")), "_law_leads", "_law_leads", (defArgs s__law_leads), (defBody s__law_leads), (defScope s__law_leads)⟩,
  ⟨fun K => (Hd.refOf (PySem.W.nsIn K mainGlobals "_law_by")), "_law_by", "_law_by", (defArgs s__law_by), (defBody s__law_by), (defScope s__law_by)⟩,
  ⟨fun K => (Hd.refOf (PySem.W.nsIn K mainGlobals "_law_til")), "_law_til", "_law_til", (defArgs s__law_til), (defBody s__law_til), (defScope s__law_til)⟩,
  ⟨fun K => (Hd.refOf (PySem.W.nsIn K mainGlobals "_law_day")), "_law_day", "_law_day", (defArgs s__law_day), (defBody s__law_day), (defScope s__law_day)⟩,
  ⟨fun K => (Hd.refOf (PySem.W.nsIn K mainGlobals "_law_is_so")), "_law_is_so", "_law_is_so", (defArgs s__law_is_so), (defBody s__law_is_so), (defScope s__law_is_so)⟩,
  ⟨fun K => (Hd.refOf (PySem.W.nsIn K mainGlobals "_law_parts")), "_law_parts", "_law_parts", (defArgs s__law_parts), (defBody s__law_parts), (defScope s__law_parts)⟩,
  ⟨fun K => (Hd.refOf (PySem.W.nsIn K mainGlobals "_law_size")), "_law_size", "_law_size", (defArgs s__law_size), (defBody s__law_size), (defScope s__law_size)⟩,
  ⟨fun K => (Hd.refOf (PySem.W.nsIn K mainGlobals "_law_letters")), "_law_letters", "_law_letters", (defArgs s__law_letters), (defBody s__law_letters), (defScope s__law_letters)⟩,
  ⟨fun K => (Hd.refOf (PySem.W.nsIn K mainGlobals "_law_short")), "_law_short", "_law_short", (defArgs s__law_short), (defBody s__law_short), (defScope s__law_short)⟩,
  ⟨fun K => (Hd.refOf (PySem.W.nsIn K mainGlobals "_law_days")), "_law_days", "_law_days", (defArgs s__law_days), (defBody s__law_days), (defScope s__law_days)⟩,
  ⟨fun K => (Hd.refOf (PySem.W.nsIn K mainGlobals "_law_world")), "_law_world", "_law_world", (defArgs s__law_world), (defBody s__law_world), (defScope s__law_world)⟩,
  ⟨fun K => (Hd.refOf (PySem.W.nsIn K mainGlobals "_law_tables")), "_law_tables", "_law_tables", (defArgs s__law_tables), (defBody s__law_tables), (defScope s__law_tables)⟩,
  ⟨fun K => (Hd.refOf (PySem.W.nsIn K mainGlobals "_law_is_integer")), "_law_is_integer", "_law_is_integer", (defArgs s__law_is_integer), (defBody s__law_is_integer), (defScope s__law_is_integer)⟩,
  ⟨fun K => (Hd.refOf (PySem.W.nsIn K mainGlobals "_law_turned")), "_law_turned", "_law_turned", (defArgs s__law_turned), (defBody s__law_turned), (defScope s__law_turned)⟩,
  ⟨fun K => (Hd.refOf (PySem.W.nsIn K mainGlobals "_law_told_right")), "_law_told_right", "_law_told_right", (defArgs s__law_told_right), (defBody s__law_told_right), (defScope s__law_told_right)⟩,
  ⟨fun K => (Hd.refOf (PySem.W.nsIn K mainGlobals "_law_other_tables")), "_law_other_tables", "_law_other_tables", (defArgs s__law_other_tables), (defBody s__law_other_tables), (defScope s__law_other_tables)⟩,
  ⟨fun K => (Hd.refOf (PySem.W.nsIn K mainGlobals "_law_days_right")), "_law_days_right", "_law_days_right", (defArgs s__law_days_right), (defBody s__law_days_right), (defScope s__law_days_right)⟩,
  ⟨fun K => (Hd.refOf (PySem.W.nsIn K mainGlobals "_law_facts_right")), "_law_facts_right", "_law_facts_right", (defArgs s__law_facts_right), (defBody s__law_facts_right), (defScope s__law_facts_right)⟩,
  ⟨fun K => (Hd.refOf (PySem.W.nsIn K mainGlobals "_law_sayings_right")), "_law_sayings_right", "_law_sayings_right", (defArgs s__law_sayings_right), (defBody s__law_sayings_right), (defScope s__law_sayings_right)⟩,
  ⟨fun K => (Hd.refOf (PySem.W.nsIn K mainGlobals "_law_right")), "_law_right", "_law_right", (defArgs s__law_right), (defBody s__law_right), (defScope s__law_right)⟩,
  ⟨fun K => (Hd.refOf (PySem.W.nsIn K mainGlobals "law")), "law", "law", (defArgs s_law), (defBody s_law), (defScope s_law)⟩]
def fn : List Hd.Df := fn0 ++ fn1
def ks0 : List (PySem.W.Frag → Addr) := [
  (fun K => (Hd.refOf (PySem.W.nsIn K mainGlobals "SIZES"))),
  (fun K => (Hd.refOf (PySem.W.nsIn K mainGlobals "SIZES_OF_SAYINGS")))]
def ks : List (PySem.W.Frag → Addr) := ks0
def xs : List (List Str) := [["day", "num", "on", "by", "til", "add", "late", "soon"], ["le", "and", "or", "not"]]
def loose0 : List Str := [
  ("_wall" : Str),
  ("is_day" : Str),
  ("is_count" : Str),
  ("is_rule" : Str),
  ("is_name" : Str),
  ("is_days" : Str),
  ("LeadError" : Str),
  ("InvalidDay" : Str),
  ("InvalidCount" : Str),
  ("InvalidFormula" : Str),
  ("InvalidSaying" : Str),
  ("InvalidDays" : Str),
  ("InvalidWorld" : Str),
  ("InvalidTable" : Str),
  ("MissingError" : Str),
  ("MissingRule" : Str),
  ("MissingName" : Str),
  ("LimitError" : Str),
  ("TooMany" : Str),
  ("MOST_PIECES" : Str)]
def loose1 : List Str := [
  ("need_day" : Str),
  ("need_length" : Str),
  ("need_days" : Str),
  ("is_list" : Str),
  ("parts_of" : Str),
  ("all_pieces" : Str),
  ("names_in" : Str),
  ("rules_in" : Str),
  ("need_few_pieces" : Str),
  ("Table" : Str),
  ("is_table" : Str),
  ("is_world" : Str),
  ("need_world" : Str),
  ("_many_ahead" : Str),
  ("_repeats" : Str),
  ("SIZES" : Str),
  ("is_formula" : Str),
  ("need_formula" : Str),
  ("need_rules" : Str),
  ("need_names" : Str)]
def loose2 : List Str := [
  ("need_known" : Str),
  ("day_of" : Str),
  ("reckoned" : Str),
  ("_is_piece" : Str),
  ("SIZES_OF_SAYINGS" : Str),
  ("is_saying" : Str),
  ("need_saying" : Str),
  ("need_told" : Str),
  ("holds" : Str),
  ("is_so" : Str),
  ("pieces" : Str),
  ("names_of" : Str),
  ("rules_of" : Str),
  ("_is_tuple_of_saying" : Str),
  ("_law_pot" : Str),
  ("_law_draw" : Str),
  ("_law_pick" : Str),
  ("_law_some" : Str),
  ("_law_number" : Str),
  ("_law_formula" : Str)]
def loose3 : List Str := [
  ("_law_saying" : Str),
  ("_law_table" : Str),
  ("_law_on" : Str),
  ("_law_leads" : Str),
  ("_law_by" : Str),
  ("_law_til" : Str),
  ("_law_day" : Str),
  ("_law_is_so" : Str),
  ("_law_parts" : Str),
  ("_law_size" : Str),
  ("_law_letters" : Str),
  ("_law_short" : Str),
  ("_law_days" : Str),
  ("_law_world" : Str),
  ("_law_tables" : Str),
  ("_law_is_integer" : Str),
  ("_law_turned" : Str),
  ("_law_told_right" : Str),
  ("_law_other_tables" : Str),
  ("_law_days_right" : Str)]
def loose4 : List Str := [
  ("_law_facts_right" : Str),
  ("_law_sayings_right" : Str),
  ("_law_right" : Str)]
def loose : List Str := loose0 ++ loose1 ++ loose2 ++ loose3 ++ loose4
def no (_ : PySem.W.Frag) : List Addr := []
abbrev R : PySem.W.OpenRow := PySem.W.OpenLaw.row PySem.Challenge.rw_leadrules_k22_whole_days_of_formulas
abbrev hk : PySem.W.Hook := Hd.hook no 0 fa fn ks xs
def ob (s : PySem.W.SharedT) : Hd.Al := Hd.look no 0 fa fn ks s
theorem ob_eq (s : PySem.W.SharedT) : ob s = hk.obs s.abs := Hd.look_eq no 0 fa fn ks xs s
abbrev Q : Program := PySem.W.view R.prog [90]
abbrev M : Nat := 9000
set_option maxHeartbeats 0 in
theorem run_a_f (w : World) : Hd.RunA R Q M loose (w.withFollow "special-get-raises" false) := by intro os; kernel_rfl
set_option maxHeartbeats 0 in
theorem run_a_t (w : World) : Hd.RunA R Q M loose (w.withFollow "special-get-raises" true) := by intro os; kernel_rfl
set_option maxHeartbeats 0 in
theorem run_b_f (w : World) : Hd.RunB R Q M loose (w.withFollow "special-get-raises" false) := by intro os; kernel_rfl
set_option maxHeartbeats 0 in
theorem run_b_t (w : World) : Hd.RunB R Q M loose (w.withFollow "special-get-raises" true) := by intro os; kernel_rfl
set_option maxHeartbeats 0 in
theorem run_f0_f (w : World) : Hd.RunF R M (w.withFollow "special-get-raises" false) no 0 fg0 := by intro os; kernel_rfl
set_option maxHeartbeats 0 in
theorem run_f0_t (w : World) : Hd.RunF R M (w.withFollow "special-get-raises" true) no 0 fg0 := by intro os; kernel_rfl
set_option maxHeartbeats 0 in
theorem run_n_f (w : World) : Hd.RunN R M (w.withFollow "special-get-raises" false) no 0 fn ks xs := by intro os; kernel_rfl
set_option maxHeartbeats 0 in
theorem run_n_t (w : World) : Hd.RunN R M (w.withFollow "special-get-raises" true) no 0 fn ks xs := by intro os; kernel_rfl
theorem run (w : World) : HandSHeadRun.RunEq R Q hk ob M loose w := Hd.run_join
  (PySem.W.byRow2 "special-get-raises" (P := fun w => Hd.RunA R Q M loose w) run_a_f run_a_t w)
  (PySem.W.byRow2 "special-get-raises" (P := fun w => Hd.RunB R Q M loose w) run_b_f run_b_t w)
  (PySem.W.byRow2 "special-get-raises" (P := fun w => Hd.RunF R M w no 0 fg0) run_f0_f run_f0_t w)
  (PySem.W.byRow2 "special-get-raises" (P := fun w => Hd.RunN R M w no 0 fn ks xs) run_n_f run_n_t w)
end K22.Hh
end
section
set_option maxHeartbeats 2000000
open PySem PySem.W PyProof.Rows L2
set_option maxHeartbeats 0 in
theorem PySem.Challenge.cw_leadrules_k22_whole_days_of_formulas_holds : PySem.Challenge.rw_leadrules_k22_whole_days_of_formulas.Holds := by
  w_on; o_law
  refine HandSHeadRun.head_any (r := PySem.W.OpenLaw.row PySem.Challenge.rw_leadrules_k22_whole_days_of_formulas) (q := PySem.W.view (PySem.W.OpenLaw.row PySem.Challenge.rw_leadrules_k22_whole_days_of_formulas).prog [90]) (H := K22.Hh.hk) (ob := K22.Hh.ob) (M := 9000) (loose := K22.Hh.loose) (d := HandSHeadRun.topDef (PySem.W.OpenLaw.row PySem.Challenge.rw_leadrules_k22_whole_days_of_formulas).prog 90) (kwd := []) K22.Hh.ob_eq
    (by kernel_rfl) (fun s => by kernel_rfl) K22.Hh.run (by kernel_rfl) (by kernel_rfl) (by kernel_rfl) (by rfl) (by first | assumption | decide +kernel) (by decide +kernel) ⟨rfl, rfl, rfl, rfl, rfl, by decide +kernel⟩ ?hw ?hc
  case hw => w_witness2
  case hc =>
    refine Hd.walkE (l := PySem.Challenge.rw_leadrules_k22_whole_days_of_formulas) (n := 63) (k := 32) (x := "_law_script") (CX := CX0) (sp := K22.sp_law) rfl (by decide) (by kernel_rfl) ⟨rfl, by decide, by decide⟩ ?F (fun K H a ns hl hO hS => ⟨a, ns, rfl, hS, hl, fun H2 e => rfl⟩) (fun H s e s' h => h)
    intro w mg fa h Y G0 hmg0
    obtain ⟨K, KX, c⟩ := Y
    have hmg : mg ("law" : Str) = some (.ref fa) := by
      have e : (HandSHeadRun.topDef (PySem.W.OpenLaw.row PySem.Challenge.rw_leadrules_k22_whole_days_of_formulas).prog 90).name = ("law" : Str) := by kernel_rfl
      rw [← e]
      exact hmg0
    obtain ⟨tk_MOST_LENGTH, vMOST_LENGTH⟩ := Hd.isInt_ok (c.fact 8)
    have wMOST_LENGTH := He.eqO_ok (c.fact 9)
    rw [vMOST_LENGTH] at wMOST_LENGTH
    obtain ⟨tq_MOST_LENGTH, xMOST_LENGTH⟩ := Hd.isClsInt_ok (c.fact 12)
    obtain ⟨tk_MOST_PIECES, a_MOST_PIECES⟩ := Hd.isInt_ok (c.fact 17)
    obtain ⟨es_SZ, n_SZ, l_SZ⟩ := Hd.isDict_ok (c.fact 19)
    obtain ⟨tk_SZ_day, v_SZ_day⟩ := Hd.isInt_ok (c.fact 21)
    obtain ⟨tk_SZ_num, v_SZ_num⟩ := Hd.isInt_ok (c.fact 22)
    obtain ⟨tk_SZ_on, v_SZ_on⟩ := Hd.isInt_ok (c.fact 23)
    obtain ⟨tk_SZ_by, v_SZ_by⟩ := Hd.isInt_ok (c.fact 24)
    obtain ⟨tk_SZ_til, v_SZ_til⟩ := Hd.isInt_ok (c.fact 25)
    obtain ⟨tk_SZ_add, v_SZ_add⟩ := Hd.isInt_ok (c.fact 26)
    obtain ⟨tk_SZ_late, v_SZ_late⟩ := Hd.isInt_ok (c.fact 27)
    obtain ⟨tk_SZ_soon, v_SZ_soon⟩ := Hd.isInt_ok (c.fact 28)
    obtain ⟨es_SY, n_SY, l_SY⟩ := Hd.isDict_ok (c.fact 34)
    obtain ⟨tk_SY_le, v_SY_le⟩ := Hd.isInt_ok (c.fact 36)
    obtain ⟨tk_SY_and, v_SY_and⟩ := Hd.isInt_ok (c.fact 37)
    obtain ⟨tk_SY_or, v_SY_or⟩ := Hd.isInt_ok (c.fact 38)
    obtain ⟨tk_SY_not, v_SY_not⟩ := Hd.isInt_ok (c.fact 39)
    obtain ⟨oc_is_day, od_is_day, sl_is_day, kV_is_day, dc_is_day, pm_is_day, an_is_day, cd_is_day, ct_is_day, l_is_day, c_is_day⟩ := c.def_ 0
    obtain ⟨oc_is_count, od_is_count, sl_is_count, kV_is_count, dc_is_count, pm_is_count, an_is_count, cd_is_count, ct_is_count, l_is_count, c_is_count⟩ := c.def_ 1
    obtain ⟨oc_is_rule, od_is_rule, sl_is_rule, kV_is_rule, dc_is_rule, pm_is_rule, an_is_rule, cd_is_rule, ct_is_rule, l_is_rule, c_is_rule⟩ := c.def_ 2
    obtain ⟨oc_is_name, od_is_name, sl_is_name, kV_is_name, dc_is_name, pm_is_name, an_is_name, cd_is_name, ct_is_name, l_is_name, c_is_name⟩ := c.def_ 3
    obtain ⟨oc_is_days, od_is_days, sl_is_days, kV_is_days, dc_is_days, pm_is_days, an_is_days, cd_is_days, ct_is_days, l_is_days, c_is_days⟩ := c.def_ 4
    obtain ⟨oc_need_day, od_need_day, sl_need_day, kV_need_day, dc_need_day, pm_need_day, an_need_day, cd_need_day, ct_need_day, l_need_day, c_need_day⟩ := c.def_ 5
    obtain ⟨oc_need_length, od_need_length, sl_need_length, kV_need_length, dc_need_length, pm_need_length, an_need_length, cd_need_length, ct_need_length, l_need_length, c_need_length⟩ := c.def_ 6
    obtain ⟨oc_need_days, od_need_days, sl_need_days, kV_need_days, dc_need_days, pm_need_days, an_need_days, cd_need_days, ct_need_days, l_need_days, c_need_days⟩ := c.def_ 7
    obtain ⟨oc_is_list, od_is_list, sl_is_list, kV_is_list, dc_is_list, pm_is_list, an_is_list, cd_is_list, ct_is_list, l_is_list, c_is_list⟩ := c.def_ 8
    obtain ⟨oc_parts_of, od_parts_of, sl_parts_of, kV_parts_of, dc_parts_of, pm_parts_of, an_parts_of, cd_parts_of, ct_parts_of, l_parts_of, c_parts_of⟩ := c.def_ 9
    obtain ⟨oc_all_pieces, od_all_pieces, sl_all_pieces, kV_all_pieces, dc_all_pieces, pm_all_pieces, an_all_pieces, cd_all_pieces, ct_all_pieces, l_all_pieces, c_all_pieces⟩ := c.def_ 10
    obtain ⟨oc_names_in, od_names_in, sl_names_in, kV_names_in, dc_names_in, pm_names_in, an_names_in, cd_names_in, ct_names_in, l_names_in, c_names_in⟩ := c.def_ 11
    obtain ⟨oc_rules_in, od_rules_in, sl_rules_in, kV_rules_in, dc_rules_in, pm_rules_in, an_rules_in, cd_rules_in, ct_rules_in, l_rules_in, c_rules_in⟩ := c.def_ 12
    obtain ⟨oc_need_few_pieces, od_need_few_pieces, sl_need_few_pieces, kV_need_few_pieces, dc_need_few_pieces, pm_need_few_pieces, an_need_few_pieces, cd_need_few_pieces, ct_need_few_pieces, l_need_few_pieces, c_need_few_pieces⟩ := c.def_ 13
    obtain ⟨oc_Table___init__, od_Table___init__, sl_Table___init__, kV_Table___init__, dc_Table___init__, pm_Table___init__, an_Table___init__, cd_Table___init__, ct_Table___init__, l_Table___init__, c_Table___init__⟩ := c.def_ 14
    obtain ⟨rs_Table_length, r_Table_length⟩ := Hd.isRec_ok (c.fact 74)
    obtain ⟨oc_Table_length, od_Table_length, sl_Table_length, kV_Table_length, dc_Table_length, pm_Table_length, an_Table_length, cd_Table_length, ct_Table_length, l_Table_length, c_Table_length⟩ := c.def_ 15
    obtain ⟨oc_Table_asked_rows, od_Table_asked_rows, sl_Table_asked_rows, kV_Table_asked_rows, dc_Table_asked_rows, pm_Table_asked_rows, an_Table_asked_rows, cd_Table_asked_rows, ct_Table_asked_rows, l_Table_asked_rows, c_Table_asked_rows⟩ := c.def_ 16
    obtain ⟨oc_Table_on, od_Table_on, sl_Table_on, kV_Table_on, dc_Table_on, pm_Table_on, an_Table_on, cd_Table_on, ct_Table_on, l_Table_on, c_Table_on⟩ := c.def_ 17
    obtain ⟨oc_Table_by, od_Table_by, sl_Table_by, kV_Table_by, dc_Table_by, pm_Table_by, an_Table_by, cd_Table_by, ct_Table_by, l_Table_by, c_Table_by⟩ := c.def_ 18
    obtain ⟨oc_Table_til, od_Table_til, sl_Table_til, kV_Table_til, dc_Table_til, pm_Table_til, an_Table_til, cd_Table_til, ct_Table_til, l_Table_til, c_Table_til⟩ := c.def_ 19
    obtain ⟨oc_Table_stretched, od_Table_stretched, sl_Table_stretched, kV_Table_stretched, dc_Table_stretched, pm_Table_stretched, an_Table_stretched, cd_Table_stretched, ct_Table_stretched, l_Table_stretched, c_Table_stretched⟩ := c.def_ 20
    obtain ⟨oc_Table_shortest, od_Table_shortest, sl_Table_shortest, kV_Table_shortest, dc_Table_shortest, pm_Table_shortest, an_Table_shortest, cd_Table_shortest, ct_Table_shortest, l_Table_shortest, c_Table_shortest⟩ := c.def_ 21
    obtain ⟨oc_is_table, od_is_table, sl_is_table, kV_is_table, dc_is_table, pm_is_table, an_is_table, cd_is_table, ct_is_table, l_is_table, c_is_table⟩ := c.def_ 22
    obtain ⟨oc_is_world, od_is_world, sl_is_world, kV_is_world, dc_is_world, pm_is_world, an_is_world, cd_is_world, ct_is_world, l_is_world, c_is_world⟩ := c.def_ 23
    obtain ⟨oc_need_world, od_need_world, sl_need_world, kV_need_world, dc_need_world, pm_need_world, an_need_world, cd_need_world, ct_need_world, l_need_world, c_need_world⟩ := c.def_ 24
    obtain ⟨oc__many_ahead, od__many_ahead, sl__many_ahead, kV__many_ahead, dc__many_ahead, pm__many_ahead, an__many_ahead, cd__many_ahead, ct__many_ahead, l__many_ahead, c__many_ahead⟩ := c.def_ 25
    obtain ⟨oc__repeats, od__repeats, sl__repeats, kV__repeats, dc__repeats, pm__repeats, an__repeats, cd__repeats, ct__repeats, l__repeats, c__repeats⟩ := c.def_ 26
    obtain ⟨oc_is_formula, od_is_formula, sl_is_formula, kV_is_formula, dc_is_formula, pm_is_formula, an_is_formula, cd_is_formula, ct_is_formula, l_is_formula, c_is_formula⟩ := c.def_ 27
    obtain ⟨oc_need_formula, od_need_formula, sl_need_formula, kV_need_formula, dc_need_formula, pm_need_formula, an_need_formula, cd_need_formula, ct_need_formula, l_need_formula, c_need_formula⟩ := c.def_ 28
    obtain ⟨oc_need_rules, od_need_rules, sl_need_rules, kV_need_rules, dc_need_rules, pm_need_rules, an_need_rules, cd_need_rules, ct_need_rules, l_need_rules, c_need_rules⟩ := c.def_ 29
    obtain ⟨oc_need_names, od_need_names, sl_need_names, kV_need_names, dc_need_names, pm_need_names, an_need_names, cd_need_names, ct_need_names, l_need_names, c_need_names⟩ := c.def_ 30
    obtain ⟨oc_need_known, od_need_known, sl_need_known, kV_need_known, dc_need_known, pm_need_known, an_need_known, cd_need_known, ct_need_known, l_need_known, c_need_known⟩ := c.def_ 31
    obtain ⟨oc_day_of, od_day_of, sl_day_of, kV_day_of, dc_day_of, pm_day_of, an_day_of, cd_day_of, ct_day_of, l_day_of, c_day_of⟩ := c.def_ 32
    obtain ⟨oc_reckoned, od_reckoned, sl_reckoned, kV_reckoned, dc_reckoned, pm_reckoned, an_reckoned, cd_reckoned, ct_reckoned, l_reckoned, c_reckoned⟩ := c.def_ 33
    obtain ⟨oc__is_piece, od__is_piece, sl__is_piece, kV__is_piece, dc__is_piece, pm__is_piece, an__is_piece, cd__is_piece, ct__is_piece, l__is_piece, c__is_piece⟩ := c.def_ 34
    obtain ⟨oc_is_saying, od_is_saying, sl_is_saying, kV_is_saying, dc_is_saying, pm_is_saying, an_is_saying, cd_is_saying, ct_is_saying, l_is_saying, c_is_saying⟩ := c.def_ 35
    obtain ⟨oc_need_saying, od_need_saying, sl_need_saying, kV_need_saying, dc_need_saying, pm_need_saying, an_need_saying, cd_need_saying, ct_need_saying, l_need_saying, c_need_saying⟩ := c.def_ 36
    obtain ⟨oc_need_told, od_need_told, sl_need_told, kV_need_told, dc_need_told, pm_need_told, an_need_told, cd_need_told, ct_need_told, l_need_told, c_need_told⟩ := c.def_ 37
    obtain ⟨oc_holds, od_holds, sl_holds, kV_holds, dc_holds, pm_holds, an_holds, cd_holds, ct_holds, l_holds, c_holds⟩ := c.def_ 38
    obtain ⟨oc_is_so, od_is_so, sl_is_so, kV_is_so, dc_is_so, pm_is_so, an_is_so, cd_is_so, ct_is_so, l_is_so, c_is_so⟩ := c.def_ 39
    obtain ⟨oc_pieces, od_pieces, sl_pieces, kV_pieces, dc_pieces, pm_pieces, an_pieces, cd_pieces, ct_pieces, l_pieces, c_pieces⟩ := c.def_ 40
    obtain ⟨oc_names_of, od_names_of, sl_names_of, kV_names_of, dc_names_of, pm_names_of, an_names_of, cd_names_of, ct_names_of, l_names_of, c_names_of⟩ := c.def_ 41
    obtain ⟨oc_rules_of, od_rules_of, sl_rules_of, kV_rules_of, dc_rules_of, pm_rules_of, an_rules_of, cd_rules_of, ct_rules_of, l_rules_of, c_rules_of⟩ := c.def_ 42
    obtain ⟨oc__is_tuple_of_saying, od__is_tuple_of_saying, sl__is_tuple_of_saying, kV__is_tuple_of_saying, dc__is_tuple_of_saying, pm__is_tuple_of_saying, an__is_tuple_of_saying, cd__is_tuple_of_saying, ct__is_tuple_of_saying, l__is_tuple_of_saying, c__is_tuple_of_saying⟩ := c.def_ 43
    obtain ⟨oc__law_pot, od__law_pot, sl__law_pot, kV__law_pot, dc__law_pot, pm__law_pot, an__law_pot, cd__law_pot, ct__law_pot, l__law_pot, c__law_pot⟩ := c.def_ 44
    obtain ⟨oc__law_draw, od__law_draw, sl__law_draw, kV__law_draw, dc__law_draw, pm__law_draw, an__law_draw, cd__law_draw, ct__law_draw, l__law_draw, c__law_draw⟩ := c.def_ 45
    obtain ⟨oc__law_pick, od__law_pick, sl__law_pick, kV__law_pick, dc__law_pick, pm__law_pick, an__law_pick, cd__law_pick, ct__law_pick, l__law_pick, c__law_pick⟩ := c.def_ 46
    obtain ⟨oc__law_some, od__law_some, sl__law_some, kV__law_some, dc__law_some, pm__law_some, an__law_some, cd__law_some, ct__law_some, l__law_some, c__law_some⟩ := c.def_ 47
    obtain ⟨oc__law_number, od__law_number, sl__law_number, kV__law_number, dc__law_number, pm__law_number, an__law_number, cd__law_number, ct__law_number, l__law_number, c__law_number⟩ := c.def_ 48
    obtain ⟨oc__law_formula, od__law_formula, sl__law_formula, kV__law_formula, dc__law_formula, pm__law_formula, an__law_formula, cd__law_formula, ct__law_formula, l__law_formula, c__law_formula⟩ := c.def_ 49
    obtain ⟨oc__law_saying, od__law_saying, sl__law_saying, kV__law_saying, dc__law_saying, pm__law_saying, an__law_saying, cd__law_saying, ct__law_saying, l__law_saying, c__law_saying⟩ := c.def_ 50
    obtain ⟨oc__law_table, od__law_table, sl__law_table, kV__law_table, dc__law_table, pm__law_table, an__law_table, cd__law_table, ct__law_table, l__law_table, c__law_table⟩ := c.def_ 51
    obtain ⟨oc__law_on, od__law_on, sl__law_on, kV__law_on, dc__law_on, pm__law_on, an__law_on, cd__law_on, ct__law_on, l__law_on, c__law_on⟩ := c.def_ 52
    obtain ⟨oc__law_leads, od__law_leads, sl__law_leads, kV__law_leads, dc__law_leads, pm__law_leads, an__law_leads, cd__law_leads, ct__law_leads, l__law_leads, c__law_leads⟩ := c.def_ 53
    obtain ⟨oc__law_by, od__law_by, sl__law_by, kV__law_by, dc__law_by, pm__law_by, an__law_by, cd__law_by, ct__law_by, l__law_by, c__law_by⟩ := c.def_ 54
    obtain ⟨oc__law_til, od__law_til, sl__law_til, kV__law_til, dc__law_til, pm__law_til, an__law_til, cd__law_til, ct__law_til, l__law_til, c__law_til⟩ := c.def_ 55
    obtain ⟨oc__law_day, od__law_day, sl__law_day, kV__law_day, dc__law_day, pm__law_day, an__law_day, cd__law_day, ct__law_day, l__law_day, c__law_day⟩ := c.def_ 56
    obtain ⟨oc__law_is_so, od__law_is_so, sl__law_is_so, kV__law_is_so, dc__law_is_so, pm__law_is_so, an__law_is_so, cd__law_is_so, ct__law_is_so, l__law_is_so, c__law_is_so⟩ := c.def_ 57
    obtain ⟨oc__law_parts, od__law_parts, sl__law_parts, kV__law_parts, dc__law_parts, pm__law_parts, an__law_parts, cd__law_parts, ct__law_parts, l__law_parts, c__law_parts⟩ := c.def_ 58
    obtain ⟨oc__law_size, od__law_size, sl__law_size, kV__law_size, dc__law_size, pm__law_size, an__law_size, cd__law_size, ct__law_size, l__law_size, c__law_size⟩ := c.def_ 59
    obtain ⟨oc__law_letters, od__law_letters, sl__law_letters, kV__law_letters, dc__law_letters, pm__law_letters, an__law_letters, cd__law_letters, ct__law_letters, l__law_letters, c__law_letters⟩ := c.def_ 60
    obtain ⟨oc__law_short, od__law_short, sl__law_short, kV__law_short, dc__law_short, pm__law_short, an__law_short, cd__law_short, ct__law_short, l__law_short, c__law_short⟩ := c.def_ 61
    obtain ⟨oc__law_days, od__law_days, sl__law_days, kV__law_days, dc__law_days, pm__law_days, an__law_days, cd__law_days, ct__law_days, l__law_days, c__law_days⟩ := c.def_ 62
    obtain ⟨oc__law_world, od__law_world, sl__law_world, kV__law_world, dc__law_world, pm__law_world, an__law_world, cd__law_world, ct__law_world, l__law_world, c__law_world⟩ := c.def_ 63
    obtain ⟨oc__law_tables, od__law_tables, sl__law_tables, kV__law_tables, dc__law_tables, pm__law_tables, an__law_tables, cd__law_tables, ct__law_tables, l__law_tables, c__law_tables⟩ := c.def_ 64
    obtain ⟨oc__law_is_integer, od__law_is_integer, sl__law_is_integer, kV__law_is_integer, dc__law_is_integer, pm__law_is_integer, an__law_is_integer, cd__law_is_integer, ct__law_is_integer, l__law_is_integer, c__law_is_integer⟩ := c.def_ 65
    obtain ⟨oc__law_turned, od__law_turned, sl__law_turned, kV__law_turned, dc__law_turned, pm__law_turned, an__law_turned, cd__law_turned, ct__law_turned, l__law_turned, c__law_turned⟩ := c.def_ 66
    obtain ⟨oc__law_told_right, od__law_told_right, sl__law_told_right, kV__law_told_right, dc__law_told_right, pm__law_told_right, an__law_told_right, cd__law_told_right, ct__law_told_right, l__law_told_right, c__law_told_right⟩ := c.def_ 67
    obtain ⟨oc__law_other_tables, od__law_other_tables, sl__law_other_tables, kV__law_other_tables, dc__law_other_tables, pm__law_other_tables, an__law_other_tables, cd__law_other_tables, ct__law_other_tables, l__law_other_tables, c__law_other_tables⟩ := c.def_ 68
    obtain ⟨oc__law_days_right, od__law_days_right, sl__law_days_right, kV__law_days_right, dc__law_days_right, pm__law_days_right, an__law_days_right, cd__law_days_right, ct__law_days_right, l__law_days_right, c__law_days_right⟩ := c.def_ 69
    obtain ⟨oc__law_facts_right, od__law_facts_right, sl__law_facts_right, kV__law_facts_right, dc__law_facts_right, pm__law_facts_right, an__law_facts_right, cd__law_facts_right, ct__law_facts_right, l__law_facts_right, c__law_facts_right⟩ := c.def_ 70
    obtain ⟨oc__law_sayings_right, od__law_sayings_right, sl__law_sayings_right, kV__law_sayings_right, dc__law_sayings_right, pm__law_sayings_right, an__law_sayings_right, cd__law_sayings_right, ct__law_sayings_right, l__law_sayings_right, c__law_sayings_right⟩ := c.def_ 71
    obtain ⟨oc__law_right, od__law_right, sl__law_right, kV__law_right, dc__law_right, pm__law_right, an__law_right, cd__law_right, ct__law_right, l__law_right, c__law_right⟩ := c.def_ 72
    obtain ⟨oc_law, od_law, sl_law, kV_law, dc_law, pm_law, an_law, cd_law, ct_law, l_law, c_law⟩ := c.def_ 73
    obtain ⟨fd, hb, hF⟩ := K22.all_mk KX G0 hmg (Hd.isRef_ok (c.fact 0)) (c.fact 1) (c.fact 2) (c.fact 3) (He.eqO_ok (c.fact 4)) (c.fact 5) (c.fact 6) (He.eqO_ok (c.fact 7)) vMOST_LENGTH wMOST_LENGTH (c.fact 10) (He.eqO_ok (c.fact 11)) xMOST_LENGTH (of_decide_eq_true (c.fact 13)) (He.eqO_ok (c.fact 14)) (He.eqO_ok (c.fact 15)) (of_decide_eq_true (c.fact 16)) a_MOST_PIECES (Hd.isRef_ok (c.fact 18)) l_SZ (c.keys 0 l_SZ) (Hd.isnt (c.fact 20)) v_SZ_day v_SZ_num v_SZ_on v_SZ_by v_SZ_til v_SZ_add v_SZ_late v_SZ_soon (He.eqO_ok (c.fact 29)) (He.eqO_ok (c.fact 30)) (He.eqO_ok (c.fact 31)) (He.eqO_ok (c.fact 32)) (Hd.isRef_ok (c.fact 33)) l_SY (c.keys 1 l_SY) (Hd.isnt (c.fact 35)) v_SY_le v_SY_and v_SY_or v_SY_not (Hd.isRef_ok (c.fact 40)) l_is_day c_is_day (c.fact 41) (Hd.isRef_ok (c.fact 42)) l_is_count c_is_count (c.fact 43) (Hd.isRef_ok (c.fact 44)) l_is_rule c_is_rule (c.fact 45) (Hd.isRef_ok (c.fact 46)) l_is_name c_is_name (c.fact 47) (Hd.isRef_ok (c.fact 48)) l_is_days c_is_days (c.fact 49) (Hd.isRef_ok (c.fact 50)) l_need_day c_need_day (c.fact 51) (Hd.isRef_ok (c.fact 52)) l_need_length c_need_length (c.fact 53) (Hd.isRef_ok (c.fact 54)) l_need_days c_need_days (c.fact 55) (Hd.isRef_ok (c.fact 56)) l_is_list c_is_list (c.fact 57) (Hd.isRef_ok (c.fact 58)) l_parts_of c_parts_of (c.fact 59) (Hd.isRef_ok (c.fact 60)) l_all_pieces c_all_pieces (c.fact 61) (Hd.isRef_ok (c.fact 62)) l_names_in c_names_in (c.fact 63) (Hd.isRef_ok (c.fact 64)) l_rules_in c_rules_in (c.fact 65) (Hd.isRef_ok (c.fact 66)) l_need_few_pieces c_need_few_pieces (c.fact 67) (Hd.isRef_ok (c.fact 68)) (c.fact 69) l_Table___init__ c_Table___init__ (c.fact 70) (Hd.isRef_ok (c.fact 71)) (He.eqO_ok (c.fact 72)) (of_decide_eq_true (c.fact 73)) r_Table_length l_Table_length c_Table_length (c.fact 75) (Hd.isRef_ok (c.fact 76)) (c.fact 77) l_Table_asked_rows c_Table_asked_rows (c.fact 78) (Hd.isRef_ok (c.fact 79)) (c.fact 80) l_Table_on c_Table_on (c.fact 81) (Hd.isRef_ok (c.fact 82)) (c.fact 83) l_Table_by c_Table_by (c.fact 84) (Hd.isRef_ok (c.fact 85)) (c.fact 86) l_Table_til c_Table_til (c.fact 87) (Hd.isRef_ok (c.fact 88)) (c.fact 89) l_Table_stretched c_Table_stretched (c.fact 90) (Hd.isRef_ok (c.fact 91)) (c.fact 92) l_Table_shortest c_Table_shortest (c.fact 93) (Hd.isRef_ok (c.fact 94)) l_is_table c_is_table (c.fact 95) (Hd.isRef_ok (c.fact 96)) l_is_world c_is_world (c.fact 97) (Hd.isRef_ok (c.fact 98)) l_need_world c_need_world (c.fact 99) (Hd.isRef_ok (c.fact 100)) l__many_ahead c__many_ahead (c.fact 101) (Hd.isRef_ok (c.fact 102)) l__repeats c__repeats (c.fact 103) (Hd.isRef_ok (c.fact 104)) l_is_formula c_is_formula (c.fact 105) (Hd.isRef_ok (c.fact 106)) l_need_formula c_need_formula (c.fact 107) (Hd.isRef_ok (c.fact 108)) l_need_rules c_need_rules (c.fact 109) (Hd.isRef_ok (c.fact 110)) l_need_names c_need_names (c.fact 111) (Hd.isRef_ok (c.fact 112)) l_need_known c_need_known (c.fact 113) (Hd.isRef_ok (c.fact 114)) l_day_of c_day_of (c.fact 115) (Hd.isRef_ok (c.fact 116)) l_reckoned c_reckoned (c.fact 117) (Hd.isRef_ok (c.fact 118)) l__is_piece c__is_piece (c.fact 119) (Hd.isRef_ok (c.fact 120)) l_is_saying c_is_saying (c.fact 121) (Hd.isRef_ok (c.fact 122)) l_need_saying c_need_saying (c.fact 123) (Hd.isRef_ok (c.fact 124)) l_need_told c_need_told (c.fact 125) (Hd.isRef_ok (c.fact 126)) l_holds c_holds (c.fact 127) (Hd.isRef_ok (c.fact 128)) l_is_so c_is_so (c.fact 129) (Hd.isRef_ok (c.fact 130)) l_pieces c_pieces (c.fact 131) (Hd.isRef_ok (c.fact 132)) l_names_of c_names_of (c.fact 133) (Hd.isRef_ok (c.fact 134)) l_rules_of c_rules_of (c.fact 135) (Hd.isRef_ok (c.fact 136)) l__is_tuple_of_saying c__is_tuple_of_saying (c.fact 137) (Hd.isRef_ok (c.fact 138)) l__law_pot c__law_pot (c.fact 139) (Hd.isRef_ok (c.fact 140)) l__law_draw c__law_draw (c.fact 141) (Hd.isRef_ok (c.fact 142)) l__law_pick c__law_pick (c.fact 143) (Hd.isRef_ok (c.fact 144)) l__law_some c__law_some (c.fact 145) (Hd.isRef_ok (c.fact 146)) l__law_number c__law_number (c.fact 147) (Hd.isRef_ok (c.fact 148)) l__law_formula c__law_formula (c.fact 149) (Hd.isRef_ok (c.fact 150)) l__law_saying c__law_saying (c.fact 151) (Hd.isRef_ok (c.fact 152)) l__law_table c__law_table (c.fact 153) (Hd.isRef_ok (c.fact 154)) l__law_on c__law_on (c.fact 155) (Hd.isRef_ok (c.fact 156)) l__law_leads c__law_leads (c.fact 157) (Hd.isRef_ok (c.fact 158)) l__law_by c__law_by (c.fact 159) (Hd.isRef_ok (c.fact 160)) l__law_til c__law_til (c.fact 161) (Hd.isRef_ok (c.fact 162)) l__law_day c__law_day (c.fact 163) (Hd.isRef_ok (c.fact 164)) l__law_is_so c__law_is_so (c.fact 165) (Hd.isRef_ok (c.fact 166)) l__law_parts c__law_parts (c.fact 167) (Hd.isRef_ok (c.fact 168)) l__law_size c__law_size (c.fact 169) (Hd.isRef_ok (c.fact 170)) l__law_letters c__law_letters (c.fact 171) (Hd.isRef_ok (c.fact 172)) l__law_short c__law_short (c.fact 173) (Hd.isRef_ok (c.fact 174)) l__law_days c__law_days (c.fact 175) (Hd.isRef_ok (c.fact 176)) l__law_world c__law_world (c.fact 177) (Hd.isRef_ok (c.fact 178)) l__law_tables c__law_tables (c.fact 179) (Hd.isRef_ok (c.fact 180)) l__law_is_integer c__law_is_integer (c.fact 181) (Hd.isRef_ok (c.fact 182)) l__law_turned c__law_turned (c.fact 183) (Hd.isRef_ok (c.fact 184)) l__law_told_right c__law_told_right (c.fact 185) (Hd.isRef_ok (c.fact 186)) l__law_other_tables c__law_other_tables (c.fact 187) (Hd.isRef_ok (c.fact 188)) l__law_days_right c__law_days_right (c.fact 189) (Hd.isRef_ok (c.fact 190)) l__law_facts_right c__law_facts_right (c.fact 191) (Hd.isRef_ok (c.fact 192)) l__law_sayings_right c__law_sayings_right (c.fact 193) (Hd.isRef_ok (c.fact 194)) l__law_right c__law_right (c.fact 195) (Hd.isRef_ok (c.fact 196)) l_law c_law (c.fact 197) (He.eqO_ok (c.fact 198)) (He.eqO_ok (c.fact 199)) (He.eqO_ok (c.fact 200)) (He.eqO_ok (c.fact 201)) (He.eqO_ok (c.fact 202)) (He.eqO_ok (c.fact 203)) (He.eqO_ok (c.fact 204)) (He.eqO_ok (c.fact 205)) (He.eqO_ok (c.fact 206)) (He.eqO_ok (c.fact 207)) (He.eqO_ok (c.fact 208)) (He.eqO_ok (c.fact 209)) (He.eqO_ok (c.fact 210)) (He.eqO_ok (c.fact 211)) (He.eqO_ok (c.fact 212)) (He.eqO_ok (c.fact 213)) (He.eqO_ok (c.fact 214)) (He.eqO_ok (c.fact 215)) (He.eqO_ok (c.fact 216))
    exact ⟨K, fd, KX, hb, hF⟩
end
