import PyProof.Rows.All
import Wide.All
import OpenK.AllK
import Wide.FinOn
import HandS.ForMost
import HandS.Evl
import HandS.Property
import HandS.Star
import HandS.ClsMeth
import HandS.Defaults
import HandS.MakeKwOnly
import HandS.FStr
import HandS.Conv
import HandS.Gcd
import HandS.IsInst
import HandS.Wide
import PyProof.ReprRoads
import PyProof.ListNew
import PyProof.ListRange
import HandS.Style
import HandS.OwnEq
import HandS.More
import KE.KMathGC
import HandS.Exc
import HandS.ExcInit
import HandS.ExcField
import HandS.Sort
import HandS.ExcOwn
import HandS.WordsExc
import HandS.TupAny
import HandS.Lambda
import KE.KRevSl
import HandS.TupSets
import HandS.SetTxt0
import KE.KDictCopyH
import KE.SortData
import HandS.Iter
import HandS.Walk
import KE.LtSeq
import KE.LtData
import PyProof.FactsAll.list
import KE.GoesComp
import KE.GoesMore
import PyProof.RulesMatch
import KE.SortKeyHeap
import KE.KDictSum
import HandS.SortKw
import KE.SortCalls
import HandS.Ends
import HandS.Head0
import HandS.Head1
import HandS.Head2
import HandS.HeadHook1
import HandS.HeadHook2
import HandS.Head3
import HandS.EndTab
import KE.KNest
import PyProof.ListStr
import HandS.Deep
import HandS.DictComp
import KE.DataMinMax
import PySem.Challenge.RW_leadrules_k32_chains_of_promises
set_option Elab.async false
set_option linter.all false
set_option maxRecDepth 100000
section
set_option maxHeartbeats 2000000
namespace G
open PySem PySem.Spec PyProof.Rows L2

/-! ### a def's promise where no repr is running around it -/
structure FnG (P : Program) (w : World) (K : PySem.W.Frag) (mg : Str → Option Value) (base : Heap) (CX : CXT) (k : Nat) (f : Addr) (fd : FuncData) (ps : List Str) (sp : Sp) : Prop where
  len : ∀ vs H Q E, sp vs H Q E → vs.length = ps.length
  run : ∀ (A : Around) (outer : List Env) (s : Shared) (H : Hp) (args : Args) (us : List Value) (vs : List V) (Q : VK) (E : XK), A.guards = some [] → Room k A → Env0 P w K mg base A outer s H → BindsTo s fd args (ps.zip us) → Vals vs us → sp vs H Q E →
    codeAny (model P w) A (.call (.ref f) args) (CR CX outer P w H s Q E) s
theorem FnG.of {P : Program} {w : World} {K : PySem.W.Frag} {mg : Str → Option Value} {base : Heap} {CX : CXT} {k : Nat} {f : Addr} {fd : FuncData} {ps : List Str} {sp : Sp} (F : FnOk P w K mg base CX k f fd ps sp) : FnG P w K mg base CX k f fd ps sp :=
  ⟨F.len, fun A outer s H args us vs Q E _ => F.run A outer s H args us vs Q E⟩

theorem fnG_of {CX : CXT} {P : Program} {w : World} {K : PySem.W.Frag} {mg : Str → Option Value} {base : Heap} {k : Nat} {f : Addr} {name qual : Str} {params : Arguments} {body : List Stmt} {scope : Scope} {dV kV doc pm cdv ct oc : Value} {an od : Option Addr}
    {osl : Array (Option Value)} {N ps : List Str} {sp : Sp} (lk : K.lookup f = some ⟨oc, od, .func (PySem.W.fnOf name qual params body scope dV kV doc pm an cdv ct), osl⟩) (hcd : PySem.W.codeIn K cdv qual = true) (S : FnScope N ps scope)
    (len : ∀ vs H Q E, sp vs H Q E → vs.length = ps.length)
    (hbody : ∀ (A : Around) (outer : List Env) (s : Shared) (H : Hp) (vs : List V) (Q : VK) (E : XK), A.guards = some [] → Room k (A.deeper (envOfC qual scope s.heap.objs.size f cdv)) → sp vs H Q E →
      ∃ t, PSs (cxOf CX P w K mg base N qual scope f cdv A outer s H E) body t ∧ t { nx := fun _ H' => Q .non H', rt := Q } (start N vs) H) :
    FnG P w K mg base CX (k + 1) f (PySem.W.fnOf name qual params body scope dV kV doc pm an cdv ct) ps sp := by
  refine ⟨len, fun A outer s H args us vs Q E hgd hr e0 hb r hsp => ?_⟩
  have hl := len _ _ _ _ hsp
  have KX : K.In s.heap := e0.mod.kin.keeps fun b o e => (e0.bs b o e).1
  have lim : s.heap.NoLimit := e0.mod.nolimit.keeps fun b o e => (e0.bs b o e).1
  have hkind : ∀ y ∈ ps.zip us, scope.names.lookup y.1 = some .local ∨ (scope.names.lookup y.1 = some .cell ∧ ((cellsFrom (s.heap.objs.size + 1) scope.names []).lookup y.1).isSome = true) := fun ⟨n, v⟩ hy => by
    rcases S.par n (List.of_mem_zip hy).1 with q | q
    · exact .inl q
    · exact .inr ⟨q, PySem.W.cellsFrom_some _ _ _ (.inl q)⟩
  refine codeAny_call_function hr.depth (KX _ _ lk) rfl S.co S.gen rfl (PySem.W.codeRec_of KX hcd) (hb _ _ _ _ ?_)
  refine wpAny_newFunctionEnv_cells S.kind hkind fun env he s1 x => ?_
  subst he
  refine ⟨lim.keeps x.toInCall.keep, codeAny_func ?_⟩
  obtain ⟨t, ht, hq⟩ := hbody A outer s H vs Q E hgd (hr.deeper _) hsp
  have I : Inv (cxOf CX P w K mg base N qual scope f cdv A outer s H E) [] (start N vs) H s1 := inv_start S hr.hd e0 hl r x
  refine wpAny_mono (ht.run [] s1 (start N vs) H _ I hq) (fun fl s' hs => ?_) fun e s' hs => hs
  have fin : ∀ {σ' : L2.St} {H' : Hp} {v : V} {u : Value}, Inv (cxOf CX P w K mg base N qual scope f cdv A outer s H E) [] σ' H' s' → RelV v u → Q v H' → CE outer P w H s Q u s' :=
    fun {σ' H' v u} J rv q => ⟨v, H', J.os, J.bare, J.base, J.hok, rv, q⟩
  cases fl with
  | ret u =>
    obtain ⟨v, σ', H', J, rv, q⟩ := hs
    exact fin J rv q
  | next =>
    obtain ⟨σ', H', J, q⟩ := hs
    exact fin (v := V.non) (u := Value.none) J rfl q
  | brk =>
    obtain ⟨_, _, _, q⟩ := hs
    exact False.elim q
  | cont =>
    obtain ⟨_, _, _, q⟩ := hs
    exact False.elim q

theorem okG {P : Program} {w : World} {K : PySem.W.Frag} {mg : Str → Option Value} {base : Heap} {x qual : Str} {st : Stmt} {f : Addr} {fd : FuncData} {N ps : List Str} {k : Nat} {sp : Sp} (F : Fun K x qual st f fd) (S : FnScope N ps (defScope st)) (len : ∀ vs H Q E, sp vs H Q E → vs.length = ps.length)
    (hbody : ∀ (cdv : Value) (A : Around) (outer : List Env) (s : Shared) (H : Hp) (vs : List V) (Q : VK) (E : XK), A.guards = some [] → Room k (A.deeper (envOfC qual (defScope st) s.heap.objs.size f cdv)) → sp vs H Q E →
      ∃ t, PSs (cxOf CX0 P w K mg base N qual (defScope st) f cdv A outer s H E).nox (defBody st) t ∧ t { nx := fun _ H' => Q .non H', rt := Q } (start N vs) H) : FnG P w K mg base CX0 (k + 1) f fd ps sp := by
  obtain ⟨oc, od, kV, doc, pm, an, cdv, ct, osl, rfl, lk, hcd⟩ := F.ex
  refine fnG_of lk hcd S len fun A outer s H vs Q E hg hr hsp => ?_
  obtain ⟨t, h, q⟩ := hbody cdv A outer s H vs Q E hg hr hsp
  exact ⟨t, h.nox, q⟩

section
variable {X : Cx} {CX : CXT} {k n : Nat} {f C : Addr} {fd : FuncData} {ps ks : List Str} {sp : Sp} {dvs : List V} {ds : List Value} {E : XK} {x m : Str} {p pos apos : Pos} {e o : Expr} {es : List Expr} {kws : List Keyword} {ta : TE} {t tk : TA} {g : List Value → List Value → List Value} {gV : List V → List V → List V}
theorem run_fnG {pins : List (Addr × Obj)} {σ : L2.St} {H : Hp} {s : Shared} {Q : VK} {us : List Value} {vs : List V} (F : FnG X.prog X.w X.K X.mg X.base CX k f fd ps sp) (hgd : X.A.guards = some []) (hr : Room k X.A) (hb : Binds X.K fd ps ds) (hd : Vals dvs ds) (hx : Passes CX X E)
    (I : Inv X pins σ H s) (r : Vals vs us) (h : sp (vs ++ dvs) H Q E) : wpAny (model X.prog X.w) X.A (call (.ref f) us) (EP X pins σ Q) X.xe s := by
  have r2 : Vals (vs ++ dvs) (us ++ ds) := r.append hd
  have hl : (us ++ ds).length = ps.length := by rw [← r2.length]; exact F.len _ _ _ _ h
  refine wpAny_call (codeAny_mono (F.run X.A X.stack s H ⟨us, []⟩ (us ++ ds) (vs ++ dvs) Q E hgd hr I.env0 (hb s us I.kIn hl) r2 h) fun r s' hq => ?_)
  cases r with
  | error e => exact hx pins σ H s e s' I hq
  | ok fl =>
    cases fl with
    | ret u => exact I.after hq
    | next => exact False.elim hq
    | brk => exact False.elim hq
    | cont => exact False.elim hq
/-- f(e, ..) -/
theorem pe_callG (F : FnG X.prog X.w X.K X.mg X.base CX k f fd ps sp) (hgd : X.A.guards = some []) (hr : Room k X.A) (hg : Gl X x) (hm : X.mg x = some (.ref f)) (hk : PySem.W.keepIn X.K (.ref f) = true) (hb : Binds X.K fd ps ds) (hd : Vals dvs ds) (hx : Passes CX X E)
    (ha : PA X (e :: es) t) (hdb : (x == ("__debug__" : Str)) = false := by decide) (he : starEach (e :: es) X.env = (false, eval e X.env) :: starEach es X.env := by rfl) (hpl : (backTo pos (starEach es X.env)).any (·.1) = false := by rfl) :
    PE X (.Call (.Name x p) (e :: es) [] pos) (tCall sp dvs E t) := by
  refine ⟨fun pins s σ H Q I h => ?_⟩
  refine wpAny_Call_Name_kw (ld_glob I hg hm ?_ hdb)
  refine PySem.W.callWith_K (h₀ := X.base) I.ok.mod.kin hk (thn (ha.run pos pins s σ H _ I h) fun us s1 ⟨vs, H1, I1, r, q⟩ => ⟨I1.kIn, ?_⟩) he hpl
  exact run_fnG F hgd hr hb hd hx I1 r q
/-- o.m(k = v, ..) -/
def tMethN (C : Addr) (m : Str) (n j : Nat) (sp : Sp) (gV : List V → List V → List V) (E : XK) (ta : TE) (t tk : TA) : TE := fun σ H Q => ta σ H fun x H1 => ∃ a dx fs, x = .ref a ∧ H1 a = some (.ins C dx fs) ∧ fs.lookup m = none ∧
  t σ H1 fun vs H2 => tk σ H2 fun zs H3 => vs.length = n ∧ zs.length = j ∧ sp (gV (x :: vs) zs) H3 Q E
theorem pe_methN0 {pl : Sem Bool} (he : PE X o ta) (c : Cls X.K C) (hm : Meth X.K C m f) (F : FnOk X.prog X.w X.K X.mg X.base CX k f fd ps sp) (hr : Room k X.A) (hb : KBn X.K fd ps 1 ks g gV) (hx : Passes CX X E) (hkw : PK X kws tk)
    (hall : (backToKw pos (keywordEach kws X.env)).all (·.1.isSome) = true := by rfl) (hks : (backToKw pos (keywordEach kws X.env)).filterMap (·.1) = ks := by rfl)
    (hpl : ((backTo pos (starEach [] X.env)).any (·.1) || (backToKw pos (keywordEach kws X.env)).any (·.1.isNone)) = false := by rfl)
    (ht : eval (.Call (.Attribute o m apos) [] kws pos) X.env = (do
      let ov ← eval o X.env
      standAt apos.atName
      let (f, first) ← holding [ov] (getMethod ov m pl)
      callWith pos f first (backTo pos (starEach [] X.env)) (backToKw pos (keywordEach kws X.env))) := by rfl) :
    PE X (.Call (.Attribute o m apos) [] kws pos) (tMethN C m 0 ks.length sp gV E ta tNil tk) := by
  refine ⟨fun pins s σ H Q I h => ?_⟩
  refine PySem.W.methodCall_KW (pl := pl) (thn (he.run pins s σ H _ I h) fun u s1 ⟨x, H1, I1, rx, a, dx, fs, ex, ea, l, q⟩ => ?_) ht
  subst ex
  obtain rfl : u = Value.ref a := rx
  refine getmeth_ok I1 ea c hm l ?_
  refine PySem.W.callWith_KW0 (first := [.ref a]) (h₀ := X.base) I.ok.mod.kin hm.kp hall ?_ hpl
  refine thn (hkw.run pos pins s1 σ H1 _ I1 q) fun ws s2 ⟨zs, H2, I2, rz, l1, l2, q2⟩ => ⟨I2.kIn, ?_⟩
  rw [hks]
  exact run_fnN (us := [.ref a]) (vs := [.ref a]) F hr hb hx I2 (.cons rfl .nil) rz rfl l2 q2
end

/-! ### repr of data; repr of an own instance; {x} of data -/
mutual
theorem dp_nodict {K : PySem.W.Frag} {H : Hp} : ∀ {d : PyData} {v : V}, Dp K H v d → d.hasDict = false
  | .none, _, _ => by simp [PyData.hasDict]
  | .bool _, _, _ => by simp [PyData.hasDict]
  | .int _, _, _ => by simp [PyData.hasDict]
  | .str _, _, _ => by simp [PyData.hasDict]
  | .list ds, _, h => by
    cases h with
    | lst _ ha => simpa [PyData.hasDict] using dp_nodictAll ha
  | .tuple ds, _, h => by
    cases h with
    | tup _ ha => simpa [PyData.hasDict] using dp_nodictAll ha
  | .dict _, _, h => by cases h
theorem dp_nodictAll {K : PySem.W.Frag} {H : Hp} : ∀ {ds : List PyData} {vs : List V}, DpAll K H vs ds → PyData.hasDictAll ds = false
  | [], _, _ => by simp [PyData.hasDictAll]
  | d :: ds, _, h => by
    cases h with
    | cons h1 h2 => simp [PyData.hasDictAll, dp_nodict h1, dp_nodictAll h2]
end
def rRepr (K : PySem.W.Frag) : List V → Hp → VK → Prop := fun xs H Q => ∃ (a : Addr) (d : PyData), xs = [.ref a] ∧ Dp K H (.ref a) d ∧ d.showable = true ∧ d.depth ≤ 60 ∧ d.shown.length ≤ sizeLine ∧ Q (.str d.shown) H
theorem call_reprD {X : Cx} (hgd : X.A.guards = some []) (hu : X.A.units + 64 < cLine) : CallR X (.builtin "repr") (rRepr X.K) := by
  intro pins s σ H xs us Q I r h
  obtain ⟨a, d, rfl, hd, hs, hdp, hz, q⟩ := h
  obtain ⟨u, rfl, ru⟩ := vals1 r
  obtain rfl : u = Value.ref a := ru
  obtain ⟨as, hr⟩ := Dp.reads I d _ _ hd rfl
  refine repr_of_reads' hr hs (PyData.noDict_hsm (dp_nodict hd)) hgd (by omega) (fun _ _ e => e) (fun h' u tk hk => ?_) hz
  exact ⟨.str d.shown, H, I.kept hk, ⟨_, rfl⟩, q⟩
end G
end
section
set_option maxHeartbeats 2000000
namespace G
open PySem PySem.Spec PyProof.Rows L2
section
variable {X : Cx} {CX : CXT} {k : Nat} {f C : Addr} {fd : FuncData} {ps : List Str} {sp : Sp} {E : XK}
def rReprO (C : Addr) (sp : Sp) (E : XK) : List V → Hp → VK → Prop := fun xs H Q => ∃ (a dx : Addr) (fs : List (Str × V)), xs = [.ref a] ∧ H a = some (.ins C dx fs) ∧ sp [.ref a] H (fun v H' => (∃ y, v = .str y) ∧ Q v H') E
theorem call_reprO (hs : PySem.W.findIn X.K (.ref C) "__repr__" = some (some (.ref f))) (hf : PySem.W.isFn X.K (.ref f) = true) (FF : FnG X.prog X.w X.K X.mg X.base CX k f fd ps sp) (hgd : X.A.guards = some []) (hr : Room (k + 1) X.A)
    (hb : Binds X.K fd ps []) (hx : Passes CX X E) : CallR X (.builtin "repr") (rReprO C sp E) := by
  intro pins s σ H xs us Q I r h
  obtain ⟨a, dx, fs, rfl, ea, hsp⟩ := h
  obtain ⟨u, rfl, ru⟩ := vals1 r
  obtain rfl : u = Value.ref a := ru
  obtain ⟨mA, O, _, _, _, _⟩ := ins_get I.hok ea
  obtain ⟨od, J, _⟩ := O.look
  refine Calls.call_function_entry F.kind_repr F.plain_repr F.entry_repr (F.args_repr1 _) ?_
  unfold Builtin.«repr»
  refine wpAny_bind (m := oneArg "repr" _) (wpAny_pure ?_)
  refine wpAny_bind (m := cRoomFor _ _) (wpAny_cRoomFor (by have := hr.units; show X.A.units + 1 < cLine; omega) ?_)
  refine wpAny_bind ?_
  unfold specialOf
  refine wpAny_bind (J.type.here ((PySem.W.looks_findIn I.kIn hs).here ?_))
  show wpAny _ _ (if (some (Value.ref f)).isNone = true then _ else _) _ _ _
  rw [if_neg (by simp)]
  have hl : ([Value.ref a] ++ []).length = ps.length := by
    rw [← FF.len _ _ _ _ hsp] <;> rfl
  refine wpAny_bind (m := callSpecialIfBound? (.ref a) (Str.ofString "__repr__") _) (PySem.W.ifBound_K I.kIn J hs hf ?_)
  refine wpAny_call (codeAny_mono (FF.run X.A.in1 X.stack s H ⟨[.ref a], []⟩ [.ref a] [.ref a] _ E hgd hr.in1 I.env0.in1 (hb _ [.ref a] I.kIn hl) (.cons rfl .nil) hsp) fun r s' hq => ?_)
  cases r with
  | error er => exact hx pins σ H s er s' I hq
  | ok fl =>
    cases fl with
    | ret u =>
      obtain ⟨v, H', I3, rv, ⟨y, ey⟩, q3⟩ := I.after hq
      subst ey
      obtain ⟨tk, rfl⟩ := rv
      show wpAny _ _ _ _ _ _
      refine wpAny_bind (wpAny_isInstance (typeIs_str _ _ _) isSubtype_str_str ?_)
      first
        | exact wpAny_pure ⟨_, rfl, ⟨.str y, H', I3, ⟨tk, rfl⟩, q3⟩⟩
        | (rw [if_pos rfl]; exact wpAny_pure ⟨_, rfl, ⟨.str y, H', I3, ⟨tk, rfl⟩, q3⟩⟩)
        | (simp only [if_true]; exact wpAny_pure ⟨_, rfl, ⟨.str y, H', I3, ⟨tk, rfl⟩, q3⟩⟩)
    | next => exact False.elim hq
    | brk => exact False.elim hq
    | cont => exact False.elim hq

/-- {x} of data, as a text -/
def tFmtD (K : PySem.W.Frag) (te : TE) : TE := fun σ H Q => te σ H fun x H1 => ∃ (a : Addr) (d : PyData), x = .ref a ∧ Dp K H1 (.ref a) d ∧ d.showable = true ∧ d.depth ≤ 60 ∧ d.shown.length ≤ sizeLine ∧ Q (.str d.shown) H1
theorem pe_fmtD {e : Expr} {te : TE} {pos : Pos} (hgd : X.A.guards = some []) (hu : X.A.units + 64 < cLine) (he : PE X e te) : PE X (.FormattedValue e (-1) none pos) (tFmtD X.K te) := by
  refine ⟨fun pins s σ H Q I h => ?_⟩
  refine wpAny_FormattedValue_plain (thn (he.run pins s σ H _ I h) fun v s1 hv => ?_)
  obtain ⟨x, H1, I1, r1, a, d, rfl, hd, hs, hdp, hz, q⟩ := hv
  obtain rfl : v = Value.ref a := r1
  obtain ⟨as, hr⟩ := Dp.reads I1 d _ _ hd rfl
  exact formatField_of_reads hr hs (PyData.noDict_hsm (dp_nodict hd)) hgd (by omega) (fun _ _ e => e) (fun h' u tk hk => ⟨.str d.shown, H1, I1.kept hk, ⟨_, rfl⟩, q⟩) hz
end
end G
end
section
set_option maxHeartbeats 2000000
namespace G
open PySem PySem.Spec PyProof.Rows L2

/-! ### list(enumerate(xs)) -/
def enObj (f0 f1 : Value) (it : Addr) (i : Int) (old : Value) : Obj := { cls := .type "enumerate", dict := none, data := .fields #[f0, f1, .ref it, rawInt i, .none, old], slots := #[] }
def IsEn (h : Heap) (e it : Addr) (i : Int) : Prop := ∃ f0 f1 old, h.get? e = some (enObj f0 f1 it i old) ∧ (f0 = .none ∨ ∃ a : Addr, f0 = rawInt a)
section
variable {prog : Program} {w : World} {A : Around} {E : Value → Shared → Prop} {s : Shared}
theorem wpAny_loadIfAlive {a : Addr} {Q : Option Obj → Shared → Prop} (h : Q (s.heap.get? a) s) : wpAny (model prog w) A (loadIfAlive a) Q E s := fun Γ p _ => by
  show Sem.wp _ Γ (.loadIfAlive a .pure) _ _ p s
  rw [Sem.wp_loadIfAlive]
  exact h

theorem en_handOut {e it T : Addr} {i : Int} {f0 f1 old x : Value} {Q : Unit → Shared → Prop} (he : s.heap.get? e = some (enObj f0 f1 it i old))
    (hQ : ∀ h', h'.get? e = some (enObj (rawInt T) (.bool false) it i old) → Heap.SameBut e s.heap h' → Q () { s with heap := h' }) :
    wpAny (model prog w) A (Builtin.SmallTypes.ownedTupleHandOut (.ref e) (.ref T)) Q E s := by
  unfold Builtin.SmallTypes.ownedTupleHandOut
  refine wpAny_bind (wpAny_setField_rec he (by simp [enObj]) fun h₆ he₆ hs₆ => ?_)
  refine wpAny_setField_rec he₆ (by simp [enObj]) fun h₇ he₇ hs₇ => ?_
  refine hQ h₇ ?_ ?_
  · simpa [enObj] using he₇
  · exact ⟨by rw [hs₇.1, hs₆.1], fun b hb => (hs₇.2 b hb).trans (hs₆.2 b hb)⟩

theorem en_next {e it l : Addr} {i : Nat} {items : Array Value} {x : Value} {Q : Value → Shared → Prop}
    (he : IsEn s.heap e it i) (hit : s.heap.IsListIter it l i) (hl : s.heap.IsList l items) (hx : items[i]? = some x) (hne : e ≠ it)
    (hQ : ∀ h', IsEn h' e it ((i : Int) + 1) → h'.IsListIter it l (i + 1) →
      h'.get? s.heap.objs.size = some { cls := .type "tuple", data := .seq #[.int i s.toks, x] } → 
      (∀ b o, b ≠ e → b ≠ it → s.heap.get? b = some o → h'.get? b = some o) → Q (.ref s.heap.objs.size) { s with heap := h', toks := s.toks + 1 }) :
    wpAny (model prog w) A (Builtin.«enumerate.__next__» ⟨[.ref e], []⟩) (fun fin s' => ∃ v, fin = .done (.ret v) ∧ Q v s') E s := by
  obtain ⟨f0, f1, old, he, hf0⟩ := he
  obtain ⟨hp, g, d, tk, os⟩ := s
  show wpAny _ _ (field (.ref e) 2 >>= _) _ _ _
  refine wpAny_bind (wpAny_field he rfl (x := .ref it) rfl ?_)
  refine wpAny_bind (wpAny_nextOf_list_item hit hl hx fun h₁ hit₁ hs₁ => ?_)
  replace hs₁ : Heap.SameBut it hp h₁ := hs₁
  have he₁ : h₁.get? e = some (enObj f0 f1 it i old) := (hs₁.2 e hne).trans he
  show wpAny _ _ (field (.ref e) 3 >>= _) _ _ ⟨h₁, g, d, tk, os⟩
  refine wpAny_bind (wpAny_field he₁ rfl (x := rawInt i) rfl ?_)
  show wpAny _ _ (field (.ref e) 4 >>= _) _ _ ⟨h₁, g, d, tk, os⟩
  refine wpAny_bind (wpAny_field he₁ rfl (x := .none) rfl ?_)
  show wpAny _ _ (mkInt i >>= _) _ _ ⟨h₁, g, d, tk, os⟩
  refine wpAny_bind (wpAny_mkInt ?_)
  show wpAny _ _ (setField (.ref e) 3 (rawInt ((i : Int) + 1)) >>= _) _ _ ⟨h₁, g, d, tk + 1, os⟩
  refine wpAny_bind (wpAny_setField_rec he₁ (by simp) fun h₂ he₂ hs₂ => ?_)
  replace hs₂ : Heap.SameBut e h₁ h₂ := hs₂
  replace he₂ : h₂.get? e = some (enObj f0 f1 it ((i : Int) + 1) old) := he₂
  show wpAny _ _ (setField (.ref e) 4 .none >>= _) _ _ ⟨h₂, g, d, tk + 1, os⟩
  refine wpAny_bind (wpAny_setField_rec he₂ (by simp) fun h₃ he₃ hs₃ => ?_)
  replace hs₃ : Heap.SameBut e h₂ h₃ := hs₃
  replace he₃ : h₃.get? e = some (enObj f0 f1 it ((i : Int) + 1) old) := he₃
  show wpAny _ _ (newTuple [.int i tk, x] >>= _) _ _ ⟨h₃, g, d, tk + 1, os⟩
  refine wpAny_bind (wpAny_newTuple ?_)
  have he₄ : (h₃.push { cls := .type "tuple", data := .seq #[.int i tk, x] }).get? e = some (enObj f0 f1 it ((i : Int) + 1) old) := Heap.get?_push_of_some _ he₃
  generalize hh₄ : h₃.push { cls := .type "tuple", data := .seq #[.int i tk, x] } = h₄ at he₄
  have hsz : h₃.objs.size = hp.objs.size := by rw [hs₃.1, hs₂.1, hs₁.1]
  have hel : e < hp.objs.size := Heap.lt_size he
  have ht₄ : h₄.get? hp.objs.size = some { cls := .type "tuple", data := .seq #[.int i tk, x] } := by rw [← hh₄, ← hsz]; exact Heap.get?_push_size _ rfl
  have hk₄ : ∀ b o, b ≠ e → b ≠ it → hp.get? b = some o → h₄.get? b = some o := fun b o hbe hbi hb => by
    rw [← hh₄]; exact Heap.get?_push_of_some _ (hs₃.extBut b o hbe (hs₂.extBut b o hbe (hs₁.extBut b o hbi hb)))
  have hit₄ : h₄.IsListIter it l (i + 1) := by
    rw [← hh₄]; obtain ⟨o, ho, r⟩ := (hit₁.extBut hs₂.extBut (Ne.symm hne)).extBut hs₃.extBut (Ne.symm hne); exact ⟨o, Heap.get?_push_of_some _ ho, r⟩
  show wpAny _ _ (Builtin.SmallTypes.ownedTupleIsFree (.ref e) >>= _) _ _ ⟨h₄, g, d, tk + 1, os⟩
  rw [hsz]
  clear hh₄ he₃ hs₃ he₂ hs₂ he₁ hs₁ hit₁ hsz h₃ h₂ h₁
  -- the tuple that is free is handed out, and the object is as before otherwise
  have free : wpAny (model prog w) A (do
      rule "enumerate.__next__.owned-tuple-again"
      let old ← field (.ref e) 5
      setField (.ref e) 5 x
      Builtin.SmallTypes.ownedTupleHandOut (.ref e) (.ref hp.objs.size)
      letGo [old] [.ref hp.objs.size]
      ret (.ref hp.objs.size)) (fun fin s' => ∃ v, fin = .done (.ret v) ∧ Q v s') E ⟨h₄, g, d, tk + 1, os⟩ := by
    refine wpAny_bind (wpAny_rule ?_)
    refine wpAny_bind (wpAny_field he₄ rfl (x := old) rfl ?_)
    refine wpAny_bind (wpAny_setField_rec he₄ (by simp [enObj]) fun h₅ he₅ hs₅ => ?_)
    replace hs₅ : Heap.SameBut e h₄ h₅ := hs₅
    replace he₅ : h₅.get? e = some (enObj f0 f1 it ((i : Int) + 1) x) := he₅
    refine wpAny_bind (en_handOut (x := x) he₅ fun h₇ he₇ hs₇ => ?_)
    replace hs₇ : Heap.SameBut e h₅ h₇ := hs₇
    refine wpAny_bind (wpAny_letGo (wpAny_pure ⟨_, rfl, hQ h₇ ⟨_, _, _, he₇, .inr ⟨_, rfl⟩⟩ ?_ ?_ ?_⟩))
    · exact (hit₄.extBut hs₅.extBut (Ne.symm hne)).extBut hs₇.extBut (Ne.symm hne)
    · exact hs₇.extBut _ _ (Nat.ne_of_gt hel) (hs₅.extBut _ _ (Nat.ne_of_gt hel) ht₄)
    · exact fun b o hbe hbi hb => hs₇.extBut b o hbe (hs₅.extBut b o hbe (hk₄ b o hbe hbi hb))
  refine wpAny_bind ?_
  unfold Builtin.SmallTypes.ownedTupleIsFree
  rcases hf0 with rfl | ⟨a, rfl⟩
  · refine wpAny_bind (wpAny_field he₄ rfl (x := .none) rfl (wpAny_pure ?_))
    simp only [if_true]
    exact free
  · refine wpAny_bind (wpAny_field he₄ rfl (x := rawInt a) rfl ?_)
    show wpAny _ _ (loadIfAlive (Int.toNat (a : Int)) >>= _) _ _ _
    refine wpAny_bind (wpAny_loadIfAlive ?_)
    cases hal : h₄.get? (Int.toNat (a : Int)) with
    | none =>
      simp only [Option.isNone_none, if_true]
      refine wpAny_pure ?_
      simp only [if_true]
      exact free
    | some oa =>
      simp only [Option.isNone_some, Bool.false_eq_true, if_false]
      refine wpAny_bind (wpAny_field he₄ rfl (x := f1) rfl ?_)
      have fin : ∀ h₅ : Heap, IsEn h₅ e it ((i : Int) + 1) → Heap.SameBut e h₄ h₅ → ∃ v, Fin.done (Flow.ret (.ref hp.objs.size)) = .done (.ret v) ∧ Q v ⟨h₅, g, d, tk + 1, os⟩ := fun h₅ he₅ hs₅ => by
        refine ⟨_, rfl, hQ h₅ he₅ ?_ ?_ ?_⟩
        · exact hit₄.extBut hs₅.extBut (Ne.symm hne)
        · exact hs₅.extBut _ _ (Nat.ne_of_gt hel) ht₄
        · exact fun b o hbe hbi hb => hs₅.extBut b o hbe (hk₄ b o hbe hbi hb)
      by_cases hb : (f1 != .bool true) = true
      · rw [if_pos hb]
        refine wpAny_bind (wpAny_setField_rec he₄ (by simp [enObj]) fun h₅ he₅ hs₅ => ?_)
        refine wpAny_pure ?_
        simp only [Bool.false_eq_true, if_false]
        exact wpAny_pure (fin h₅ ⟨_, _, _, (by simpa [enObj] using he₅), .inr ⟨_, rfl⟩⟩ hs₅)
      · rw [if_neg hb]
        refine wpAny_bind (wpAny_pure (wpAny_pure ?_))
        simp only [Bool.false_eq_true, if_false]
        exact wpAny_pure (fin h₄ ⟨_, _, _, he₄, .inr ⟨_, rfl⟩⟩ ⟨rfl, fun _ _ => rfl⟩)
end
end G
end
section
set_option maxHeartbeats 2000000
namespace G
open PySem PySem.Spec PyProof.Rows L2
namespace F
theorem enum_no_len : typeLookup (.type "enumerate") "__len__" = pure none := by rw [typeLookup_type, builtinLookup_eq_fast]; kernel_rfl
theorem enum_no_hint : typeLookup (.type "enumerate") "__length_hint__" = pure none := by rw [typeLookup_type, builtinLookup_eq_fast]; kernel_rfl
end F
section
variable {prog : Program} {w : World} {A : Around} {E : Value → Shared → Prop} {s : Shared} {R : Result → Shared → Prop}
theorem IsEn.typeIs {e it : Addr} {i : Int} (he : IsEn s.heap e it i) : s.TypeIs (.ref e) "enumerate" := by
  obtain ⟨f0, f1, old, he, _⟩ := he
  exact ⟨_, he, rfl⟩
theorem en_pyNext {e it l : Addr} {i : Nat} {items : Array Value} {x : Value} {Q : Option Value → Shared → Prop}
    (he : IsEn s.heap e it i) (hit : s.heap.IsListIter it l i) (hl : s.heap.IsList l items) (hx : items[i]? = some x) (hne : e ≠ it)
    (hQ : ∀ h', IsEn h' e it ((i : Int) + 1) → h'.IsListIter it l (i + 1) →
      h'.get? s.heap.objs.size = some { cls := .type "tuple", data := .seq #[.int i s.toks, x] } → 
      (∀ b o, b ≠ e → b ≠ it → s.heap.get? b = some o → h'.get? b = some o) → Q (some (.ref s.heap.objs.size)) { s with heap := h', toks := s.toks + 1 }) :
    wpAny (model prog w) A (pyNext (.ref e)) Q E s := by
  have hT := he.typeIs
  unfold pyNext
  exact wpAny_bind (wpAny_attempt (wpAny_callSpecial?_slot (name := Str.ofString "__next__") hT PySem.F.slot_enumerate_next
    (wpAny_call_entry PySem.F.slot_enumerate_next hT PySem.F.entry_enumerate_next
      (en_next he hit hl hx hne fun h' a b c k => wpAny_pure (hQ h' a b c k)) (PySem.F.args_enumerate_next_1 _))))
theorem en_pyEnd {e it l : Addr} {i : Nat} {items : Array Value} {Q : Option Value → Shared → Prop} (hh : A.handled = none)
    (he : IsEn s.heap e it i) (hit : s.heap.IsListIter it l i) (hl : s.heap.IsList l items) (hx : items[i]? = none)
    (hQ : ∀ h', Heap.ExtBut it s.heap h' → Q none { s with heap := h' }) : wpAny (model prog w) A (pyNext (.ref e)) Q E s := by
  have hT := he.typeIs
  obtain ⟨f0, f1, old, he, _⟩ := he
  unfold pyNext
  refine wpAny_bind (wpAny_attempt (wpAny_callSpecial?_slot (name := Str.ofString "__next__") hT PySem.F.slot_enumerate_next
    (wpAny_call_entry PySem.F.slot_enumerate_next hT PySem.F.entry_enumerate_next ?_ (PySem.F.args_enumerate_next_1 _))))
  show wpAny _ _ (field (.ref e) 2 >>= _) _ _ _
  refine wpAny_bind (wpAny_field he rfl (x := .ref it) rfl ?_)
  refine wpAny_bind (wpAny_nextOf_list_end hh hit hl hx fun h' x he' hx' => ?_)
  obtain ⟨o, ho, hc⟩ := hx'
  refine wpAny_bind (wpAny_isInstance (T := "StopIteration") (b := true) ⟨o, ho, hc⟩ isSubtype_stop ?_)
  exact wpAny_pure (hQ _ he')

theorem en_pyIter {e it : Addr} {i : Int} {Q : Value → Shared → Prop} (he : IsEn s.heap e it i) (h : Q (.ref e) s) : wpAny (model prog w) A (pyIter (.ref e)) Q E s := by
  have hT := he.typeIs
  refine wpAny_pyIter_slot hT PySem.F.slot_enumerate_iter (wpAny_call_entry PySem.F.slot_enumerate_iter hT PySem.F.entry_enumerate_iter ?_ (PySem.F.args_enumerate_iter_1 _))
  show wpAny _ _ (ret (.ref e)) _ _ s
  exact wpAny_pure ⟨_, rfl, "enumerate", _, hT, PySem.F.slot_enumerate_next.lookup, h⟩
/-- the tuples made so far -/
def Tups (h : Heap) (acc items : Array Value) (n B : Nat) : Prop := acc.size = n ∧ ∀ j, j < n → ∃ (T : Addr) (tk : Tok) (x : Value), acc[j]? = some (.ref T) ∧ items[j]? = some x ∧ B ≤ T ∧ h.get? T = some { cls := .type "tuple", data := .seq #[.int j tk, x] }

theorem en_loop {e it l S : Addr} {items : Array Value} {res : Value} (hh : A.handled = none) (hei : e ≠ it) (hle : l ≠ e) (hli : l ≠ it) (hSe : S ≠ e) (hSi : S ≠ it) (hSl : S ≠ l) (hn : items.size ≤ sizeLine) {B : Nat} (hBe : e < B) (hBi : it < B) (hBS : S < B) :
    ∀ (k i : Nat) (s : Shared) (acc : Array Value) (c : Nat), items.size - i = k → i ≤ items.size → B ≤ s.heap.objs.size → IsEn s.heap e it i → s.heap.IsListIter it l i → s.heap.IsList l items →
    s.heap.get? S = some { cls := .type "list", dict := none, data := .seq acc c, slots := #[] } → Tups s.heap acc items i B →
    (∀ h' tk acc' c', (∀ b o, b ≠ S → b ≠ e → b ≠ it → s.heap.get? b = some o → h'.get? b = some o) → h'.get? S = some { cls := .type "list", dict := none, data := .seq acc' c', slots := #[] } → Tups h' acc' items items.size B → R (.ok (.ret res)) { s with heap := h', toks := tk }) →
    codeAny (model prog w) A (.builtin "list.extend.loop" ⟨[.ref S, .ref e, res], []⟩) R s := by
  intro k
  induction k with
  | zero =>
    intro i s acc c hk hi hB he hit hl hS hT hR
    have hin : i = items.size := by omega
    subst hin
    refine codeAny_builtin PySem.F.entry_extend_loop ?_
    rw [Around.under_plainId PySem.F.plain_extend_loop _]
    show wpAny _ A.in1 (pyNext (.ref e) >>= _) _ _ s
    refine wpAny_bind (en_pyEnd (A := A.in1) hh he hit hl (Array.getElem?_eq_none (Nat.le_refl _)) fun h' hx => ?_)
    refine wpAny_pure (hR h' s.toks acc c (fun b o _ _ hb q => hx b o hb q) (hx S _ hSi hS) ⟨hT.1, fun j hj => ?_⟩)
    obtain ⟨T, tk, x, a1, a2, a3, a4⟩ := hT.2 j hj
    exact ⟨T, tk, x, a1, a2, a3, hx T _ (Nat.ne_of_gt (Nat.lt_of_lt_of_le hBi a3)) a4⟩
  | succ k ih =>
    intro i s acc c hk hi hB he hit hl hS hT hR
    have hlt : i < items.size := by omega
    refine codeAny_builtin PySem.F.entry_extend_loop ?_
    rw [Around.under_plainId PySem.F.plain_extend_loop _]
    show wpAny _ A.in1 (pyNext (.ref e) >>= _) _ _ s
    have hx : items[i]? = some items[i] := Array.getElem?_eq_getElem hlt
    refine wpAny_bind (en_pyNext (A := A.in1) he hit hl hx hei fun h' he' hit' hT' hk' => ?_)
    have hS' := hk' S _ hSe hSi hS
    show wpAny _ A.in1 (updateSeq S (·.push (.ref s.heap.objs.size)) >>= _) _ _ _
    refine wpAny_bind ?_
    have hSz : S ≠ s.heap.objs.size := Nat.ne_of_lt (Heap.lt_size hS)
    have oth : ∀ b o, b ≠ S → h'.get? b = some o → (h'.update S (Obj.mapSeq (·.push (Value.ref s.heap.objs.size)))).get? b = some o := fun b o hb q => (Heap.get?_update_other _ _ (Ne.symm hb)).trans q
    refine wpAny_updateSeq hS' rfl (wpAny_pure ⟨plainId_quiet PySem.F.plain_extend_loop _, ih (i + 1) _ (acc.push (.ref s.heap.objs.size)) _ (by omega) hlt ?hB ?he ?hit ?hl (Heap.get?_update_self _ hS' rfl) ?hT ?hR⟩) (by rw [hT.1]; exact Nat.le_trans hi hn) (by show (acc.push _).size ≤ sizeLine + 1; rw [Array.size_push, hT.1]; exact Nat.succ_le_succ (Nat.le_trans hi hn))
    case hB =>
      have q := Heap.lt_size (oth _ _ hSz.symm hT')
      exact Nat.le_trans hB (Nat.le_of_lt q)
    case he =>
      obtain ⟨f0, f1, old, q, r⟩ := he'
      exact ⟨f0, f1, old, by
        show (h'.update S _).get? e = _
        have e1 : (((i + 1 : Nat)) : Int) = (i : Int) + 1 := by omega
        rw [e1]
        exact oth e _ hSe.symm q, r⟩
    case hit => exact hit'.at fun o q => oth it o hSi.symm q
    case hl => exact hl.at fun o q => oth l o hSl.symm (hk' l o hle hli q)
    case hT =>
      refine ⟨by rw [Array.size_push, hT.1], fun j hj => ?_⟩
      by_cases hji : j < i
      · obtain ⟨T, tk, x, a1, a2, a3, a4⟩ := hT.2 j hji
        refine ⟨T, tk, x, ?_, a2, a3, oth T _ (Nat.ne_of_gt (Nat.lt_of_lt_of_le hBS a3)) (hk' T _ (Nat.ne_of_gt (Nat.lt_of_lt_of_le hBe a3)) (Nat.ne_of_gt (Nat.lt_of_lt_of_le hBi a3)) a4)⟩
        rw [Array.getElem?_push, if_neg (by rw [hT.1]; omega)]
        exact a1
      · have hje : j = i := by omega
        subst hje
        refine ⟨s.heap.objs.size, s.toks, _, ?_, hx, hB, oth _ _ hSz.symm hT'⟩
        rw [Array.getElem?_push, if_pos hT.1.symm]
    case hR =>
      intro h2 tk2 acc2 c2 hk2 hS2 hT2
      exact hR h2 tk2 acc2 c2 (fun b o b1 b2 b3 q => hk2 b o b1 b2 b3 (oth b o b1 (hk' b o b2 b3 q))) hS2 hT2

theorem en_init {e it l S : Addr} {items : Array Value} (hh : A.handled = none) (hei : e ≠ it) (hle : l ≠ e) (hli : l ≠ it) (hSe : S ≠ e) (hSi : S ≠ it) (hSl : S ≠ l) (hn : items.size ≤ sizeLine)
    (he : IsEn s.heap e it 0) (hit : s.heap.IsListIter it l 0) (hl : s.heap.IsList l items) (hS : s.heap.get? S = some { cls := .type "list", data := .seq #[] })
    (hR : ∀ h' tk acc' c', (∀ b o, b ≠ S → b ≠ e → b ≠ it → s.heap.get? b = some o → h'.get? b = some o) → h'.get? S = some { cls := .type "list", dict := none, data := .seq acc' c', slots := #[] } → Tups h' acc' items items.size s.heap.objs.size → R (.ok (.ret .none)) { s with heap := h', toks := tk }) :
    wpAny (model prog w) A.in1 (Builtin.«list.__init__» ⟨[.ref S, .ref e], []⟩)
      (fun fin s' => match fin with | .done f => R (.ok f) s' | .again c' => c'.quiet = true ∧ codeAny (model prog w) A c' R s') (fun e s' => R (.error e) s') s := by
  show wpAny _ A.in1 (do let old ← Builtin.List.listItems (.ref S); Builtin.List.listUpdate (.ref S) (fun _ => #[]); letGo old.toList.reverse; Builtin.List.listExtendWith (.ref S) (.ref e) .none) _ _ s
  refine wpAny_bind ?_
  unfold Builtin.List.listItems
  refine wpAny_bind (wpAny_seqItems hS rfl (wpAny_pure ?_))
  show wpAny _ A.in1 (updateSeq S (fun _ => #[]) >>= fun _ => letGo (#[] : Array Value).toList.reverse >>= fun _ => Builtin.List.listExtendWith (.ref S) (.ref e) .none) _ _ s
  refine wpAny_bind (wpAny_updateSeq hS rfl ?_)
  have hS₂ := Heap.get?_update_self (Obj.mapSeq (fun _ => (#[] : Array Value))) hS rfl
  have oth : ∀ b o, b ≠ S → s.heap.get? b = some o → (s.heap.update S (Obj.mapSeq (fun _ => (#[] : Array Value)))).get? b = some o :=
    fun b o hb e => (Heap.get?_update_other _ _ (Ne.symm hb)).trans e
  have en2 : ∀ {h h' : Heap}, (∀ o, h.get? e = some o → h'.get? e = some o) → IsEn h e it 0 → IsEn h' e it 0 := fun k ⟨f0, f1, old, q, r⟩ => ⟨f0, f1, old, k _ q, r⟩
  refine wpAny_bind (wpAny_letGo ?_)
  have he₂ := en2 (fun o q => oth e o hSe.symm q) he
  unfold Builtin.List.listExtendWith
  refine wpAny_bind (wpAny_typeOf (IsEn.typeIs (s := { s with heap := s.heap.update S (Obj.mapSeq (fun _ => (#[] : Array Value))) }) he₂) ?_)
  have h1 : Builtin.List.listSameRef (.ref S) (.ref e) = false := by simp [Builtin.List.listSameRef, hSe]
  have h2 : (Value.type "enumerate" == Value.type "list") = false := by decide
  have h3 : (Value.type "enumerate" == Value.type "tuple") = false := by decide
  simp only [h1, h2, h3, Bool.or_false, Bool.false_eq_true, if_false]
  have he3 := he₂
  obtain ⟨f0, f1, old, q0, r0⟩ := he3
  refine wpAny_bind (en_pyIter (s := { s with heap := s.heap.update S (Obj.mapSeq (fun _ => (#[] : Array Value))) }) he₂ ?_)
  refine wpAny_bind (wpAny_holding ?_)
  unfold Builtin.List.listLengthHint
  refine wpAny_bind (wpAny_specialOf (IsEn.typeIs (s := { s with heap := s.heap.update S (Obj.mapSeq (fun _ => (#[] : Array Value))) }) he₂) F.enum_no_len ?_)
  show wpAny _ A.in1 (specialOf (Value.ref e) (Str.ofString "__length_hint__") >>= _) _ _ _
  refine wpAny_bind (wpAny_specialOf (IsEn.typeIs (s := { s with heap := s.heap.update S (Obj.mapSeq (fun _ => (#[] : Array Value))) }) he₂) F.enum_no_hint ?_)
  refine wpAny_pure ?_
  show wpAny _ A.in1 (rule "list.extend.makes-room" >>= fun _ => Builtin.List.listTouch (.ref S) >>= fun _ =>
    again (.builtin "list.extend.loop" ⟨[.ref S, .ref e, .none], []⟩)) _ _ _
  refine wpAny_bind (wpAny_rule ?_)
  refine wpAny_bind ?_
  show wpAny _ A.in1 (updateSeq S (·.push .none) >>= fun _ => updateSeq S (·.pop)) _ _ _
  refine wpAny_bind (wpAny_updateSeq hS₂ rfl ?_)
  have hS₃ := Heap.get?_update_self (Obj.mapSeq (·.push Value.none)) hS₂ rfl
  refine wpAny_updateSeq (hz := by seq_fits) hS₃ rfl ?_
  have hS₄ := Heap.get?_update_self (Obj.mapSeq (·.pop)) hS₃ rfl
  have oth2 : ∀ b o, b ≠ S → s.heap.get? b = some o → (((s.heap.update S (Obj.mapSeq (fun _ => (#[] : Array Value)))).update S (Obj.mapSeq (·.push Value.none))).update S (Obj.mapSeq (·.pop))).get? b = some o :=
    fun b o hb q => (Heap.get?_update_other _ _ (Ne.symm hb)).trans ((Heap.get?_update_other _ _ (Ne.symm hb)).trans (oth b o hb q))
  have hlt : ∀ b o, s.heap.get? b = some o → b < s.heap.objs.size := fun b o q => Heap.lt_size q
  obtain ⟨_, _, _, qe, _⟩ := id he
  obtain ⟨oi, qi, _⟩ := id hit
  refine wpAny_pure ⟨plainId_quiet PySem.F.plain_extend_loop _, en_loop hh hei hle hli hSe hSi hSl hn (hlt _ _ qe) (hlt _ _ qi) (hlt _ _ hS) items.size 0 _ _ _ rfl (Nat.zero_le _) ?_
    (en2 (fun o q => oth2 e o hSe.symm q) he) (hit.at fun o q => oth2 it o hSi.symm q) (hl.at fun o q => oth2 l o hSl.symm q) hS₄ ⟨rfl, fun j hj => absurd hj (Nat.not_lt_zero _)⟩ fun h' tk acc' c' hk hS' hT => ?_⟩
  · show _ ≤ (((s.heap.update S _).update S _).update S _).objs.size
    simp
  · exact hR h' tk acc' c' (fun b o b1 b2 b3 q => hk b o b1 b2 b3 (oth2 b o b1 q)) hS' hT
end
end G
end
section
set_option maxHeartbeats 2000000
namespace G
open PySem PySem.Spec PyProof.Rows L2
section
variable {prog : Program} {w : World} {A : Around} {E : Value → Shared → Prop} {s : Shared}
theorem call_list_enum {e it l : Addr} {items : Array Value} {Q : Value → Shared → Prop} (hh : A.handled = none) (hei : e ≠ it) (hle : l ≠ e) (hli : l ≠ it) (hn : items.size ≤ sizeLine)
    (he : IsEn s.heap e it 0) (hit : s.heap.IsListIter it l 0) (hl : s.heap.IsList l items)
    (hQ : ∀ h' tk acc' c', (∀ b o, b ≠ e → b ≠ it → s.heap.get? b = some o → h'.get? b = some o) → h'.get? s.heap.objs.size = some { cls := .type "list", dict := none, data := .seq acc' c', slots := #[] } →
      Tups h' acc' items items.size (s.heap.objs.size + 1) → Q (.ref s.heap.objs.size) { s with heap := h', toks := tk }) :
    wpAny (model prog w) A (call (.type "list") [.ref e]) Q E s := by
  obtain ⟨_, _, _, qe, _⟩ := id he
  obtain ⟨oi, qi, _⟩ := id hit
  obtain ⟨ol, ql, _⟩ := id hl
  have lt : ∀ {b : Addr} {o : Obj}, s.heap.get? b = some o → s.heap.objs.size ≠ b := fun q => Nat.ne_of_gt (Heap.lt_size q)
  refine callType_codes (Q₁ := fun obj s₁ => obj = .ref s.heap.objs.size ∧ s₁ = { s with heap := s.heap.push { cls := .type "list", data := .seq #[] } }) PySem.F.called_list (PySem.F.typeCall_list_1 _) PySem.F.entry_list_init
    (code_list_new _ ⟨rfl, rfl⟩) fun obj s₁ h₁ => ?_
  obtain ⟨rfl, rfl⟩ := h₁
  have hS : (s.heap.push { cls := .type "list", data := .seq #[] }).get? s.heap.objs.size = some { cls := .type "list", data := .seq #[] } := Heap.get?_push_size _ rfl
  refine ⟨⟨_, hS, rfl⟩, PySem.F.args_list_init_2 _ _, en_init (s := { s with heap := s.heap.push { cls := .type "list", data := .seq #[] } }) (A := A.in1) hh hei hle hli (lt qe) (lt qi) (lt ql) hn ?_
    (hit.at fun o q => Heap.get?_push_of_some _ q) (hl.at fun o q => Heap.get?_push_of_some _ q) hS fun h' tk acc' c' hk hS' hT => ?_⟩
  · obtain ⟨f0, f1, old, q, r⟩ := he
    exact ⟨f0, f1, old, Heap.get?_push_of_some _ q, r⟩
  · refine ⟨rfl, hQ h' tk acc' c' (fun b o b1 b2 q => hk b o (lt q).symm b1 b2 (Heap.get?_push_of_some _ q)) hS' ?_⟩
    have e1 : (s.heap.push { cls := .type "list", data := .seq #[] }).objs.size = s.heap.objs.size + 1 := Heap.size_push ..
    rw [← e1]
    exact hT
end

open Classical in
/-- what is new: the list at S, a pair for each item -/
noncomputable def enH (H : Hp) (S : Addr) (acc : List Addr) (xs : List V) : Hp := fun b =>
  if b = S then some (.lst (acc.map V.ref)) else if h : ∃ (j : Nat) (x : V), acc[j]? = some b ∧ xs[j]? = some x then some (.tup [.int ((Classical.choose h : Nat) : Int), Classical.choose (Classical.choose_spec h)]) else H b

section
variable {X : Cx}
def tListEn (K : PySem.W.Frag) (te : TE) : TE := fun σ H Q => te σ H fun x H1 => ∃ (a : Addr) (xs : List V), x = .ref a ∧ SqL K H1 a xs ∧
  ∀ (l : Addr) (ts : List Addr) (H2 : Hp), H1 l = none → Evl.Ex H1 H2 → H2 l = some (.lst (ts.map V.ref)) → ts.length = xs.length → (∀ (j : Nat) (T : Addr) (x : V), ts[j]? = some T → xs[j]? = some x → H2 T = some (.tup [.int (j : Int), x])) → Q (.ref l) H2
theorem pe_listEn {e : Expr} {te : TE} {p pos p2 pos2 : Pos} (hc : X.calm = true) (hg : Gl X "list") (hm : X.mg "list" = none) (hg2 : Gl X "enumerate") (hm2 : X.mg "enumerate" = none) (ha : PE X e te)
    (na2 : starEach [e] X.env = (false, eval e X.env) :: starEach [] X.env := by rfl)
    (na : starEach [.Call (.Name "enumerate" p2) [e] [] pos2] X.env = (false, eval (.Call (.Name "enumerate" p2) [e] [] pos2) X.env) :: starEach [] X.env := by rfl) :
    PE X (.Call (.Name "list" p) [.Call (.Name "enumerate" p2) [e] [] pos2] [] pos) (tListEn X.K te) := by
  refine ⟨fun pins s σ H Q I h => ?_⟩
  refine Call_ (ld_blt I hg hm boot_list (PyProof.Rows.callWith_type1 (args_cons ?_ na) na))
  refine Call_ (ld_blt I hg2 hm2 boot_enumerate (PyProof.Rows.callWith_type1 (one_arg ha I h (fun v s1 x H1 I1 r q => ?_) na2) na2))
  obtain ⟨a, xs, rfl, hs, q⟩ := q
  obtain rfl : v = Value.ref a := r
  obtain ⟨its, rv, pl, hz⟩ := I1.list hs
  have lits : its.length = xs.length := rv.length.symm
  refine call_enumerate_list pl.isList fun h1 he hit hsz hk => args_nil ?_
  have hal : a < s1.heap.objs.size := by obtain ⟨o, q, _⟩ := pl.isList; exact Heap.lt_size q
  refine call_list_enum (s := { s1 with heap := h1 }) (A := X.A) (I1.ok.hd hc) (Nat.succ_ne_self _) (Nat.ne_of_lt (Nat.lt_succ_of_lt hal)) (Nat.ne_of_lt hal) (by rw [List.size_toArray, lits]; exact hz)
    ⟨_, _, _, he, .inl rfl⟩ hit (pl.isList.at fun o q => hk a o q) fun h' tk acc c' hk' hS' hT => ?_
  -- the addresses
  have hacc : ∀ j, j < acc.size → ∃ T : Addr, acc[j]? = some (.ref T) := fun j hj => by
    obtain ⟨T, _, _, e1, _⟩ := hT.2 j (by rw [← hT.1]; exact hj)
    exact ⟨T, e1⟩
  let adr : Value → Addr := fun v => match v with | .ref T => T | _ => 0
  let ts : List Addr := acc.toList.map adr
  have tsl : ts.length = xs.length := by
    show (acc.toList.map adr).length = _
    rw [List.length_map, Array.length_toList, hT.1, List.size_toArray, lits]
  have tsj : ∀ j (T : Addr), ts[j]? = some T → acc[j]? = some (.ref T) ∧ j < its.length := fun j T hj => by
    have hlt : j < ts.length := (List.getElem?_eq_some_iff.mp hj).1
    have hlt2 : j < acc.size := by rw [hT.1, List.size_toArray, lits, ← tsl]; exact hlt
    obtain ⟨T', e1⟩ := hacc j hlt2
    have e2 : ts[j]? = some T' := by
      show (acc.toList.map adr)[j]? = some T'
      rw [List.getElem?_map, Array.getElem?_toList, e1] <;> rfl
    rw [hj] at e2
    cases e2
    exact ⟨e1, by rw [lits, ← tsl]; exact hlt⟩
  -- what stands at each
  have tup : ∀ (j : Nat) (T : Addr) (x : V), ts[j]? = some T → xs[j]? = some x → ∃ (tk : Tok) (u : Value), RelV x u ∧ s1.heap.objs.size ≤ T ∧ T ≠ h1.objs.size ∧ h'.get? T = some { cls := .type "tuple", data := .seq #[.int (j : Int) tk, u] } := fun j T x hj hx => by
    obtain ⟨e1, hj2⟩ := tsj j T hj
    obtain ⟨T', tk, u, a1, a2, a3, a4⟩ := hT.2 j (by rw [List.size_toArray]; exact hj2)
    rw [e1] at a1
    cases a1
    obtain ⟨u', hu', ru⟩ := rv.get hx
    have e3 : its[j]? = some u := by simpa using a2
    rw [hu'] at e3
    have e4 := Option.some.inj e3
    subst e4
    have a3' : h1.objs.size + 1 ≤ T := a3
    refine ⟨tk, _, ru, Nat.le_trans (by rw [hsz]; exact Nat.le_add_right _ _) (Nat.le_of_succ_le a3'), Nat.ne_of_gt a3', a4⟩
  have ltS : s1.heap.objs.size ≤ h1.objs.size := by rw [hsz]; exact Nat.le_add_right _ _
  have kept : ∀ b o, s1.heap.get? b = some o → h'.get? b = some o := fun b o q => by
    have hb := Heap.lt_size q
    exact hk' b o (Nat.ne_of_lt (Nat.lt_succ_of_lt hb)) (Nat.ne_of_lt hb) (hk b o q)
  have low : ∀ b, b < s1.heap.objs.size → enH H1 h1.objs.size ts xs b = H1 b := fun b hb => by
    unfold enH
    rw [if_neg (Nat.ne_of_lt (Nat.lt_of_lt_of_le hb ltS)), dif_neg]
    rintro ⟨j, x, e1, e2⟩
    obtain ⟨_, _, _, e3, _⟩ := tup j b x e1 e2
    exact absurd hb (Nat.not_lt_of_le e3)
  have old : ∀ b o, H1 b = some o → enH H1 h1.objs.size ts xs b = some o := fun b o q => by rw [low b (I1.hok.lt q)]; exact q
  have atS : enH H1 h1.objs.size ts xs h1.objs.size = some (.lst (ts.map V.ref)) := by unfold enH; rw [if_pos rfl]
  have atT : ∀ (j : Nat) (T : Addr) (x : V), ts[j]? = some T → xs[j]? = some x → enH H1 h1.objs.size ts xs T = some (.tup [.int (j : Int), x]) := fun j T x hj hx => by
    obtain ⟨tk, u, ru, _, hne, e1⟩ := tup j T x hj hx
    have hex : ∃ (j : Nat) (x : V), ts[j]? = some T ∧ xs[j]? = some x := ⟨j, x, hj, hx⟩
    unfold enH
    rw [if_neg hne, dif_pos hex]
    have key : ∀ (j0 : Nat) (x0 : V), ts[j0]? = some T → xs[j0]? = some x0 → j0 = j ∧ x0 = x := fun j0 x0 q1 q2 => by
      obtain ⟨tk2, u2, ru2, _, _, e2⟩ := tup j0 T x0 q1 q2
      rw [e1] at e2
      have e3 : (Value.int (j : Int) tk) = Value.int (j0 : Int) tk2 := by
        have := Option.some.inj e2
        injection this with _ _ d _
        injection d with d1 _
        have := congrArg (fun a : Array Value => a[0]?) d1
        simpa using this
      injection e3 with e4 _
      have e5 : j0 = j := by omega
      subst e5
      rw [hx] at q2
      exact ⟨rfl, (Option.some.inj q2).symm⟩
    obtain ⟨k1, k2⟩ := key _ _ (Classical.choose_spec (Classical.choose_spec hex)).1 (Classical.choose_spec (Classical.choose_spec hex)).2
    have e7 : V.int ((Classical.choose hex : Nat) : Int) = V.int (j : Int) := by rw [k1]
    rw [e7, k2]
  have un : Un X.fs [] H1 (enH H1 h1.objs.size ts xs) s1.heap h' := by
    refine ⟨fun b o q _ _ _ => kept b o q, fun b o q _ _ _ => ⟨o.slots, kept b o q⟩, fun b o q n _ => by rw [low b (Heap.lt_size q)]; exact n, fun b o q _ => ⟨o, kept b o q⟩, fun b xs q => old b _ q, fun b o u q => old b _ q, fun b ps q => ⟨#[], by rw [old b _ q]; simp⟩⟩
  have hok : HOk X.prog X.w (enH H1 h1.objs.size ts xs) h' := fun b o q => by
    by_cases hb : b = h1.objs.size
    · subst hb
      rw [atS] at q
      cases q
      refine ⟨?_, acc.toList, c', ?_, ?_⟩
      · rw [List.length_map, tsl]; exact hz
      · have : ∀ (l : List Value), (∀ v ∈ l, ∃ T : Addr, v = .ref T) → Vals ((l.map adr).map V.ref) l := fun l => by
          induction l with
          | nil => exact fun _ => .nil
          | cons v l ih =>
            intro hv
            obtain ⟨T, rfl⟩ := hv v (List.mem_cons_self ..)
            exact .cons rfl (ih fun u hu => hv u (List.mem_cons_of_mem _ hu))
        refine this acc.toList fun v hv => ?_
        obtain ⟨j, hj⟩ := List.getElem?_of_mem hv
        have hj' : acc[j]? = some v := by rw [← hj, Array.getElem?_toList]
        have hlt : j < acc.size := by
          have := (List.getElem?_eq_some_iff.mp hj).1
          rwa [Array.length_toList] at this
        obtain ⟨T, e1⟩ := hacc j hlt
        rw [hj'] at e1
        exact ⟨T, Option.some.inj e1⟩
      · rw [Array.toArray_toList]; exact hS'
    · by_cases hex : ∃ (j : Nat) (x : V), ts[j]? = some b ∧ xs[j]? = some x
      · obtain ⟨j, x, e1, e2⟩ := hex
        rw [atT j b x e1 e2] at q
        cases q
        obtain ⟨tk, u, ru, _, _, e3⟩ := tup j b x e1 e2
        exact ⟨by show 2 ≤ sizeLine; decide, [.int j tk, u], .cons ⟨_, rfl⟩ (.cons ru .nil), ⟨_, e3, rfl, _, rfl⟩⟩
      · have e0 : enH H1 h1.objs.size ts xs b = H1 b := by unfold enH; rw [if_neg hb, dif_neg hex]
        rw [e0] at q
        exact (I1.hok b o q).stay (fun c v _ r => kept c v r) (fun c r => old c _ r) fun c ys r => old c _ r
  exact ⟨.ref h1.objs.size, _, I1.un (t' := tk) un hok, rfl, q h1.objs.size ts _ (I1.hok.fresh ltS) (fun b o q => old b o q) atS tsl atT⟩
end
end G
end
section
set_option maxHeartbeats 2000000
namespace G
open PySem L2 Evl

/-! ### data at any depth -/
mutual
theorem dp_mono {K : PySem.W.Frag} {H H' : Hp} (e : Ex H H') : ∀ {d : PyData} {v : V}, Dp K H v d → Dp K H' v d
  | .none, _, h => by cases h; exact .non
  | .bool _, _, h => by cases h; exact .bl _
  | .int _, _, h => by cases h; exact .int _
  | .str _, _, h => by cases h; exact .str _
  | .list ds, _, h => by
    cases h with
    | lst hs ha => exact .lst (ex_l e hs) (dp_monoAll e ha)
  | .tuple ds, _, h => by
    cases h with
    | tup hs ha => exact .tup (ex_t e hs) (dp_monoAll e ha)
  | .dict _, _, h => by cases h
theorem dp_monoAll {K : PySem.W.Frag} {H H' : Hp} (e : Ex H H') : ∀ {ds : List PyData} {vs : List V}, DpAll K H vs ds → DpAll K H' vs ds
  | [], _, h => by cases h; exact .nil
  | d :: ds, _, h => by
    cases h with
    | cons h1 h2 => exact .cons (dp_mono e h1) (dp_monoAll e h2)
end
def dInts (ns : List Int) : PyData := .list (ns.map PyData.int)
theorem dpAll_ints {K : PySem.W.Frag} {H : Hp} : ∀ (ns : List Int), DpAll K H (ns.map V.int) (ns.map PyData.int)
  | [] => .nil
  | n :: ns => .cons (.int n) (dpAll_ints ns)
theorem dp_ints {K : PySem.W.Frag} {H : Hp} {a : Addr} {ns : List Int} (h : SqL K H a (ns.map V.int)) : Dp K H (.ref a) (dInts ns) := .lst h (dpAll_ints ns)
theorem dp_get {K : PySem.W.Frag} {H : Hp} : ∀ {ds : List PyData} {vs : List V} {j : Nat} {d : PyData}, DpAll K H vs ds → ds[j]? = some d → ∃ v, vs[j]? = some v ∧ Dp K H v d
  | _, _, _, _, .nil, e => by simp at e
  | _, _, 0, _, .cons h _, e => by simp at e; subst e; exact ⟨_, rfl, h⟩
  | _, _, j + 1, _, .cons _ h, e => by
    obtain ⟨v, h1, h2⟩ := dp_get (j := j) h (by simpa using e)
    exact ⟨v, by simpa using h1, h2⟩
theorem dp_len {K : PySem.W.Frag} {H : Hp} : ∀ {ds : List PyData} {vs : List V}, DpAll K H vs ds → vs.length = ds.length
  | _, _, .nil => rfl
  | _, _, .cons _ h => by simp [dp_len h]

/-! ### what evaluates to data -/
variable {K : PySem.W.Frag} {σ : L2.St} {H H' : Hp} {ta tb te tx : TE} {tt : TT} {x y z v : V} {d : PyData} {ds : List PyData} {p C dx : Addr} {fs : List (Str × V)} {f m : Str} {sp : Sp} {dvs vs : List V} {E : XK} {tA tr tk : TA}
def EvD (K : PySem.W.Frag) (te : TE) (σ : L2.St) (H : Hp) (d : PyData) : Prop := ∀ H1, Ex H H1 → ∀ Q : VK, (∀ v H2, Ex H1 H2 → Dp K H2 v d → Q v H2) → te σ H1 Q
def EvAD (K : PySem.W.Frag) (ta : TA) (σ : L2.St) (H : Hp) (ds : List PyData) : Prop := ∀ H1, Ex H H1 → ∀ Q : List V → Hp → Prop, (∀ vs H2, Ex H1 H2 → DpAll K H2 vs ds → Q vs H2) → ta σ H1 Q
theorem EvD.mono (e : Ex H H') (h : EvD K te σ H d) : EvD K te σ H' d := fun H1 a Q q => h H1 (e.trans a) Q q
theorem EvL.mono (e : Ex H H') {xs : List V} (h : EvL te σ H xs) : EvL te σ H' xs := fun H1 a Q q => h H1 (e.trans a) Q q
theorem evd_v (h : Ev te σ H v) (hd : ∀ H1, Ex H H1 → Dp K H1 v d) : EvD K te σ H d := fun H1 e Q q => h H1 e Q fun H2 e2 => q v H2 e2 (hd H2 (e.trans e2))
theorem evd_int {i : Int} (h : Ev te σ H (.int i)) : EvD K te σ H (.int i) := evd_v h fun _ _ => .int i
theorem evd_bl {b : Bool} (h : Ev te σ H (.bl b)) : EvD K te σ H (.bool b) := evd_v h fun _ _ => .bl b
theorem evd_ref (h : Ev te σ H v) (hd : Dp K H v d) : EvD K te σ H d := evd_v h fun _ e => dp_mono e hd
theorem evd_l {xs : List V} (h : EvL te σ H xs) (hd : ∀ H1, Ex H H1 → DpAll K H1 xs ds) : EvD K te σ H (.list ds) := fun H1 e Q q => h H1 e Q fun p H2 _ e2 h2 => q _ H2 e2 (.lst (sq_of h2) (hd H2 (e.trans e2)))
theorem evd_ints {ns : List Int} (h : EvL te σ H (ns.map V.int)) : EvD K te σ H (dInts ns) := evd_l h fun _ _ => dpAll_ints ns
theorem evd_u {xs : List V} (h : EvU te σ H xs) (hd : ∀ H1, Ex H H1 → DpAll K H1 xs ds) : EvD K te σ H (.tuple ds) := fun H1 e Q q => h H1 e Q fun p H2 _ e2 h2 => q _ H2 e2 (.tup (st_of h2) (hd H2 (e.trans e2)))
theorem evad_nil : EvAD K tNil σ H [] := fun H1 _ _ q => q [] H1 (Ex.refl H1) .nil
theorem evad_cons (h : EvD K ta σ H d) (hr : EvAD K tr σ H ds) : EvAD K (tCons ta tr) σ H (d :: ds) := fun H1 e Q q =>
  h H1 e _ fun v H2 e2 hv => hr H2 (e.trans e2) _ fun vs H3 e3 hvs => q _ H3 (e2.trans e3) (.cons (dp_mono e3 hv) hvs)
theorem evd_lst (h : EvAD K tA σ H ds) (hl : ds.length ≤ 100000) : EvD K (tLst tA) σ H (.list ds) := fun H1 e Q q =>
  h H1 e _ fun vs H2 e2 hv => ⟨sz_of (by rw [dp_len hv]; exact hl), fun p hp => q _ _ (e2.trans (Ex.new hp)) (.lst (sq_of upd_same) (dp_monoAll (Ex.new hp) hv))⟩
theorem evd_tup (h : EvAD K tA σ H ds) (hl : ds.length ≤ 100000) : EvD K (tTup tA) σ H (.tuple ds) := fun H1 e Q q =>
  h H1 e _ fun vs H2 e2 hv => ⟨sz_of (by rw [dp_len hv]; exact hl), fun p hp => q _ _ (e2.trans (Ex.new hp)) (.tup (st_of upd_same) (dp_monoAll (Ex.new hp) hv))⟩
theorem evd_is {d' : PyData} (h : EvD K te σ H d) (e : d = d') : EvD K te σ H d' := e ▸ h
theorem dp_app {Hx : Hp} : ∀ {as bs : List V} {cs es : List PyData}, DpAll K Hx as cs → DpAll K Hx bs es → DpAll K Hx (as ++ bs) (cs ++ es)
  | _, _, _, _, .nil, h2 => h2
  | _, _, _, _, .cons q1 q2, h2 => .cons q1 (dp_app q2 h2)
theorem dp_repl {Hx : Hp} {as : List V} {cs : List PyData} (h : DpAll K Hx as cs) : ∀ k : Nat, DpAll K Hx (List.replicate k as).flatten (List.replicate k cs).flatten
  | 0 => .nil
  | k + 1 => by
    rw [List.replicate_succ, List.replicate_succ, List.flatten_cons, List.flatten_cons]
    exact dp_app h (dp_repl h k)
/-- xs * k of a new list of data -/
theorem evd_rep {k : Nat} (h : EvAD K tA σ H ds) (hl : ds.length ≤ 1000) (hk : k ≤ 10) (hb : Ev tb σ H (.int (k : Int))) : EvD K (tOp rRep (tLst tA) tb) σ H (.list ((List.replicate k ds).flatten)) := fun H1 e Q q => by
  refine h H1 e _ fun vs H2 e2 hv => ⟨sz_of (by rw [dp_len hv]; omega), fun p hp => ?_⟩
  refine hb _ (e.trans (e2.trans (Ex.new hp))) _ fun H3 e3 => ?_
  have hvl := dp_len hv
  have hm : vs.length * k ≤ 10000 := Nat.le_trans (Nat.mul_le_mul (by rw [hvl]; exact hl) hk) (by decide)
  refine ⟨p, (k : Int), vs, rfl, rfl, e3 p _ upd_same, by omega, by omega, by rw [Int.toNat_natCast]; exact sz_of (by omega), fun q' hq' => ?_⟩
  refine q _ _ (((e2.trans (Ex.new hp)).trans e3).trans (Ex.new hq')) (.lst (sq_of upd_same) ?_)
  rw [Int.toNat_natCast]
  exact dp_repl (dp_monoAll (((Ex.new hp).trans e3).trans (Ex.new hq')) hv) k

/-! ### fields, methods, properties -/
theorem ev_fld {tv : V} (h : Ev ta σ H (.ref p)) (ho : H p = some (.ins C dx fs)) (hc : Cls K C) (hn : NoAttr K C f) (hl : fs.lookup f = some tv) : Ev (tFld K ta f) σ H tv := fun H1 e Q q =>
  h H1 e _ fun H2 e2 => ⟨p, C, dx, fs, tv, rfl, (e.trans e2) p _ ho, hc, hn, hl, q H2 e2⟩
theorem ev_con {u : Value} (h : Ev ta σ H (.ref p)) (ho : H p = some (.ins C dx fs)) (hc : Cls K C) (hk : Con K C f v u) (hl : fs.lookup f = none) : Ev (tCon K ta f) σ H v := fun H1 e Q q =>
  h H1 e _ fun H2 e2 => ⟨p, C, dx, fs, v, u, rfl, (e.trans e2) p _ ho, hc, hk, hl, q H2 e2⟩
theorem ev_prop (h : Ev ta σ H (.ref p)) (ho : H p = some (.ins C dx fs)) (hs : SpV sp (.ref p :: dvs) H z) : Ev (tProp C sp dvs E ta) σ H z := fun H1 e Q q =>
  h H1 e _ fun H2 e2 => ⟨p, dx, fs, rfl, (e.trans e2) p _ ho, hs H2 (e.trans e2) Q (fun H3 e3 => q H3 (e2.trans e3)) E⟩
theorem ev_meth (h : Ev ta σ H (.ref p)) (ho : H p = some (.ins C dx fs)) (hl : fs.lookup m = none) (ha : EvA tA σ H vs) (hs : SpV sp (.ref p :: (vs ++ dvs)) H z) : Ev (tMeth C m sp dvs E ta tA) σ H z := fun H1 e Q q =>
  h H1 e _ fun H2 e2 => ⟨p, dx, fs, rfl, (e.trans e2) p _ ho, hl, ha H2 (e.trans e2) _ fun H3 e3 => hs H3 ((e.trans e2).trans e3) Q (fun H4 e4 => q H4 ((e2.trans e3).trans e4)) E⟩
theorem el_meth {xs : List V} (h : Ev ta σ H (.ref p)) (ho : H p = some (.ins C dx fs)) (hl : fs.lookup m = none) (ha : EvA tA σ H vs) (hs : SpL sp (.ref p :: (vs ++ dvs)) H xs) : EvL (tMeth C m sp dvs E ta tA) σ H xs := fun H1 e Q q =>
  h H1 e _ fun H2 e2 => ⟨p, dx, fs, rfl, (e.trans e2) p _ ho, hl, ha H2 (e.trans e2) _ fun H3 e3 => hs H3 ((e.trans e2).trans e3) Q (fun q' H4 n4 e4 h4 => q q' H4 (fresh_back (e2.trans e3) n4) ((e2.trans e3).trans e4) h4) E⟩
def SpD (K : PySem.W.Frag) (sp : Sp) (vs : List V) (H : Hp) (d : PyData) : Prop := ∀ H1, Ex H H1 → ∀ Q : VK, (∀ v H2, Ex H1 H2 → Dp K H2 v d → Q v H2) → ∀ E : XK, sp vs H1 Q E
theorem evd_meth (h : Ev ta σ H (.ref p)) (ho : H p = some (.ins C dx fs)) (hl : fs.lookup m = none) (ha : EvA tA σ H vs) (hs : SpD K sp (.ref p :: (vs ++ dvs)) H d) : EvD K (tMeth C m sp dvs E ta tA) σ H d := fun H1 e Q q =>
  h H1 e _ fun H2 e2 => ⟨p, dx, fs, rfl, (e.trans e2) p _ ho, hl, ha H2 (e.trans e2) _ fun H3 e3 => hs H3 ((e.trans e2).trans e3) Q (fun v H4 e4 h4 => q v H4 ((e2.trans e3).trans e4) h4) E⟩
theorem evd_call (ha : EvA tA σ H vs) (hs : SpD K sp (vs ++ dvs) H d) : EvD K (tCall sp dvs E tA) σ H d := fun H1 e Q q =>
  ha H1 e _ fun H2 e2 => hs H2 (e.trans e2) Q (fun v H3 e3 h3 => q v H3 (e2.trans e3) h3) E
theorem ev_methN {n j : Nat} {gV : List V → List V → List V} {zs : List V} (h : Ev ta σ H (.ref p)) (ho : H p = some (.ins C dx fs)) (hl : fs.lookup m = none) (ha : EvA tA σ H vs) (hk : EvA tk σ H zs) (h1 : vs.length = n) (h2 : zs.length = j)
    (hs : SpV sp (gV (.ref p :: vs) zs) H z) : Ev (tMethN C m n j sp gV E ta tA tk) σ H z := fun H1 e Q q =>
  h H1 e _ fun H2 e2 => ⟨p, dx, fs, rfl, (e.trans e2) p _ ho, hl, ha H2 (e.trans e2) _ fun H3 e3 => hk H3 ((e.trans e2).trans e3) _ fun H4 e4 => ⟨h1, h2, hs H4 (((e.trans e2).trans e3).trans e4) Q (fun H5 e5 => q H5 (((e2.trans e3).trans e4).trans e5)) E⟩⟩
theorem el_methN {n j : Nat} {gV : List V → List V → List V} {zs xs : List V} (h : Ev ta σ H (.ref p)) (ho : H p = some (.ins C dx fs)) (hl : fs.lookup m = none) (ha : EvA tA σ H vs) (hk : EvA tk σ H zs) (h1 : vs.length = n) (h2 : zs.length = j)
    (hs : SpL sp (gV (.ref p :: vs) zs) H xs) : EvL (tMethN C m n j sp gV E ta tA tk) σ H xs := fun H1 e Q q =>
  h H1 e _ fun H2 e2 => ⟨p, dx, fs, rfl, (e.trans e2) p _ ho, hl, ha H2 (e.trans e2) _ fun H3 e3 => hk H3 ((e.trans e2).trans e3) _ fun H4 e4 => ⟨h1, h2, hs H4 (((e.trans e2).trans e3).trans e4) Q (fun q' H5 n5 e5 h5 => q q' H5 (fresh_back ((e2.trans e3).trans e4) n5) (((e2.trans e3).trans e4).trans e5) h5) E⟩⟩
theorem evd_methL {xs : List V} {ds : List PyData} (h : EvL te σ H xs) (hd : ∀ H1, Ex H H1 → DpAll K H1 xs ds) : EvD K te σ H (.list ds) := evd_l h hd

/-- repr of data -/
theorem ev_repr {ds : List PyData} (h : EvD K ta σ H (.list ds)) (hs : PyData.showable (.list ds) = true) (hdp : PyData.depth (.list ds) ≤ 60) (hz : (PyData.shown (.list ds)).length ≤ sizeLine) : Ev (tCB (rRepr K) (tCons ta tNil)) σ H (.str (PyData.shown (.list ds))) := fun H1 e Q q =>
  h H1 e _ fun v H2 e2 hv => by
    cases hv with
    | lst h1 h2 => exact ⟨_, _, rfl, .lst h1 h2, hs, hdp, hz, q H2 e2⟩
variable {D : Ends} {tu tw tz : TS}
theorem s_asgD {i : Nat} (h : EvD K te σ H d) (k : ∀ v H1, Ex H H1 → Dp K H1 v d → D.nx (σ.set i (some v)) H1) : tAsg te (gName i) D σ H := h H (Ex.refl H) _ fun v H1 e hv => k v H1 e hv
theorem q_asgD {i : Nat} (h : EvD K te σ H d) (k : ∀ v H1, Ex H H1 → Dp K H1 v d → tz D (σ.set i (some v)) H1) : tSeq (tAsg te (gName i)) tz D σ H := s_asgD (D := { D with nx := tz D }) h k
theorem s_retD (h : EvD K te σ H d) (k : ∀ v H1, Ex H H1 → Dp K H1 v d → D.rt v H1) : tRet te D σ H := h H (Ex.refl H) _ k
end G
end
section
set_option maxHeartbeats 2000000
namespace G
open PySem L2 Evl
variable {K : PySem.W.Frag} {σ : L2.St} {H H' : Hp} {ta tb te tx : TE} {tt : TT} {x y z v : V} {p C dx : Addr} {tA tr tk : TA}

/-! ### calls of built-ins, by their answers -/
theorem rc_len {n : Nat} {ys : List V} (h : SqL K H p ys ∨ SqT K H p ys) (hn : ys.length = n) : RC (fun xs H Q => ∃ p ys, xs = [.ref p] ∧ (SqL K H p ys ∨ SqT K H p ys) ∧ Q (.int (ys.length : Int)) H) [.ref p] H (.int (n : Int)) := fun H1 e Q q =>
  ⟨p, ys, rfl, h.imp (ex_l e) (ex_t e), by rw [hn]; exact q H1 (Ex.refl _)⟩
theorem rc_abs {i : Int} : RC (fun xs H Q => ∃ i, xs = [.int i] ∧ Q (.int (if i < 0 then -i else i)) H) [.int i] H (.int (if i < 0 then -i else i)) := fun H1 e Q q => ⟨i, rfl, q H1 (Ex.refl _)⟩
theorem rc_max2 {i j : Int} : RC (fun xs H Q => ∃ i j, xs = [.int i, .int j] ∧ Q (.int (if j > i then j else i)) H) [.int i, .int j] H (.int (if j > i then j else i)) := fun H1 e Q q => ⟨i, j, rfl, q H1 (Ex.refl _)⟩
theorem rc_min2 {i j : Int} : RC (fun xs H Q => ∃ i j, xs = [.int i, .int j] ∧ Q (.int (if j < i then j else i)) H) [.int i, .int j] H (.int (if j < i then j else i)) := fun H1 e Q q => ⟨i, j, rfl, q H1 (Ex.refl _)⟩
theorem rc_int1 {i : Int} : RC (fun xs H Q => (∃ i, xs = [.int i] ∧ Q (.int i) H) ∨ ∃ k, xs = [.bl k] ∧ Q (.int (if k then 1 else 0)) H) [.int i] H (.int i) := fun H1 e Q q => .inl ⟨i, rfl, q H1 (Ex.refl _)⟩
theorem rc_sum {ns : List Int} (h : SqL K H p (ns.map V.int)) : RC (rSum K) [.ref p] H (.int ns.sum) := fun H1 e Q q => ⟨p, ns, rfl, ex_l e h, q H1 (Ex.refl _)⟩
theorem rc_all {bs : List Bool} (h : SqL K H p (bs.map V.bl)) : RC (rAll K) [.ref p] H (.bl (bs.all id)) := fun H1 e Q q => ⟨p, bs, rfl, ex_l e h, q H1 (Ex.refl _)⟩
theorem rc_max {ns : List Int} {m : Int} (h : SqL K H p (ns.map V.int)) (hm : m ∈ ns) (hle : ∀ y, y ∈ ns → y ≤ m) : RC (rMax K) [.ref p] H (.int m) := fun H1 e Q q =>
  ⟨p, ns, rfl, ex_l e h, List.length_pos_of_mem hm, fun k hk hkl => by
    have e1 : k = m := Int.le_antisymm (hle k hk) (hkl m hm)
    rw [e1]; exact q H1 (Ex.refl _)⟩
theorem rc_min {ns : List Int} {m : Int} (h : SqL K H p (ns.map V.int)) (hm : m ∈ ns) (hle : ∀ y, y ∈ ns → m ≤ y) : RC (rMin K) [.ref p] H (.int m) := fun H1 e Q q =>
  ⟨p, ns, rfl, ex_l e h, List.length_pos_of_mem hm, fun k hk hkl => by
    have e1 : k = m := Int.le_antisymm (hkl m hm) (hle k hk)
    rw [e1]; exact q H1 (Ex.refl _)⟩
theorem rc_gcd {a b : Int} : RC rGcd [.int a, .int b] H (.int ((Nat.gcd a.natAbs b.natAbs : Nat) : Int)) := fun H1 e Q q => ⟨a, b, rfl, q H1 (Ex.refl _)⟩
theorem rc_isi {c : V} {t u : Value} {b : Bool} (k : ClsV c u) (ty : ∀ H1, Ex H H1 → TyX K H1 x t) (hb : PySem.W.kitOne K t u = some b) : RC (rIsi K) [x, c] H (.bl b) := fun H1 e Q q => ⟨x, c, t, u, b, rfl, k, ty H1 e, hb, q H1 (Ex.refl _)⟩
theorem rc_list {xs : List V} (h : SqL K H p xs ∨ SqT K H p xs) : RCL (fun xs H Q => ∃ p ys, xs = [.ref p] ∧ (SqL K H p ys ∨ SqT K H p ys) ∧ ∀ l, H l = none → Q (.ref l) (upd H l (.lst ys))) [.ref p] H xs := fun H1 e Q q =>
  ⟨p, xs, rfl, h.imp (ex_l e) (ex_t e), fun l hl => q l _ hl (Ex.new hl) upd_same⟩
/-- a built-in asked of a list that is new -/
theorem ev_cbL {r : List V → Hp → VK → Prop} {xs : List V} (h : EvL ta σ H xs) (hr : ∀ p H1, Ex H H1 → H1 p = some (.lst xs) → RC r [.ref p] H1 z) : Ev (tCB r (tCons ta tNil)) σ H z := fun H1 e Q q =>
  h H1 e _ fun p H2 _ e2 h2 => hr p H2 (e.trans e2) h2 H2 (Ex.refl _) Q fun H3 e3 => q H3 (e2.trans e3)

theorem q_par {D : Ends} {tz : TS} {i j : Nat} {v w : V} (h : EvA tA σ H [v, w]) (k : ∀ H1, Ex H H1 → tz D ((σ.set i (some v)).set j (some w)) H1) : tSeq (tPar i j tA) tz D σ H := h H (Ex.refl H) _ fun H1 e => ⟨v, w, rfl, k H1 e⟩
theorem s_par {D : Ends} {i j : Nat} {v w : V} (h : EvA tA σ H [v, w]) (k : ∀ H1, Ex H H1 → D.nx ((σ.set i (some v)).set j (some w)) H1) : tPar i j tA D σ H := h H (Ex.refl H) _ fun H1 e => ⟨v, w, rfl, k H1 e⟩
theorem ev_allT {n : Nat} (h : EvL te σ H (given n (fun _ => true) (fun _ => V.bl true))) : Ev (tCB (rAll K) (tCons te tNil)) σ H (.bl true) := ev_cbL h fun p H1 e h1 => by
  have e1 : given n (fun _ => true) (fun _ => V.bl true) = (List.replicate n true).map V.bl := by
    unfold given
    rw [List.filter_eq_self.mpr (fun _ _ => rfl)]
    apply List.ext_getElem <;> simp
  have := rc_all (K := K) (H := H1) (p := p) (bs := List.replicate n true) (sq_of (by rw [← e1]; exact h1))
  have e2 : (List.replicate n true).all id = true := by simp
  rw [e2] at this
  exact this
theorem ev_chain {tc : TE} {r r' : R2} {w : V} (ha : Ev ta σ H x) (hb : Ev tb σ H y) (hr : RV r x y H (.bl true)) (hc : Ev tc σ H w) (hr' : RV r' y w H z) : Ev (tChain r r' ta tb tc) σ H z := fun H1 e Q q =>
  ha H1 e _ fun H2 e2 => hb H2 (e.trans e2) _ fun H3 e3 => hr H3 ((e.trans e2).trans e3) _ fun H4 e4 => ⟨true, rfl, by
    rw [if_pos rfl]
    exact hc H4 (((e.trans e2).trans e3).trans e4) _ fun H5 e5 => hr' H5 ((((e.trans e2).trans e3).trans e4).trans e5) Q fun H6 e6 => q H6 ((((e2.trans e3).trans e4).trans e5).trans e6)⟩
theorem el_lcT {a : Addr} {xs : List V} {tl : TE} {j : Nat} {vs : List Nat} (f : Nat → Bool) (v : Nat → V) (h : Ev tl σ H (.ref a)) (hx : SqT K H a xs) (hz : xs.length ≤ 40000) (hw : ∀ x, wipe ((wipe σ vs).set j (some x)) vs = wipe σ vs)
    (ht : ∀ (i : Nat) (x : V) H1, Ex H H1 → xs[i]? = some x → EvT tt ((wipe σ vs).set j (some x)) H1 (f i)) (he : ∀ (i : Nat) (x : V) H1, Ex H H1 → xs[i]? = some x → f i = true → Ev te ((wipe σ vs).set j (some x)) H1 (v i)) :
    EvL (tLc (iTup K tl) (gName j) tt te vs) σ H (given xs.length f v) := fun H0 e Q q => h H0 e _ fun H1 e1 => ⟨a, rfl, ⟨xs, ex_t (e.trans e1) hx⟩, fun Dl hD =>
  lc_tup (xs := xs) (Cw H1 f v Dl) ⟨hD, Ex.new hD, upd_same⟩ (fun i H' _ p => ex_t ((e.trans e1).trans p.2.1) hx) (fun i x H' hi p => ⟨hw x, cw_turn p (by have := (List.getElem?_eq_some_iff.mp hi).1; omega) (ht i x H1 (e.trans e1) hi) (fun hf => he i x H1 (e.trans e1) hi hf)⟩)
    (fun H' p => q Dl H' (fresh_back e1 p.1) (e1.trans p.2.1) p.2.2)⟩
theorem lc_yes : EvT tYes σ H true := fun H1 _ _ q => q H1 (Ex.refl _)
theorem rv_ixTn {xs : List V} {k : Int} (h : SqT K H p xs) (ha : atI xs k = some v) : RV (rIxT K) (.ref p) (.int k) H v := rv_ixT h ha
section
variable {X : Cx} {e : Expr} {f : Str} {pos : Pos}
theorem ixL (hK : X.K = K) : IxR X (rIxL K) := hK ▸ ix_list
theorem ixT (hK : X.K = K) : IxR X (rIxT K) := hK ▸ ix_tup
theorem lenS (hK : X.K = K) : CallR X (.builtin "len") (fun xs H Q => ∃ p ys, xs = [.ref p] ∧ (SqL K H p ys ∨ SqT K H p ys) ∧ Q (.int (ys.length : Int)) H) := hK ▸ call_len_seq
theorem pe_fldK (hK : X.K = K) (he : PE X e ta) (hb : attributeBase e f X.env (eval e X.env) = eval e X.env) : PE X (.Attribute e f pos) (tFld K ta f) := hK ▸ pe_fld he hb
theorem eqD (hK : X.K = K) (hu : X.A.units + 64 < cLine) : OpR X (compareOp .Eq) (rEqD K) := hK ▸ op_eqD hu
theorem neD (hK : X.K = K) (hu : X.A.units + 64 < cLine) : OpR X (compareOp .NotEq) (rNeD K) := hK ▸ op_neD hu
theorem maxL (hK : X.K = K) (hc : X.calm = true) : CallR X (.builtin "max") (rMax K) := hK ▸ cr_max hc
theorem minL (hK : X.K = K) (hc : X.calm = true) : CallR X (.builtin "min") (rMin K) := hK ▸ cr_min hc
theorem sumL (hK : X.K = K) (hc : X.calm = true) : CallR X (.builtin "sum") (rSum K) := hK ▸ cr_sum hc
theorem allL (hK : X.K = K) (hc : X.calm = true) : CallR X (.builtin "all") (rAll K) := hK ▸ cr_all hc
end
theorem eu_divmod {i j : Int} (ha : Ev ta σ H (.int i)) (hb : Ev tb σ H (.int j)) (h0 : 0 < j) (h1 : j < 1073741824) :
    EvU (tCB (fun xs H Q => ∃ i j, xs = [.int i, .int j] ∧ CDiv i j ∧ ∀ p, H p = none → Q (.ref p) (upd H p (.tup [.int (i / j), .int (i % j)]))) (tCons ta (tCons tb tNil))) σ H [.int (i / j), .int (i % j)] := fun H1 e Q q =>
  ha H1 e _ fun H2 e2 => hb H2 (e.trans e2) _ fun H3 e3 => ⟨i, j, rfl, ⟨h0, h1⟩, fun p hp => q p _ (fresh_back (e2.trans e3) hp) ((e2.trans e3).trans (Ex.new hp)) upd_same⟩
theorem q_asgT2 {D : Ends} {tz : TS} {i j : Nat} {v w : V} (h : EvU te σ H [v, w]) (k : ∀ H1, Ex H H1 → tz D ((σ.set i (some v)).set j (some w)) H1) : tSeq (tAsg te (gTup K 2 (gCons (gName i) (gCons (gName j) gNil)))) tz D σ H :=
  h H (Ex.refl H) _ fun u H1 _ e hu => ⟨u, [v, w], rfl, st_of hu, rfl, _, _, rfl, _, _, rfl, rfl, k H1 e⟩
theorem q_asgG {D : Ends} {tz : TS} {g : TG} {xs : List V} (h : EvU te σ H xs) (k : ∀ p H1, H p = none → Ex H H1 → H1 p = some (.tup xs) → g (.ref p) σ H1 fun σ' H' => tz D σ' H') : tSeq (tAsg te g) tz D σ H := h H (Ex.refl H) _ fun p H1 hp e h1 => k p H1 hp e h1
theorem rv_cat {i j : Str} (h : i.length + j.length ≤ sizeLine) : RV (fun x y H Q => ∃ i j, x = .str i ∧ y = .str j ∧ i.length + j.length ≤ sizeLine ∧ Q (.str (i ++ j)) H) (.str i) (.str j) H (.str (i ++ j)) := fun H1 _ Q q => ⟨i, j, rfl, rfl, h, q H1 (Ex.refl _)⟩
/-! ### comprehensions whose target is a pair -/
section
variable {D : Ends} {f : Nat → Bool} {g : Nat → V} {i j : Nat} {vs : List Nat}
/-- what evaluates to a new list of new pairs (number, item) -/
def EvR (te : TE) (σ : L2.St) (H : Hp) (xs : List V) : Prop := ∀ H1, Ex H H1 → ∀ Q : VK, (∀ (l : Addr) (ts : List Addr) (H2 : Hp), H1 l = none → Ex H1 H2 → H2 l = some (.lst (ts.map V.ref)) → ts.length = xs.length → (∀ (j : Nat) (T : Addr) (x : V), ts[j]? = some T → xs[j]? = some x → H2 T = some (.tup [.int (j : Int), x])) → Q (.ref l) H2) → te σ H1 Q
theorem evr_en {a : Addr} {xs : List V} (h : Ev ta σ H (.ref a)) (hs : SqL K H a xs) : EvR (tListEn K ta) σ H xs := fun H1 e Q q => h H1 e _ fun H2 e2 => ⟨a, xs, rfl, ex_l (e.trans e2) hs, fun l ts H3 hl e3 h3 hz ht => q l ts H3 (fresh_back e2 hl) (e2.trans e3) h3 hz ht⟩
def SpR (sp : Sp) (vs : List V) (H : Hp) (xs : List V) : Prop := ∀ H1, Ex H H1 → ∀ Q : VK, (∀ (l : Addr) (ts : List Addr) (H2 : Hp), H1 l = none → Ex H1 H2 → H2 l = some (.lst (ts.map V.ref)) → ts.length = xs.length → (∀ (j : Nat) (T : Addr) (x : V), ts[j]? = some T → xs[j]? = some x → H2 T = some (.tup [.int (j : Int), x])) → Q (.ref l) H2) → ∀ E : XK, sp vs H1 Q E
theorem evr_meth {m : Str} {sp : Sp} {dvs ws : List V} {E : XK} {fs : List (Str × V)} {xs : List V} (h : Ev ta σ H (.ref p)) (ho : H p = some (.ins C dx fs)) (hl : fs.lookup m = none) (ha : EvA tA σ H ws) (hs : SpR sp (.ref p :: (ws ++ dvs)) H xs) : EvR (tMeth C m sp dvs E ta tA) σ H xs := fun H1 e Q q =>
  h H1 e _ fun H2 e2 => ⟨p, dx, fs, rfl, (e.trans e2) p _ ho, hl, ha H2 (e.trans e2) _ fun H3 e3 => hs H3 ((e.trans e2).trans e3) Q (fun l ts H4 n4 e4 h4 hz ht => q l ts H4 (fresh_back (e2.trans e3) n4) ((e2.trans e3).trans e4) h4 hz ht) E⟩
theorem evd_r {ns : List Int} (h : EvR te σ H (ns.map V.int)) : EvD K te σ H (.list (ns.mapIdx fun j n => .tuple [.int (j : Int), .int n])) := fun H1 e Q q => h H1 e _ fun l ts H2 _ e2 h2 hz ht => by
  refine q _ H2 e2 (.lst (sq_of h2) ?_)
  have key : ∀ (k : Nat) (us : List Addr) (ms : List Int), us.length = ms.length → (∀ (j : Nat) (T : Addr) (n : Int), us[j]? = some T → ms[j]? = some n → H2 T = some (.tup [.int ((k + j : Nat) : Int), .int n])) →
      DpAll K H2 (us.map V.ref) (ms.mapIdx fun j n => .tuple [.int ((k + j : Nat) : Int), .int n]) := by
    intro k us
    induction us generalizing k with
    | nil =>
      intro ms hl _
      cases ms with
      | nil => exact .nil
      | cons m ms => simp at hl
    | cons u us ih =>
      intro ms hl hh
      cases ms with
      | nil => simp at hl
      | cons m ms =>
        rw [List.mapIdx_cons]
        refine .cons (.tup (st_of (hh 0 u m rfl rfl)) (.cons (.int _) (.cons (.int _) .nil))) ?_
        have := ih (k + 1) ms (by simpa using hl) (fun j T n q1 q2 => by
          have := hh (j + 1) T n (by simpa using q1) (by simpa using q2)
          have e1 : k + 1 + j = k + (j + 1) := by omega
          rw [e1]; exact this)
        have e2 : (fun (j : Nat) (n : Int) => PyData.tuple [.int ((k + 1 + j : Nat) : Int), .int n]) = (fun (j : Nat) (n : Int) => PyData.tuple [.int ((k + (j + 1) : Nat) : Int), .int n]) := by
          funext j n
          have e1 : k + 1 + j = k + (j + 1) := by omega
          rw [e1]
        rw [e2] at this
        exact this
  have := key 0 ts ns (by simpa using hz) (fun j T n q1 q2 => by
    have := ht j T (.int n) q1 (by simp [q2])
    rw [Nat.zero_add]; exact this)
  simpa using this
theorem cw_pair {a : Addr} {Dl : Addr} {n : Nat} {H1 Hc : Hp} {i0 : Nat} {k w : V} {σ2 : L2.St} (p : Cw H1 f g Dl i0 Hc) (hi : i0 < 50000) (ht : EvT tt σ2 H1 (f i0)) (he : f i0 = true → Ev te σ2 H1 (g i0)) :
    tt σ2 Hc fun b H3 => if b = true then te σ2 H3 fun y H4 => ∃ acc, H4 Dl = some (.lst acc) ∧ acc.length < sizeLine ∧ Cw H1 f g Dl (i0 + 1) (upd H4 Dl (.lst (acc ++ [y]))) else Cw H1 f g Dl (i0 + 1) H3 := cw_turn p hi ht he
/-- [e for a, b in rows if ..] -/
theorem el_lcR {tl : TE} {xs : List V} (f : Nat → Bool) (g : Nat → V) (h : EvR tl σ H xs) (hz : xs.length ≤ 40000) (hw : ∀ x y, wipe (((wipe σ vs).set i (some x)).set j (some y)) vs = wipe σ vs)
    (ht : ∀ (k : Nat) (x : V) H1, Ex H H1 → xs[k]? = some x → EvT tt (((wipe σ vs).set i (some (.int (k : Int)))).set j (some x)) H1 (f k))
    (he : ∀ (k : Nat) (x : V) H1, Ex H H1 → xs[k]? = some x → f k = true → Ev te (((wipe σ vs).set i (some (.int (k : Int)))).set j (some x)) H1 (g k)) :
    EvL (tLc (iList K tl) (gTup K 2 (gCons (gName i) (gCons (gName j) gNil))) tt te vs) σ H (given xs.length f g) := fun H0 e Q q => h H0 e _ fun a ts H1 ha e1 h1 hl htp => ⟨a, rfl, ⟨ts.map V.ref, sq_of h1⟩, fun Dl hD =>
  lc_list (xs := ts.map V.ref) (Cw H1 f g Dl) ⟨hD, Ex.new hD, upd_same⟩ (fun i0 H' _ p => sq_of (p.2.1 a _ h1)) (fun i0 x0 H' hi p => by
    have hlt : i0 < ts.length := by have := (List.getElem?_eq_some_iff.mp hi).1; simpa using this
    obtain ⟨T, hT⟩ : ∃ T, ts[i0]? = some T := ⟨ts[i0], List.getElem?_eq_getElem hlt⟩
    obtain ⟨w, hw'⟩ : ∃ w, xs[i0]? = some w := ⟨xs[i0]'(by omega), List.getElem?_eq_getElem (by omega)⟩
    have e0 : x0 = V.ref T := by rw [List.getElem?_map, hT] at hi; simpa using hi.symm
    subst e0
    refine ⟨T, [.int (i0 : Int), w], rfl, st_of (p.2.1 T _ (htp i0 T w hT hw')), rfl, _, _, rfl, _, _, rfl, rfl, ?_⟩
    exact ⟨hw _ _, cw_turn p (by omega) (ht i0 w H1 (e.trans e1) hw') (fun hf => he i0 w H1 (e.trans e1) hw' hf)⟩)
    (fun H' p => by
      have e9 : (ts.map V.ref).length = xs.length := by rw [List.length_map, hl]
      rw [e9] at p
      exact q Dl H' (fresh_back e1 p.1) (e1.trans p.2.1) p.2.2)⟩
/-- [e for k, x in enumerate(xs) if ..] -/
theorem el_lcE {a : Addr} {tl : TE} {xs : List V} (f : Nat → Bool) (g : Nat → V) (h : Ev tl σ H (.ref a)) (hs : SqL K H a xs) (hz : xs.length ≤ 40000) (hw : ∀ x y, wipe (((wipe σ vs).set i (some x)).set j (some y)) vs = wipe σ vs)
    (ht : ∀ (k : Nat) (x : V) H1, Ex H H1 → xs[k]? = some x → EvT tt (((wipe σ vs).set i (some (.int (k : Int)))).set j (some x)) H1 (f k))
    (he : ∀ (k : Nat) (x : V) H1, Ex H H1 → xs[k]? = some x → f k = true → Ev te (((wipe σ vs).set i (some (.int (k : Int)))).set j (some x)) H1 (g k)) :
    EvL (tLc (iEnum K (tCons tl tNil)) (gTup K 2 (gCons (gName i) (gCons (gName j) gNil))) tt te vs) σ H (given xs.length f g) := fun H0 e Q q => h H0 e _ fun H1 e1 => by
  have hs1 : SqL K H1 a xs := ex_l (e.trans e1) hs
  refine ⟨a, xs, rfl, hs1, fun Dl hD => ?_⟩
  refine ⟨fun i0 m H' => m = xs.length - i0 ∧ i0 ≤ xs.length ∧ Cw H1 f g Dl i0 H', ⟨xs.length, by simp, Nat.zero_le _, hD, Ex.new hD, upd_same⟩, ?_⟩
  rintro i0 m H' ⟨rfl, hi, pc⟩
  have hs2 : SqL K H' a xs := ex_l pc.2.1 hs1
  by_cases hlt : i0 < xs.length
  · refine .inr ⟨⟨xs, xs[i0], hs2, List.getElem?_eq_getElem hlt⟩, fun H'' => Cw H1 f g Dl (i0 + 1) H'', fun H'' p' => ⟨xs.length - (i0 + 1), by omega, rfl, hlt, p'⟩, fun x0 H'' y => ?_⟩
    obtain ⟨T, w, rfl, hT, rfl, hx⟩ := y
    have hw' := hx xs hs2
    refine ⟨T, [.int (i0 : Int), w], rfl, st_of upd_same, rfl, _, _, rfl, _, _, rfl, rfl, ?_⟩
    have pc2 : Cw H1 f g Dl i0 (upd H' T (.tup [.int (i0 : Int), w])) := ⟨pc.1, pc.2.1.trans (Ex.new hT), by rw [upd_ne (ne_of_none pc.2.2 hT)]; exact pc.2.2⟩
    exact ⟨hw _ _, cw_turn pc2 (by omega) (ht i0 w H1 (e.trans e1) hw') (fun hf => he i0 w H1 (e.trans e1) hw' hf)⟩
  · have e0 : i0 = xs.length := by omega
    subst e0
    exact .inl ⟨⟨xs, hs2, Nat.le_refl _⟩, q Dl H' (fresh_back e1 pc.1) (e1.trans pc.2.1) pc.2.2⟩
end
end G
end
section
set_option maxHeartbeats 2000000
namespace G
open PySem L2 Evl
/-! ### lists and tuples of pairs of numbers -/
abbrev Row := Int × Int
def rowV (r : Row) : List V := [.int r.1, .int r.2]
def RowsAt (H : Hp) (ts : List Addr) (rs : List Row) : Prop := ts.length = rs.length ∧ ∀ (j : Nat) (T : Addr) (r : Row), ts[j]? = some T → rs[j]? = some r → H T = some (.tup (rowV r))
def RowsL (H : Hp) (a : Addr) (rs : List Row) : Prop := ∃ ts : List Addr, H a = some (.lst (ts.map V.ref)) ∧ RowsAt H ts rs
def RowsU (H : Hp) (a : Addr) (rs : List Row) : Prop := ∃ ts : List Addr, H a = some (.tup (ts.map V.ref)) ∧ RowsAt H ts rs
variable {K : PySem.W.Frag} {σ : L2.St} {H H' : Hp} {ta tb te tl tx : TE} {tt : TT} {x y z v w : V} {p a q C dx : Addr} {tA tr tk : TA} {ts us : List Addr} {rs ss : List Row} {vs : List Nat} {i j : Nat} {Q : VK} {D : Ends} {tz : TS}
theorem RowsAt.mono (h : RowsAt H ts rs) (e : Ex H H') : RowsAt H' ts rs := ⟨h.1, fun j T r a b => e T _ (h.2 j T r a b)⟩
theorem RowsL.mono (h : RowsL H a rs) (e : Ex H H') : RowsL H' a rs := let ⟨ts, h1, h2⟩ := h; ⟨ts, e a _ h1, h2.mono e⟩
theorem RowsU.mono (h : RowsU H a rs) (e : Ex H H') : RowsU H' a rs := let ⟨ts, h1, h2⟩ := h; ⟨ts, e a _ h1, h2.mono e⟩
theorem RowsAt.nil : RowsAt H [] [] := ⟨rfl, fun j T r h => by simp at h⟩
theorem RowsAt.app (h : RowsAt H ts rs) (h2 : RowsAt H us ss) : RowsAt H (ts ++ us) (rs ++ ss) := by
  refine ⟨by rw [List.length_append, List.length_append, h.1, h2.1], fun j T r a b => ?_⟩
  by_cases hj : j < ts.length
  · rw [List.getElem?_append_left hj] at a
    rw [List.getElem?_append_left (by rw [← h.1]; exact hj)] at b
    exact h.2 j T r a b
  · rw [List.getElem?_append_right (by omega)] at a
    rw [List.getElem?_append_right (by rw [← h.1]; omega), ← h.1] at b
    exact h2.2 _ T r a b
theorem RowsAt.one {T : Addr} {r : Row} (h : H T = some (.tup (rowV r))) : RowsAt H [T] [r] := ⟨rfl, fun j U s a b => by
  cases j with
  | zero => simp at a b; subst a; subst b; exact h
  | succ j => simp at a⟩
theorem RowsAt.rev (h : RowsAt H ts rs) : RowsAt H ts.reverse rs.reverse := by
  refine ⟨by rw [List.length_reverse, List.length_reverse, h.1], fun j T r a b => ?_⟩
  have hj : j < ts.length := by have := (List.getElem?_eq_some_iff.mp a).1; simpa using this
  rw [List.getElem?_reverse hj] at a
  rw [List.getElem?_reverse (by rw [← h.1]; exact hj), ← h.1] at b
  exact h.2 _ T r a b
theorem RowsAt.rep {T : Addr} {r : Row} (n : Nat) (h : H T = some (.tup (rowV r))) : RowsAt H (List.replicate n T) (List.replicate n r) := ⟨by simp, fun j U s a b => by
  obtain ⟨_, rfl⟩ := List.mem_replicate.mp (List.mem_of_getElem? a)
  obtain ⟨_, rfl⟩ := List.mem_replicate.mp (List.mem_of_getElem? b)
  exact h⟩
theorem RowsAt.get (h : RowsAt H ts rs) {k : Nat} {y : V} (hy : (ts.map V.ref)[k]? = some y) : ∃ T r, y = .ref T ∧ rs[k]? = some r ∧ H T = some (.tup (rowV r)) := by
  rw [List.getElem?_map] at hy
  obtain ⟨T, hT, rfl⟩ := Option.map_eq_some_iff.mp hy
  have hk : k < rs.length := by rw [← h.1]; exact (List.getElem?_eq_some_iff.mp hT).1
  exact ⟨T, rs[k], rfl, List.getElem?_eq_getElem hk, h.2 k T _ hT (List.getElem?_eq_getElem hk)⟩
theorem RowsAt.at (h : RowsAt H ts rs) {k : Nat} {r : Row} (hr : rs[k]? = some r) : ∃ T, (ts.map V.ref)[k]? = some (.ref T) ∧ H T = some (.tup (rowV r)) := by
  have hk : k < ts.length := by rw [h.1]; exact (List.getElem?_eq_some_iff.mp hr).1
  exact ⟨ts[k], by rw [List.getElem?_map, List.getElem?_eq_getElem hk] <;> rfl, h.2 k _ r (List.getElem?_eq_getElem hk) hr⟩
theorem given_rows {f : Row → V} : given rs.length (fun _ => true) (fun k => f (rs.getD k (0, 0))) = rs.map f := by
  unfold given
  rw [List.filter_eq_self.mpr (fun _ _ => rfl)]
  apply List.ext_getElem
  · simp
  · intro k h1 h2
    have hk : k < rs.length := by simpa using h2
    simp [List.getD_eq_getElem?_getD, List.getElem?_eq_getElem hk]
theorem getD_row {k : Nat} {r : Row} (h : rs[k]? = some r) : rs.getD k (0, 0) = r := by rw [List.getD_eq_getElem?_getD, h] <;> rfl
/-- [e for row in rows] -/
theorem el_rowsL (f : Row → V) (h : Ev tl σ H (.ref a)) (hs : RowsL H a rs) (hz : rs.length ≤ 40000) (hw : ∀ x, wipe ((wipe σ vs).set j (some x)) vs = wipe σ vs)
    (he : ∀ (T : Addr) (r : Row) H1, Ex H H1 → r ∈ rs → H1 T = some (.tup (rowV r)) → Ev te ((wipe σ vs).set j (some (.ref T))) H1 (f r)) : EvL (tLc (iList K tl) (gName j) tYes te vs) σ H (rs.map f) := by
  obtain ⟨ts, h1, h2⟩ := hs
  have e0 : (ts.map V.ref).length = rs.length := by rw [List.length_map, h2.1]
  rw [← given_rows, ← e0]
  refine el_lcL (fun _ => true) (fun k => f (rs.getD k (0, 0))) h (sq_of h1) (by omega) hw (fun _ _ _ _ _ => lc_yes) (fun k y H1 e1 hk _ => ?_)
  obtain ⟨T, r, rfl, hr, hT⟩ := h2.get hk
  rw [getD_row hr]
  exact he T r H1 e1 (List.mem_of_getElem? hr) (e1 T _ hT)
theorem el_rowsU (f : Row → V) (h : Ev tl σ H (.ref a)) (hs : RowsU H a rs) (hz : rs.length ≤ 40000) (hw : ∀ x, wipe ((wipe σ vs).set j (some x)) vs = wipe σ vs)
    (he : ∀ (T : Addr) (r : Row) H1, Ex H H1 → r ∈ rs → H1 T = some (.tup (rowV r)) → Ev te ((wipe σ vs).set j (some (.ref T))) H1 (f r)) : EvL (tLc (iTup K tl) (gName j) tYes te vs) σ H (rs.map f) := by
  obtain ⟨ts, h1, h2⟩ := hs
  have e0 : (ts.map V.ref).length = rs.length := by rw [List.length_map, h2.1]
  rw [← given_rows, ← e0]
  refine el_lcT (fun _ => true) (fun k => f (rs.getD k (0, 0))) h (st_of h1) (by omega) hw (fun _ _ _ _ _ => lc_yes) (fun k y H1 e1 hk _ => ?_)
  obtain ⟨T, r, rfl, hr, hT⟩ := h2.get hk
  rw [getD_row hr]
  exact he T r H1 e1 (List.mem_of_getElem? hr) (e1 T _ hT)
/-- [e for a, b in rows] -/
theorem el_rows2L (f : Row → V) (h : Ev tl σ H (.ref a)) (hs : RowsL H a rs) (hz : rs.length ≤ 40000) (hw : ∀ x y, wipe (((wipe σ vs).set i (some x)).set j (some y)) vs = wipe σ vs)
    (he : ∀ (r : Row) H1, Ex H H1 → r ∈ rs → Ev te (((wipe σ vs).set i (some (.int r.1))).set j (some (.int r.2))) H1 (f r)) : EvL (tLc (iList K tl) (gTup K 2 (gCons (gName i) (gCons (gName j) gNil))) tYes te vs) σ H (rs.map f) := fun H0 e Q q => h H0 e _ fun H1 e1 => by
  obtain ⟨ts, h1, h2⟩ := hs
  have e0 : (ts.map V.ref).length = rs.length := by rw [List.length_map, h2.1]
  have hs1 := (e.trans e1) a _ h1
  have h21 := h2.mono (e.trans e1)
  refine ⟨a, rfl, ⟨_, sq_of hs1⟩, fun Dl hD => lc_list (xs := ts.map V.ref) (Cw H1 (fun _ => true) (fun k => f (rs.getD k (0, 0))) Dl) ⟨hD, Ex.new hD, upd_same⟩ (fun k H' _ p => sq_of (p.2.1 a _ hs1)) (fun k y H' hi p => ?_) (fun H' p => ?_)⟩
  · obtain ⟨T, r, rfl, hr, hT⟩ := h21.get hi
    have hk : k < rs.length := (List.getElem?_eq_some_iff.mp hr).1
    refine ⟨T, _, rfl, st_of (p.2.1 T _ hT), rfl, _, _, rfl, _, _, rfl, rfl, hw _ _, cw_turn p (by omega) lc_yes (fun _ => ?_)⟩
    rw [getD_row hr]
    exact he r H1 (e.trans e1) (List.mem_of_getElem? hr)
  · rw [e0] at p
    refine q Dl H' (fresh_back e1 p.1) (e1.trans p.2.1) ?_
    rw [p.2.2, given_rows]
theorem el_rows2U (f : Row → V) (h : Ev tl σ H (.ref a)) (hs : RowsU H a rs) (hz : rs.length ≤ 40000) (hw : ∀ x y, wipe (((wipe σ vs).set i (some x)).set j (some y)) vs = wipe σ vs)
    (he : ∀ (r : Row) H1, Ex H H1 → r ∈ rs → Ev te (((wipe σ vs).set i (some (.int r.1))).set j (some (.int r.2))) H1 (f r)) : EvL (tLc (iTup K tl) (gTup K 2 (gCons (gName i) (gCons (gName j) gNil))) tYes te vs) σ H (rs.map f) := fun H0 e Q q => h H0 e _ fun H1 e1 => by
  obtain ⟨ts, h1, h2⟩ := hs
  have e0 : (ts.map V.ref).length = rs.length := by rw [List.length_map, h2.1]
  have hs1 := (e.trans e1) a _ h1
  have h21 := h2.mono (e.trans e1)
  refine ⟨a, rfl, ⟨_, st_of hs1⟩, fun Dl hD => lc_tup (xs := ts.map V.ref) (Cw H1 (fun _ => true) (fun k => f (rs.getD k (0, 0))) Dl) ⟨hD, Ex.new hD, upd_same⟩ (fun k H' _ p => st_of (p.2.1 a _ hs1)) (fun k y H' hi p => ?_) (fun H' p => ?_)⟩
  · obtain ⟨T, r, rfl, hr, hT⟩ := h21.get hi
    have hk : k < rs.length := (List.getElem?_eq_some_iff.mp hr).1
    refine ⟨T, _, rfl, st_of (p.2.1 T _ hT), rfl, _, _, rfl, _, _, rfl, rfl, hw _ _, cw_turn p (by omega) lc_yes (fun _ => ?_)⟩
    rw [getD_row hr]
    exact he r H1 (e.trans e1) (List.mem_of_getElem? hr)
  · rw [e0] at p
    refine q Dl H' (fresh_back e1 p.1) (e1.trans p.2.1) ?_
    rw [p.2.2, given_rows]
/-- all(..) of such a list -/
theorem rc_allR {f : Row → Bool} (h : H p = some (.lst (rs.map fun r => V.bl (f r)))) : RC (rAll K) [.ref p] H (.bl (rs.all f)) := by
  have := rc_all (K := K) (H := H) (p := p) (bs := rs.map f) (sq_of (by rw [List.map_map]; exact h))
  have e2 : (rs.map f).all id = rs.all f := by rw [List.all_map]; rfl
  rw [e2] at this
  exact this

/-! ### what evaluates to a new list of pairs -/
def EvP (te : TE) (σ : L2.St) (H : Hp) (rs : List Row) : Prop := ∀ H1, Ex H H1 → ∀ Q : VK, (∀ p H2, H1 p = none → Ex H1 H2 → RowsL H2 p rs → Q (.ref p) H2) → te σ H1 Q
def SpP (sp : Sp) (vs : List V) (H : Hp) (rs : List Row) : Prop := ∀ H1, Ex H H1 → ∀ Q : VK, (∀ p H2, H1 p = none → Ex H1 H2 → RowsL H2 p rs → Q (.ref p) H2) → ∀ E : XK, sp vs H1 Q E
theorem q_asgP (h : EvP te σ H rs) (k : ∀ p H1, H p = none → Ex H H1 → RowsL H1 p rs → tz D (σ.set i (some (.ref p))) H1) : tSeq (tAsg te (gName i)) tz D σ H := h H (Ex.refl H) _ k
/-- a list whose elements are those of others -/
theorem evp_of {xs : List V} (h : EvL te σ H xs) (hx : ∀ H1, Ex H H1 → ∃ ts, xs = ts.map V.ref ∧ RowsAt H1 ts rs) : EvP te σ H rs := fun H1 e Q q => h H1 e Q fun p H2 hp e2 h2 => by
  obtain ⟨ts, rfl, hr⟩ := hx H2 (e.trans e2)
  exact q p H2 hp e2 ⟨ts, h2, hr⟩
/-- list(rows) -/
theorem evp_list (h : Ev ta σ H (.ref a)) (hs : RowsL H a rs) : EvP (tCB (fun xs H Q => ∃ p ys, xs = [.ref p] ∧ (SqL K H p ys ∨ SqT K H p ys) ∧ ∀ l, H l = none → Q (.ref l) (upd H l (.lst ys))) (tCons ta tNil)) σ H rs := by
  obtain ⟨ts, h1, h2⟩ := hs
  exact evp_of (el_cb (ea_cons h ea_nil) (rc_list (.inl (sq_of h1)))) fun H1 e => ⟨ts, rfl, h2.mono e⟩
/-- rows[::-1] -/
theorem evp_rev (h : Ev ta σ H (.ref a)) (hs : RowsL H a rs) : EvP (tRevL K ta) σ H rs.reverse := fun H1 e Q q => h H1 e _ fun H2 e2 => by
  obtain ⟨ts, h1, h2⟩ := hs
  refine ⟨a, _, rfl, sq_of ((e.trans e2) a _ h1), fun p hp => q p _ (fresh_back e2 hp) (e2.trans (Ex.new hp)) ⟨ts.reverse, by rw [upd_same, List.map_reverse], (h2.mono ((e.trans e2).trans (Ex.new hp))).rev⟩⟩
/-- rows + more -/
theorem evp_cat (ha : Ev ta σ H (.ref a)) (hb : Ev tb σ H (.ref q)) (hs : RowsL H a rs) (hr : RowsL H q ss) (hz : rs.length + ss.length ≤ 100000) : EvP (tOp rCat ta tb) σ H (rs ++ ss) := fun H1 e Q k => ha H1 e _ fun H2 e2 => hb H2 (e.trans e2) _ fun H3 e3 => by
  obtain ⟨ts, h1, h2⟩ := hs
  obtain ⟨us, g1, g2⟩ := hr
  have e03 := (e.trans e2).trans e3
  refine ⟨a, q, _, _, rfl, rfl, e03 a _ h1, e03 q _ g1, sz_of (by rw [List.length_map, List.length_map, h2.1, g2.1]; exact hz), fun p hp => k p _ (fresh_back (e2.trans e3) hp) ((e2.trans e3).trans (Ex.new hp)) ⟨ts ++ us, by rw [upd_same, List.map_append], ?_⟩⟩
  exact (h2.mono (e03.trans (Ex.new hp))).app (g2.mono (e03.trans (Ex.new hp)))
/-- [row] -/
theorem evp_one {r : Row} (h : Ev ta σ H (.ref q)) (hq : H q = some (.tup (rowV r))) : EvP (tLst (tCons ta tNil)) σ H [r] := evp_of (el_lst (ea_cons h ea_nil) (by show 1 ≤ 100000; decide)) fun H1 e => ⟨[q], rfl, .one (e q _ hq)⟩
theorem flat_rep {v : V} : ∀ n : Nat, (List.replicate n [v]).flatten = List.replicate n v
  | 0 => rfl
  | n + 1 => by rw [List.replicate_succ, List.replicate_succ, List.flatten_cons, List.singleton_append, flat_rep n]
/-- [row] * n -/
theorem evp_rep {r : Row} {n : Nat} (h : Ev ta σ H (.ref q)) (hq : H q = some (.tup (rowV r))) (hb : Ev tb σ H (.int (n : Int))) (hn : n ≤ 10000) : EvP (tOp rRep (tLst (tCons ta tNil)) tb) σ H (List.replicate n r) := fun H1 e Q k => by
  refine (el_lst (ea_cons h ea_nil) (by show 1 ≤ 100000; decide)) H1 e _ fun p H2 hp e2 h2 => ?_
  refine hb H2 (e.trans e2) _ fun H3 e3 => ?_
  refine ⟨p, (n : Int), [.ref q], rfl, rfl, e3 p _ h2, by omega, by omega, by rw [Int.toNat_natCast]; exact sz_of (by show 1 * n ≤ 100000; omega), fun u hu => ?_⟩
  refine k u _ (fresh_back (e2.trans e3) hu) ((e2.trans e3).trans (Ex.new hu)) ⟨List.replicate n q, ?_, .rep n (((e.trans e2).trans e3).trans (Ex.new hu) |> fun z => z q _ hq)⟩
  rw [upd_same, Int.toNat_natCast, List.map_replicate]
  rw [flat_rep]
/-- tuple(rows) -/
def EvPU (te : TE) (σ : L2.St) (H : Hp) (rs : List Row) : Prop := ∀ H1, Ex H H1 → ∀ Q : VK, (∀ p H2, H1 p = none → Ex H1 H2 → RowsU H2 p rs → Q (.ref p) H2) → te σ H1 Q
theorem evpu_tuple (h : Ev ta σ H (.ref a)) (hs : RowsL H a rs) : EvPU (tCB (fun xs H Q => ∃ p ys, xs = [.ref p] ∧ ((SqL K H p ys ∧ ∀ l, H l = none → Q (.ref l) (upd H l (.tup ys))) ∨ (SqT K H p ys ∧ Q (.ref p) H))) (tCons ta tNil)) σ H rs := fun H1 e Q q =>
  h H1 e _ fun H2 e2 => by
    obtain ⟨ts, h1, h2⟩ := hs
    exact ⟨a, _, rfl, .inl ⟨sq_of ((e.trans e2) a _ h1), fun l hl => q l _ (fresh_back e2 hl) (e2.trans (Ex.new hl)) ⟨ts, upd_same, h2.mono ((e.trans e2).trans (Ex.new hl))⟩⟩⟩
end G
end
section
set_option maxHeartbeats 2000000
namespace G
open PySem PySem.Spec PyProof.Rows L2 Evl
/-! ### == and != of two instances by the text's own == -/
section
variable {prog : Program} {w : World} {A : Around} {Er : Value → Shared → Prop} {s : Shared} {K : PySem.W.Frag} {x C f : Addr} {ox : Obj} {od : Option Obj} {b : Value}
theorem bound_ne {M : Model} {args : List Value} {Q : Option Value → Shared → Prop} (X : K.In s.heap) (I : PySem.W.InstAt s.heap x ox C od) (hs : PySem.W.findIn K (.ref C) "__ne__" = some (some (.builtin "object.__ne__")))
    (h : wpAny M A (call (.builtin "object.__ne__") (.ref x :: args)) (fun v => Q (some v)) Er s) : wpAny M A (callSpecialIfBound? (.ref x) "__ne__" args) Q Er s := by
  simp only [callSpecialIfBound?, bindSpecialIfBound?]
  refine wpAny_holding (wpAny_bind (wpAny_bind (wpAny_bind (I.type.here ((PySem.W.looks_findIn X hs).here ?_)))))
  refine wpAny_bind (wpAny_askSetting (wpAny_ite ?_))
  have fin : wpAny M A (call (.builtin "object.__ne__") ([.ref x] ++ args) >>= fun v => pure (some v)) Q Er s := wpAny_bind (wpAny_mono h (fun v s' q => wpAny_pure q) fun _ _ q => q)
  split
  · exact wpAny_bind (wpAny_of_eq (F.cmp_object.ne.bind _) (wpAny_pure (by exact fin)))
  · exact wpAny_tryCatch (wpAny_bind (wpAny_of_eq (F.cmp_object.ne.bind _) (wpAny_pure (by exact fin))))
theorem entry_ne {Q : Fin → Shared → Prop} (hu : A.units < cLine) (X : K.In s.heap) (I : PySem.W.InstAt s.heap x ox C od) (hs : PySem.W.findIn K (.ref C) "__eq__" = some (some (.ref f))) (hf : PySem.W.isFn K (.ref f) = true)
    (h : wpAny (model prog w) A (call (.ref f) [.ref x, b]) (fun v s' => ∃ c, v = .bool c ∧ Q (.done (.ret (.bool (!c)))) s') Er s) : wpAny (model prog w) A (Builtin.«object.__ne__» ⟨[.ref x, b], []⟩) Q Er s := by
  unfold Builtin.«object.__ne__»
  repeat (first
    | with_reducible refine wpAny_cRoomFor hu ?_
    | (refine wpAny_bind (m := callSpecialIfBound? (.ref x) (Str.ofString "__eq__") [b])
        (PySem.W.ifBound_K X I hs hf (wpAny_mono h (fun r s' hr => by
          obtain ⟨c, rfl, hq⟩ := hr
          repeat (first | exact hq | exact wpAny_pure hq | exact wpAny_truthy_bool hq | (refine wpAny_bind (m := truthy (.bool _)) (wpAny_truthy_bool ?_)) | wp_step)) fun _ _ e => e)))
    | wp_step)
theorem rich_ne {Q : Value → Shared → Prop} (hu : A.units + 1 < cLine) (X : K.In s.heap) (I : PySem.W.InstAt s.heap x ox C od) (hb : PySem.W.Looks (model prog w) s.heap (typeOf b) (.ref C))
    (hm : PySem.W.mroIn K C (.type "object") = some true) (hn : PySem.W.findIn K (.ref C) "__ne__" = some (some (.builtin "object.__ne__"))) (hs : PySem.W.findIn K (.ref C) "__eq__" = some (some (.ref f))) (hf : PySem.W.isFn K (.ref f) = true)
    (h : wpAny (model prog w) A.in1 (call (.ref f) [.ref x, b]) (fun v s' => ∃ c, v = .bool c ∧ Q (.bool (!c)) s') Er s) : wpAny (model prog w) A (richCompare .NotEq (.ref x) b) Q Er s := by
  have one : wpAny (model prog w) A (tryCompare (.ref x) "__ne__" b) (fun r s' => ∃ v, r = some v ∧ Q v s') Er s := by
    unfold tryCompare
    refine wpAny_bind (bound_ne X I hn (wpAny_call (codeAny_call_builtin F.cmp_object.ne.plain F.cmpEntry_ne (PySem.W.check_slot F.cmpKind_ne F.cmpSplit_ne (I.type.andThen (PySem.W.looks_mroIn X hm)) (F.cmpArgs_ne _ _)
      (entry_ne (A := A.in1) hu X I hs hf (wpAny_mono h (fun v s' hv => ?_) fun _ _ e => e))))))
    obtain ⟨c, rfl, hq⟩ := hv
    exact ⟨c, rfl, wpAny_pure ⟨_, rfl, hq⟩⟩
  unfold richCompare
  simp only [oneThing_ref, cmpInfo_NotEq]
  refine wpAny_holding (wpAny_bind (wpAny_cRoomFor (Nat.lt_of_succ_lt hu) ?_))
  refine wpAny_bind (I.type.here (wpAny_bind (hb.here ?_)))
  simp only [bne_self_eq_false, Bool.false_eq_true, if_false]
  refine wpAny_bind (wpAny_pure ?_)
  simp only [Bool.false_eq_true, if_false]
  refine wpAny_bind (wpAny_mono one (fun r s' z => ?_) fun _ _ e => e)
  obtain ⟨v, rfl, hq⟩ := z
  exact wpAny_pure hq
end
section
variable {X : Cx} {CX : CXT} {k : Nat} {f C : Addr} {fd : FuncData} {ps : List Str} {sp : Sp} {E : XK}
/-- x == y, x != y of two instances of the class at C, by its own == -/
def rEqO (C : Addr) (sp : Sp) (E : XK) : R2 := fun x y H Q => ∃ a b dx dy fs gs, x = .ref a ∧ y = .ref b ∧ H a = some (.ins C dx fs) ∧ H b = some (.ins C dy gs) ∧ sp [.ref a, .ref b] H (fun v H' => (∃ c, v = .bl c) ∧ Q v H') E
def rNeO (C : Addr) (sp : Sp) (E : XK) : R2 := fun x y H Q => ∃ a b dx dy fs gs, x = .ref a ∧ y = .ref b ∧ H a = some (.ins C dx fs) ∧ H b = some (.ins C dy gs) ∧ sp [.ref a, .ref b] H (fun v H' => ∃ c, v = .bl c ∧ Q (.bl (!c)) H') E
theorem call_eqO {A : Around} {pins : List (Addr × Obj)} {s : Shared} {σ : L2.St} {H : Hp} {a b : Addr} {Q : VK} (F : FnOk X.prog X.w X.K X.mg X.base CX k f fd ps sp) (hb : Binds X.K fd ps []) (hx : Passes CX X E) (hr : Room k A) (hfr : A.frames = X.A.frames) (I : Inv X pins σ H s)
    (h : sp [.ref a, .ref b] H Q E) : wpAny (model X.prog X.w) A (call (.ref f) [.ref a, .ref b]) (EP X pins σ Q) X.xe s := by
  have r2 : Vals [V.ref a, V.ref b] [Value.ref a, Value.ref b] := .cons rfl (.cons rfl .nil)
  have hl := F.len _ _ _ _ h
  have e0 : Env0 X.prog X.w X.K X.mg X.base A X.stack s H := { I.env0 with frames := hfr.trans I.env0.frames }
  refine wpAny_call (codeAny_mono (F.run A X.stack s H ⟨[.ref a, .ref b], []⟩ [.ref a, .ref b] [.ref a, .ref b] Q E hr e0 (by simpa using hb s [.ref a, .ref b] I.kIn (by simpa using hl)) r2 h) fun r s' hq => ?_)
  match r, hq with
  | .error e, hq => exact hx pins σ H s e s' I hq
  | .ok (.ret u), hq => exact I.after hq
  | .ok .next, hq => exact hq.elim
  | .ok .brk, hq => exact hq.elim
  | .ok .cont, hq => exact hq.elim
theorem op_eqO (F : FnOk X.prog X.w X.K X.mg X.base CX k f fd ps sp) (hs : PySem.W.findIn X.K (.ref C) "__eq__" = some (some (.ref f))) (hf : PySem.W.isFn X.K (.ref f) = true) (hb : Binds X.K fd ps []) (hx : Passes CX X E) (hr : Room k X.A) :
    OpR X (compareOp .Eq) (rEqO C sp E) := by
  intro pins s σ H x y u v Q I rx ry h
  obtain ⟨a, b, dx, dy, fs, gs, rfl, rfl, ha, hb', h⟩ := h
  cases rx
  cases ry
  obtain ⟨mA, J, _⟩ := ins_get I.hok ha
  obtain ⟨mB, J', _⟩ := ins_get I.hok hb'
  obtain ⟨od, J, _⟩ := J.look
  obtain ⟨od', J', _⟩ := J'.look
  obtain ⟨m, hF⟩ := I.fr
  refine PySem.W.cmp_ofEq (PySem.W.cmp_K (op := .Eq) (tb := .ref C) hr.units0 hF I.ok.mod.kin J J'.type (by simp [PySem.W.notFirst]) hs hf ?_)
  refine wpAny_mono (call_eqO F hb hx hr rfl I h) (fun w s' hq => ?_) fun _ _ q => q
  obtain ⟨z, H', I', rz, ⟨c, rfl⟩, q⟩ := hq
  cases rz
  exact ⟨.bl c, H', I', rfl, q⟩
theorem op_neO (F : FnOk X.prog X.w X.K X.mg X.base CX k f fd ps sp) (hm : PySem.W.mroIn X.K C (.type "object") = some true) (hn : PySem.W.findIn X.K (.ref C) "__ne__" = some (some (.builtin "object.__ne__"))) (hs : PySem.W.findIn X.K (.ref C) "__eq__" = some (some (.ref f)))
    (hf : PySem.W.isFn X.K (.ref f) = true) (hb : Binds X.K fd ps []) (hx : Passes CX X E) (hr : Room (k + 1) X.A) : OpR X (compareOp .NotEq) (rNeO C sp E) := by
  intro pins s σ H x y u v Q I rx ry h
  obtain ⟨a, b, dx, dy, fs, gs, rfl, rfl, ha, hb', h⟩ := h
  cases rx
  cases ry
  obtain ⟨mA, J, _⟩ := ins_get I.hok ha
  obtain ⟨mB, J', _⟩ := ins_get I.hok hb'
  obtain ⟨od, J, _⟩ := J.look
  obtain ⟨od', J', _⟩ := J'.look
  have hu := hr.units
  refine PySem.W.cmp_ofNotEq (rich_ne (by omega) I.kIn J J'.type hm hn hs hf ?_)
  refine wpAny_mono (call_eqO (A := X.A.in1) F hb hx hr.in1 rfl I h) (fun w s' hq => ?_) fun _ _ q => q
  obtain ⟨z, H', I', rz, c, rfl, q⟩ := hq
  cases rz
  exact ⟨c, rfl, .bl (!c), H', I', rfl, q⟩
end
end G
end
section
set_option maxHeartbeats 2000000
namespace G
open PySem PySem.Spec PyProof.Rows L2 Evl
section
variable {X : Cx} {CX : CXT} {k j : Nat} {f : Addr} {fd : FuncData} {ps ks : List Str} {sp : Sp} {E : XK} {x : Str} {p pos : Pos} {kws : List Keyword} {tk : TA} {g : List Value → List Value → List Value} {gV : List V → List V → List V}
/-- f(k = v, ..) -/
def tCallN0 (j : Nat) (sp : Sp) (gV : List V → List V → List V) (E : XK) (tk : TA) : TE := fun σ H Q => tk σ H fun zs H1 => zs.length = j ∧ sp (gV [] zs) H1 Q E
theorem pe_callN0 (F : FnOk X.prog X.w X.K X.mg X.base CX k f fd ps sp) (hr : Room k X.A) (hg : Gl X x) (hm : X.mg x = some (.ref f)) (hk : PySem.W.keepIn X.K (.ref f) = true) (hb : KBn X.K fd ps 0 ks g gV) (hx : Passes CX X E) (hkw : PK X kws tk)
    (hall : (backToKw pos (keywordEach kws X.env)).all (·.1.isSome) = true := by rfl) (hks : (backToKw pos (keywordEach kws X.env)).filterMap (·.1) = ks := by rfl) (hdb : (x == ("__debug__" : Str)) = false := by decide)
    (hpl : ((backTo pos (starEach [] X.env)).any (·.1) || (backToKw pos (keywordEach kws X.env)).any (·.1.isNone)) = false := by rfl) : PE X (.Call (.Name x p) [] kws pos) (tCallN0 ks.length sp gV E tk) := by
  refine ⟨fun pins s σ H Q I h => wpAny_Call_Name_kw (ld_glob I hg hm ?_ hdb)⟩
  refine PySem.W.callWith_KW0 (first := []) (h₀ := X.base) I.ok.mod.kin hk hall ?_ hpl
  refine thn (hkw.run pos pins s σ H _ I h) fun ws s1 ⟨zs, H1, I1, rz, l1, q1⟩ => ⟨I1.kIn, ?_⟩
  rw [hks]
  exact run_fnN (us := []) (vs := []) F hr hb hx I1 .nil rz rfl l1 q1
end
section
variable {X : Cx} {K : PySem.W.Frag} {tg e : Expr} {te : TE}
theorem piL (hK : X.K = K) (h : PE X e te) : PI X tg e (iList K te) := hK ▸ pi_list h
theorem piT (hK : X.K = K) (h : PE X e te) : PI X tg e (iTup K te) := hK ▸ pi_tup h
end
/-- lcm(a, b) -/
def rLcm : List V → Hp → VK → Prop := fun vs H Q => ∃ a b : Int, vs = [.int a, .int b] ∧ a.natAbs < 18446744073709551616 ∧ b.natAbs < 18446744073709551616 ∧ Q (.int ((Nat.lcm a.natAbs b.natAbs : Nat) : Int)) H
theorem cr_lcm {X : Cx} : CallR X (.builtin "math.lcm") rLcm := by
  intro pins s σ H vs us Q I r h
  obtain ⟨a, b, rfl, ha, hb, q⟩ := h
  obtain ⟨t, u, rfl⟩ := Vals.int2 r
  exact PySem.W.mc_lcm ha hb fun _ => ⟨.int _, H, I.tok _, ⟨_, rfl⟩, q⟩
variable {K : PySem.W.Frag} {σ : L2.St} {H H' : Hp} {ta tb te tl tx tc : TE} {tt : TT} {x y z v w : V} {p a q C dx : Addr} {tA tr tk : TA} {rs ss : List Row} {vs : List Nat} {i j : Nat} {Q : VK} {E : XK} {D : Ends} {tz : TS} {d : PyData} {ds : List PyData} {sp : Sp} {ws zs : List V} {gV : List V → List V → List V} {xs : List V}
theorem rc_lcm {a b : Int} (ha : a.natAbs < 18446744073709551616) (hb : b.natAbs < 18446744073709551616) : RC rLcm [.int a, .int b] H (.int ((Nat.lcm a.natAbs b.natAbs : Nat) : Int)) := fun H1 e Q q => ⟨a, b, rfl, ha, hb, q H1 (Ex.refl _)⟩
theorem ev_callN0 {n : Nat} (h : EvA tk σ H zs) (hn : zs.length = n) (hs : SpV sp (gV [] zs) H z) : Ev (tCallN0 n sp gV E tk) σ H z := fun H1 e Q q => h H1 e _ fun H2 e2 => ⟨hn, hs H2 (e.trans e2) Q (fun H3 e3 => q H3 (e2.trans e3)) E⟩
theorem rv_isN : RV (fun x y H Q => y = .non ∧ Q (.bl (decide (x = .non))) H) x .non H (.bl (decide (x = .non))) := fun H1 _ Q q => ⟨rfl, q H1 (Ex.refl _)⟩
theorem rv_notN : RV (fun x y H Q => y = .non ∧ Q (.bl (!decide (x = .non))) H) x .non H (.bl (!decide (x = .non))) := fun H1 _ Q q => ⟨rfl, q H1 (Ex.refl _)⟩
/-! ### a new instance, as a value -/
/-- what evaluates to an instance of the class at C of which M tells -/
def EvM (te : TE) (σ : L2.St) (H : Hp) (M : Hp → Addr → Prop) : Prop := ∀ H1, Ex H H1 → ∀ Q : VK, (∀ p H2, H1 p = none → Ex H1 H2 → M H2 p → Q (.ref p) H2) → te σ H1 Q
def SpM (sp : Sp) (vs : List V) (H : Hp) (M : Hp → Addr → Prop) : Prop := ∀ H1, Ex H H1 → ∀ Q : VK, (∀ p H2, H1 p = none → Ex H1 H2 → M H2 p → Q (.ref p) H2) → ∀ E : XK, sp vs H1 Q E
theorem q_asgM {M : Hp → Addr → Prop} (h : EvM te σ H M) (k : ∀ p H1, H p = none → Ex H H1 → M H1 p → tz D (σ.set i (some (.ref p))) H1) : tSeq (tAsg te (gName i)) tz D σ H := h H (Ex.refl H) _ k
theorem evm_call {dvs : List V} {M : Hp → Addr → Prop} (ha : EvA tA σ H ws) (hs : SpM sp (ws ++ dvs) H M) : EvM (tCall sp dvs E tA) σ H M := fun H1 e Q q =>
  ha H1 e _ fun H2 e2 => hs H2 (e.trans e2) Q (fun p H3 n3 e3 h3 => q p H3 (fresh_back e2 n3) (e2.trans e3) h3) E
theorem evm_callN0 {n : Nat} {M : Hp → Addr → Prop} (h : EvA tk σ H zs) (hn : zs.length = n) (hs : SpM sp (gV [] zs) H M) : EvM (tCallN0 n sp gV E tk) σ H M := fun H1 e Q q =>
  h H1 e _ fun H2 e2 => ⟨hn, hs H2 (e.trans e2) Q (fun p H3 n3 e3 h3 => q p H3 (fresh_back e2 n3) (e2.trans e3) h3) E⟩
/-! ### data, once more -/
theorem evd_callA {dvs : List V} (h : tA σ H fun ws H1 => Ex H H1 ∧ SpD K sp (ws ++ dvs) H1 d) (hm : ∀ {Q1 Q2 : List V → Hp → Prop}, (∀ x H1, Q1 x H1 → Q2 x H1) → tA σ H Q1 → tA σ H Q2) (k : ∀ v H2, Ex H H2 → Dp K H2 v d → Q v H2) : tCall sp dvs E tA σ H Q :=
  hm (fun ws H1 h => h.2 H1 (Ex.refl _) Q (fun v H2 e2 hv => k v H2 (h.1.trans e2) hv) E) h
def dRow (r : Row) : PyData := .tuple [.int r.1, .int r.2]
def dRows (rs : List Row) : PyData := .list (rs.map dRow)
theorem dp_rowsAt {ts : List Addr} (h : RowsAt H ts rs) : DpAll K H (ts.map V.ref) (rs.map dRow) := by
  obtain ⟨hl, ht⟩ := h
  induction ts generalizing rs with
  | nil =>
    cases rs with
    | nil => exact .nil
    | cons r rs => simp at hl
  | cons T ts ih =>
    cases rs with
    | nil => simp at hl
    | cons r rs =>
      exact .cons (.tup (st_of (ht 0 T r rfl rfl)) (.cons (.int _) (.cons (.int _) .nil))) (ih (by simpa using hl) fun j U s a b => ht (j + 1) U s (by simpa using a) (by simpa using b))
theorem dp_rowsL (h : RowsL H a rs) : Dp K H (.ref a) (dRows rs) := let ⟨ts, h1, h2⟩ := h; .lst (sq_of h1) (dp_rowsAt h2)
theorem dp_rowsU (h : RowsU H a rs) : Dp K H (.ref a) (.tuple (rs.map dRow)) := let ⟨ts, h1, h2⟩ := h; .tup (st_of h1) (dp_rowsAt h2)
theorem evd_eqD {d e : PyData} (ha : EvD K ta σ H d) (hb : EvD K tb σ H e) (h1 : SeqAt.shaped d = true) (h2 : SeqAt.shaped e = true) : Ev (tOp (rEqD K) ta tb) σ H (.bl (PyData.eqv d e)) := fun H1 e1 Q q =>
  ha H1 e1 _ fun v H2 e2 hv => hb H2 (e1.trans e2) _ fun u H3 e3 hu => ⟨_, _, dp_mono e3 hv, hu, h1, h2, q H3 (e2.trans e3)⟩
theorem evd_neD {d e : PyData} (ha : EvD K ta σ H d) (hb : EvD K tb σ H e) (h1 : SeqAt.shaped d = true) (h2 : SeqAt.shaped e = true) : Ev (tOp (rNeD K) ta tb) σ H (.bl (!PyData.eqv d e)) := fun H1 e1 Q q =>
  ha H1 e1 _ fun v H2 e2 hv => hb H2 (e1.trans e2) _ fun u H3 e3 hu => ⟨_, _, dp_mono e3 hv, hu, h1, h2, q H3 (e2.trans e3)⟩
end G
end
section
set_option maxHeartbeats 4000000
/-! own errors over any built-in one -/
namespace G
open PySem PySem.W PySem.Calls PyProof.Rows PySem.HandSPX PySem.OEX
section
open Builtin Builtin.ObjectAttr
structure Tail (tl : List Value) : Prop where
  pass : ∀ self, refuseLoop self "__setattr__" tl = pure ()
  ne : tl.isEmpty = false
  ob : tl.contains (.type "object") = true
theorem tail_arith : Tail [.type "ArithmeticError", .type "Exception", .type "BaseException", .type "object"] := ⟨fun self => by kernel_rfl, rfl, by decide +kernel⟩
theorem tail_lookup : Tail [.type "LookupError", .type "Exception", .type "BaseException", .type "object"] := ⟨fun self => by kernel_rfl, rfl, by decide +kernel⟩
theorem tail_value : Tail [.type "ValueError", .type "Exception", .type "BaseException", .type "object"] := ⟨fun self => by kernel_rfl, rfl, by decide +kernel⟩
def Over (tl bm : List Value) : Prop := ∃ cs : List Addr, bm = cs.map Value.ref ++ tl
theorem Over.cons {tl bm : List Value} (h : Over tl bm) (C : Addr) : Over tl (.ref C :: bm) := let ⟨cs, e⟩ := h; ⟨C :: cs, by rw [e]; rfl⟩
theorem Over.pass {tl bm : List Value} (T : Tail tl) (h : Over tl bm) (self : Value) : refuseLoop self "__setattr__" bm = pure () := by
  obtain ⟨cs, rfl⟩ := h
  induction cs with
  | nil => exact T.pass self
  | cons c cs ih => rw [List.map_cons, List.cons_append, refuseLoop_ref]; exact ih
theorem Over.has {tl bm : List Value} (h : Over tl bm) (X : String) : bm.contains (.type X) = tl.contains (.type X) := by
  obtain ⟨cs, rfl⟩ := h
  induction cs with
  | nil => rfl
  | cons c cs ih => rw [List.map_cons, List.cons_append, List.contains_cons, ih]; rfl
theorem Over.ne {tl bm : List Value} (T : Tail tl) (h : Over tl bm) : bm.isEmpty = false := by
  obtain ⟨cs, rfl⟩ := h
  cases cs with
  | nil => exact T.ne
  | cons c cs => rfl
variable {prog : Program} {w : World} {A : Around} {R : Result → Shared → Prop} {hp : Heap} {g : Array GenState} {d : Drawn} {t : Nat} {os : OsState} {K : Frag} {name : Str} {tk : Tok} {v : Value} {x C dx : Addr} {fv : Array Value} {cd : ClassData} {m0 : Str → Option Value} {nl : List Str} {tl : List Value} {od : Option Addr} {oo : Option Obj}
/-- what comes ahead of the store itself -/
theorem osa_way (T : Tail tl) (X : K.In hp) (I : InstAt hp x { cls := .ref C, dict := od, data := .fields fv } C oo) (hcd : clsIn K C = some cd) (hm : Over tl cd.mro) (ha : findIn K (.ref C) name = some none)
    (h : wpAny (model prog w) A.in1 (storeInOwnDict (.ref x) (.ref C) (.str name tk) name v false) (fun fin s' => match fin with
      | .done f => R (.ok f) s'
      | .again c' => c'.quiet = true ∧ codeAny (model prog w) A c' R s') (fun e s' => R (.error e) s') ⟨hp, g, d, t, os⟩) :
    codeAny (model prog w) A (.call (.builtin "object.__setattr__") ⟨[.ref x, .str name tk, v], []⟩) R ⟨hp, g, d, t, os⟩ := by
  have SF := F.store_object
  have hob : cd.mro.contains (.type "object") = true := (hm.has "object").trans T.ob
  have sub : Looks (model prog w) hp (isInstance (.ref x) (.type "object")) true := I.type.andThen (looks_mroIn X (by unfold mroIn; rw [hcd, Option.bind_some, if_neg (by rw [hm.ne T]; decide), hob]))
  refine codeAny_call_builtin SF.slot.plain SF.entry (@check_slot (model prog w) _ _ ⟨hp, g, d, t, os⟩ "object.__setattr__" "object" "__setattr__" (.ref x) [.str name tk, v] [] _ SF.kind SF.split sub (SF.args (.ref x) (.str name tk) v) ?_)
  have hmr : Looks (model prog w) hp (mroOf (.ref C)) cd.mro := (looks_clsIn X hcd).andThen .now
  rw [osa_eq, refuse_eq]
  refine wpAny_bind (wpAny_bind (I.type.at (wpAny_bind (hmr.at ?_))))
  rw [hm.pass T]
  exact wpAny_pure (wpAny_bind (I.type.at (wpAny_bind ((looks_findIn X ha).at (wpAny_bind ((Looks.now : Looks (model prog w) hp (storeTaker? none) none).at h))))))
/-- x.name = v, x an error of the class at C that has no dict as yet -/
theorem osa_first (T : Tail tl) (X : K.In hp) (hx : hp.get? x = some { cls := .ref C, data := .fields fv }) (hcd : clsIn K C = some cd) (hm : Over tl cd.mro) (hh : cd.hasDict = true) (ha : findIn K (.ref C) name = some none)
    (hq : ∀ h' tk' dx, (∀ b o, b ≠ x → hp.get? b = some o → h'.get? b = some o) → hp.objs.size ≤ dx → dx ≠ x → h'.get? x = some { cls := .ref C, dict := some dx, data := .fields fv } →
      h'.Ns1 dx (fun y => if y = name then some v else none) → R (.ok (.ret .none)) ⟨h', g, d, tk', os⟩) :
    codeAny (model prog w) A (.call (.builtin "object.__setattr__") ⟨[.ref x, .str name tk, v], []⟩) R ⟨hp, g, d, t, os⟩ := by
  refine osa_way (od := none) (oo := none) T X ⟨hx, rfl, rfl, trivial⟩ hcd hm ha ?_
  have hxs : x ≠ hp.objs.size := Nat.ne_of_lt (Heap.lt_size hx)
  have hcls := looks_clsIn (M := model prog w) X hcd
  obtain ⟨nm, bs, mro, ns, qn, hd, sn, sb, ab, col, del⟩ := cd
  dsimp only at hh
  subst hh
  unfold storeInOwnDict ownDictForStores
  repeat (first | with_reducible refine store_in_new ?_ ?_ | with_reducible refine wpAny_loadPart_at hx ?_ | with_reducible refine hcls.at ?_ | wp_step)
  · exact ⟨_, #[], _, (Heap.get?_update_ne _ _ _ _ hxs.symm).trans (Heap.get?_push_at rfl rfl), rfl, fun e he => absurd he (by simp), fun _ => rfl⟩
  · intro h' tk' hn' hs
    refine hq h' tk' hp.objs.size (fun b o hb ho => ?_) (Nat.le_refl _) hxs.symm ?_ hn'
    · exact (hs.2 b (Nat.ne_of_lt (Heap.lt_size ho))).trans ((Heap.get?_update_ne _ _ _ _ hb).trans (Heap.get?_push_of_some _ ho))
    · exact (hs.2 x hxs).trans (Heap.get?_update_self _ (Heap.get?_push_of_some _ hx) rfl)
/-- .. that has one -/
theorem osa_more (T : Tail tl) (X : K.In hp) (hx : hp.get? x = some { cls := .ref C, dict := some dx, data := .fields fv }) (hns : hp.Ns1 dx m0) (hw : Within m0 nl) (hz : nl.length ≤ 1000) (hcd : clsIn K C = some cd) (hm : Over tl cd.mro) (hh : cd.hasDict = true) (ha : findIn K (.ref C) name = some none)
    (hq : ∀ h' tk', (∀ b o, b ≠ dx → hp.get? b = some o → h'.get? b = some o) → h'.Ns1 dx (fun y => if y = name then some v else m0 y) → R (.ok (.ret .none)) ⟨h', g, d, tk', os⟩) :
    codeAny (model prog w) A (.call (.builtin "object.__setattr__") ⟨[.ref x, .str name tk, v], []⟩) R ⟨hp, g, d, t, os⟩ := by
  obtain ⟨oD, esD, epD, hoD, hdD, _⟩ := hns.count hw
  refine osa_way (od := some dx) (oo := some oD) T X ⟨hx, rfl, rfl, hoD⟩ hcd hm ha ?_
  have hcls := looks_clsIn (M := model prog w) X hcd
  obtain ⟨nm, bs, mro, ns, qn, hd, sn, sb, ab, col, del⟩ := cd
  dsimp only at hh
  subst hh
  unfold storeInOwnDict ownDictForStores
  repeat (first | with_reducible refine store_in_old hns hw hz ?_ | with_reducible refine wpAny_loadPart_at hx ?_ | with_reducible refine hcls.at ?_ | wp_step)
  intro h' tk' hn' hs
  exact hq h' tk' (fun b o hb ho => (hs.2 b hb).trans ho) hn'
end
end G
namespace G
open PySem PySem.Spec PyProof.Rows L2 Evl
/-- an own error's class, over the built-in error B -/
structure Own (K : PySem.W.Frag) (B newId initId : String) (tl : List Value) (C : Addr) : Prop where
  base : ExcBaseFacts B newId initId tl
  tail : Tail tl
  cls : ∃ nm q N bs bm sn sub ab col dd k0 k1 k2 k3 k5, K.lookup C = some (excClassObj nm q C N bs bm true sn sub ab col dd k0 k1 k2 k3 k5 newId) ∧ Over tl bm
  sa : PySem.W.findIn K (.ref C) "__setattr__" = some (some (.builtin "object.__setattr__"))
  exC : PySem.W.subIn K (.ref C) (.type "BaseException") = some true
  tyC : PySem.W.typeIn K (.ref C) = some (.type "type")
  kC : PySem.W.keepIn K (.ref C) = true
section
variable {X : Cx} {pins : List (Addr × Obj)} {σ : L2.St} {H : Hp} {s : Shared} {a C dx : Addr} {f : Str} {y : V} {u : Value} {fs : List (Str × V)} {Q : Unit → Shared → Prop} {Er : Value → Shared → Prop} {A : Around} {B newId initId : String} {tl : List Value}
theorem own_cls {K : PySem.W.Frag} (T : Own K B newId initId tl C) : ∃ cd, PySem.W.clsIn K C = some cd ∧ Over tl cd.mro ∧ cd.hasDict = true := by
  obtain ⟨nm, q, N, bs, bm, sn, sub, ab, col, dd, k0, k1, k2, k3, k5, hC, hbm⟩ := T.cls
  exact ⟨{ name := nm, bases := bs, mro := .ref C :: bm, ns := N, qualname := q, hasDict := true, slotNames := sn, subclasses := sub, abstract := ab, collection := col, hasDel := false }, by unfold PySem.W.clsIn; rw [hC] <;> rfl, hbm.cons C, rfl⟩
theorem own_first (T : Own X.K B newId initId tl C) (I : Inv X pins σ H s) (e : H a = some (exo a C none)) (hno : PySem.W.findIn X.K (.ref C) f = some none) (ry : RelV y u)
    (h : ∀ dx s', H dx = none → dx ≠ a → Inv X pins σ (upd (upd H dx (exd dx [(f, y)])) a (exo a C (some dx))) s' → Q () s') : wpAny (model X.prog X.w) A (setAttr (.ref a) f u) Q Er s := by
  obtain ⟨cd, hcl, hov, hhd⟩ := own_cls T
  obtain ⟨t1, ho⟩ := exo_at I.hok e
  obtain ⟨hp, g, d, t, os⟩ := s
  refine PySem.W.set_plain I.kIn (ox := { cls := .ref C, dict := none, data := .fields #[.ref t1, .none, .none, .none, .bool false, .none] }) (od := none) ⟨ho, rfl, rfl, trivial⟩ T.sa ?_
  refine osa_first T.tail I.kIn ho hcl hov hhd hno (fun h' tk' dx k dn dne hx hn => ?_)
  have hnd : H dx = none := I.hok.fresh dn
  have nd : ∀ {b : Addr} {o : Obj}, hp.get? b = some o → b ≠ dx := fun {b o} q => Nat.ne_of_lt (Nat.lt_of_lt_of_le (Heap.lt_size q) dn)
  have na : ∀ {b : Addr}, H b = none → b ≠ a := fun {b} n z => by rw [z, e] at n; cases n
  have U : Un X.fs [] H (upd (upd H dx (exd dx [(f, y)])) a (exo a C (some dx))) hp h' := {
    keep := fun b o q n _ _ => k b o (na n) q
    slot := fun b o q n _ _ => ⟨o.slots, k b o (na n) q⟩
    free := fun b o q n _ => by rw [upd_ne (na n), upd_ne (nd q)]; exact n
    there := fun b o q _ => by
      by_cases hb : b = a
      · exact ⟨_, by rw [hb]; exact hx⟩
      · exact ⟨o, k b o hb q⟩
    tups := fun b xs q => by rw [upd_ne (at_ne e q exo_tup), upd_ne (ne_of_none q hnd)]; exact q
    frzs := fun b o v q => by rw [upd_ne (at_ne e q exo_frz), upd_ne (ne_of_none q hnd)]; exact q
    tbls := fun b ps q => ⟨#[], by rw [upd_ne (at_ne e q exo_tbl), upd_ne (ne_of_none q hnd), q]; simp⟩ }
  refine h dx _ hnd dne (I.un (t' := tk') U fun b o q => ?_)
  by_cases hb : b = a
  · subst hb
    rw [upd_same] at q
    cases q
    exact exo_ok hx
  · rw [upd_ne hb] at q
    by_cases hd : b = dx
    · subst hd
      rw [upd_same] at q
      cases q
      exact exd_ok hn (relO_put (fs := []) ry fun g => True.intro)
    · rw [upd_ne hd] at q
      exact (I.hok b o q).stay (fun c v hc z => k c v (by
          rcases hc with hc | hc
          · rw [hc]; exact hb
          · exact at_ne e hc exo_own) z)
        (fun c hc => by rw [upd_ne (at_ne e hc exo_own), upd_ne (ne_of_none hc hnd)]; exact hc) (fun c xs hc => by rw [upd_ne (at_ne e hc exo_tup), upd_ne (ne_of_none hc hnd)]; exact hc)
theorem own_more (T : Own X.K B newId initId tl C) (I : Inv X pins σ H s) (e : H a = some (exo a C (some dx))) (ed : H dx = some (exd dx fs)) (hl : fs.length ≤ 900) (hno : PySem.W.findIn X.K (.ref C) f = some none) (ry : RelV y u)
    (h : ∀ s', Inv X pins σ (upd H dx (exd dx ((f, y) :: fs))) s' → Q () s') : wpAny (model X.prog X.w) A (setAttr (.ref a) f u) Q Er s := by
  obtain ⟨cd, hcl, hov, hhd⟩ := own_cls T
  obtain ⟨t1, ho⟩ := exo_at I.hok e
  obtain ⟨mA, hns, rel⟩ := exd_at I.hok ed
  have hw := within_of rel
  obtain ⟨hp, g, d, t, os⟩ := s
  obtain ⟨oD, _, _, hoD, _, _⟩ := hns.count hw
  refine PySem.W.set_plain I.kIn (ox := { cls := .ref C, dict := some dx, data := .fields #[.ref t1, .none, .none, .none, .bool false, .none] }) (od := some oD) ⟨ho, rfl, rfl, hoD⟩ T.sa ?_
  refine osa_more T.tail I.kIn ho hns hw (by rw [List.length_map]; omega) hcl hov hhd hno (fun h' tk' k hn => ?_)
  have hd : ∃ o, h'.get? dx = some o := by obtain ⟨o, _, _, e', _⟩ := hn; exact ⟨o, e'⟩
  exact h _ (I.write (t' := tk') (x := dx) (e := dx) (o := exd dx ((f, y) :: fs)) (by rw [ed]; exact True.intro) (.inl rfl) k hd (exd_ok hn (relO_put ry rel)))
end
/-- self.f = e in an own error's __init__ -/
def tOwn (K : PySem.W.Frag) (f : Str) (to te : TE) : TS := fun D σ H => te σ H fun y H1 => to σ H1 fun x H2 => ∃ (a C : Addr) (B newId initId : String) (tl : List Value), x = .ref a ∧ Own K B newId initId tl C ∧ PySem.W.findIn K (.ref C) f = some none ∧
  ((H2 a = some (exo a C none) ∧ ∀ dx, H2 dx = none → dx ≠ a → D.nx σ (upd (upd H2 dx (exd dx [(f, y)])) a (exo a C (some dx)))) ∨
    ∃ (dx : Addr) (fs : List (Str × V)), H2 a = some (exo a C (some dx)) ∧ H2 dx = some (exd dx fs) ∧ fs.length ≤ 900 ∧ D.nx σ (upd H2 dx (exd dx ((f, y) :: fs))))
section
variable {X : Cx} {o e : Expr} {es : List Expr} {to te : TE} {ta : TA} {f : Str} {p p' pos : Pos} {B newId initId : String} {tl : List Value}
theorem ps_own (ho : PE X o to) (he : PE X e te) (hs : swapsWith e (some (.Attribute o f p')) pos.line X.env = pure false := by rfl) : PS X (.Assign [.Attribute o f p'] e pos) (tOwn X.K f to te) := by
  refine ⟨fun pins s σ H D I h => ?_⟩
  refine plainObj_wpAny_Assign_Attribute (thn (he.run pins s σ H _ I h) fun v s1 ⟨y, H1, I1, r1, q1⟩ => thn (ho.run pins s1 σ H1 _ I1 q1) fun u s2 ⟨x, H2, I2, r2, a, C, B, newId, initId, tl, ex, T, hno, q⟩ => ?_) hs
  subst ex
  obtain rfl : u = Value.ref a := r2
  rcases q with ⟨ea, q⟩ | ⟨dx, fs, ea, ed, hl, q⟩
  · exact own_first T I2 ea hno r1 fun dx s' n ne J => ⟨σ, _, J, q dx n ne⟩
  · exact own_more T I2 ea ed hl hno r1 fun s' J => ⟨σ, _, J, q⟩
/-- C(e, ..), C an own error's class, its own __init__ keeping sp -/
theorem pmk_own2 {CX : CXT} {x : Str} {C fI : Addr} {k : Nat} {fd : FuncData} {ps : List Str} {sp : Sp} {ds : List Value} {dvs : List V} (T : Own X.K B newId initId tl C) (iC : PySem.W.findIn X.K (.ref C) "__init__" = some (some (.ref fI))) (tI : PySem.W.typeIn X.K (.ref fI) = some (.type "function"))
    (F1 : FnOk X.prog X.w X.K X.mg X.base CX k fI fd ps sp) (hr : Room (k + 1) X.A) (hb : Binds X.K fd ps ds) (hd : Vals dvs ds) (hx : Passes CX X (fun _ _ _ => False)) (hg : Gl X x) (hm : X.mg x = some (.ref C)) (ha : PA X (e :: es) ta)
    (hdb : (x == ("__debug__" : Str)) = false := by decide) (he : starEach (e :: es) X.env = (false, eval e X.env) :: starEach es X.env := by rfl) (hpl : (backTo pos (starEach es X.env)).any (·.1) = false := by rfl) :
    PMk X (.Call (.Name x p) (e :: es) [] pos) (tMkO C sp dvs ta) := by
  intro pins s σ H Q I h
  obtain ⟨nm, q, N, bs, bm, sn, sub, ab, col, dd, k0, k1, k2, k3, k5, hC, hbm⟩ := T.cls
  refine wpAny_Call_Name_kw (ld_glob I hg hm ?_ hdb)
  refine PySem.W.callWith_K (h₀ := X.base) I.ok.mod.kin T.kC (thn (ha.run pos pins s σ H _ I h) fun us s1 ⟨vs, H1, I1, r1, hz, q1⟩ => ⟨I1.kIn, ?_⟩) he hpl
  show wpAny _ _ (call (.ref C) us) _ _ _
  obtain ⟨hp, g, dr, tk, os⟩ := s1
  have hsz : hp.objs.size ≤ hp.objs.size + 1 := Nat.le_succ _
  have hq := q1 (hp.objs.size + 1) (I1.hok.fresh hsz)
  have kk : ∀ b o, hp.get? b = some o → ((hp.push (PySem.W.kdv_tup us)).push (PySem.HandSPX.excO C hp.objs.size)).get? b = some o := fun b o e => Heap.get?_push_of_some _ (Heap.get?_push_of_some _ e)
  have hget : ((hp.push (PySem.W.kdv_tup us)).push (PySem.HandSPX.excO C hp.objs.size)).get? (hp.objs.size + 1) = some (PySem.HandSPX.excO C hp.objs.size) := by heap_get
  have I2 := I1.laid (t' := tk) (a := hp.objs.size + 1) (o := exo (hp.objs.size + 1) C none) (h' := (hp.push (PySem.W.kdv_tup us)).push (PySem.HandSPX.excO C hp.objs.size)) kk hsz (exo_ok hget)
  have r2 : Vals (V.ref (hp.objs.size + 1) :: (vs ++ dvs)) (Value.ref (hp.objs.size + 1) :: (us ++ ds)) := .cons rfl (r1.append hd)
  have hl : (Value.ref (hp.objs.size + 1) :: us ++ ds).length = ps.length := by
    have e := r2.length
    rw [F1.len _ _ _ _ hq] at e
    exact e.symm
  have hus : us.length ≤ sizeLine := by rw [← Paired.length r1, sizeLine_eq]; omega
  refine wpAny_call (PySem.HandSPX.call_own T.base (fun Y => hbm.has Y) (I1.kIn _ _ hC) (PySem.W.looks_findIn I1.kIn iC) (fun self => PySem.W.bind_fn I1.kIn self tI) hus
    (codeAny_mono (F1.run _ X.stack _ _ ⟨Value.ref (hp.objs.size + 1) :: us, []⟩ (Value.ref (hp.objs.size + 1) :: (us ++ ds)) _ _ (fun _ _ _ => False) (hr.make C us []) (I2.env0.make C us []) (hb _ (Value.ref (hp.objs.size + 1) :: us) I2.kIn hl) r2 hq) fun r s' hq' => ?_))
  match r, hq' with
  | .error er, hq' => exact hx pins σ _ _ er s' I2 hq'
  | .ok .next, hq' => exact hq'.elim
  | .ok .brk, hq' => exact hq'.elim
  | .ok .cont, hq' => exact hq'.elim
  | .ok (.ret u), hq' =>
    obtain ⟨v, H2, os2, bare2, un2, hok2, rv, ev, d, fs, ea, ed, hd1, q2⟩ := hq'
    subst ev
    obtain ⟨h2, g2, d2, t2, os'⟩ := s'
    exact ⟨rv, mk_end (raises_own T.exC T.tyC) I1 hsz kk un2 hok2 os2 bare2 ea ed hd1 q2⟩
end
end G
end
section
set_option maxHeartbeats 2000000
namespace G
open PySem PySem.Spec PyProof.Rows L2 Evl
/-! ### ranges that have a name -/
theorem cr_range1 {X : Cx} : CallR X (.type "range") (fun vs H Q => ∃ j, vs = [V.int j] ∧ ∀ p, H p = none → Q (.ref p) (upd H p (.rng 0 j))) := by
  intro pins s σ H vs us Q I r h
  obtain ⟨j, rfl, q⟩ := h
  obtain ⟨u, rfl, ru⟩ := vals1 r
  obtain ⟨t, rfl⟩ := ru
  refine call_range_1 ⟨.ref s.heap.objs.size, upd H s.heap.objs.size (.rng 0 j), I.laid (t' := s.toks + 1 + 1) (fun b o e => Heap.get?_push_of_some _ e) (Nat.le_refl _) ?_, rfl, q _ (I.hok.fresh (Nat.le_refl _))⟩
  exact ⟨_, t, _, Heap.get?_push_size _ rfl⟩
def iRgV (te : TE) : TI := fun σ H R => te σ H fun x H1 => ∃ (p : Addr) (j : Int), x = .ref p ∧ H1 p = some (.rng 0 j) ∧ -(2 ^ 62) ≤ j ∧ j < 2 ^ 62 ∧ R (Itr 0 j.toNat) H1
theorem pi_rgV {X : Cx} {tg e : Expr} {te : TE} (he : PE X e te) : PI X tg e (iRgV te) := by
  refine ⟨fun pins s σ H R I h => thn (he.run pins s σ H _ I h) fun v s1 ⟨x, H1, I1, r1, p, j, ex, ea, h1, h2, q⟩ => ?_⟩
  subst ex
  obtain rfl : v = Value.ref p := r1
  obtain ⟨t, u, w, ho⟩ := I1.hok p _ ea
  have I2 : Inv X pins σ H1 s1 := I1
  refine wpAny_pyIter_range (a := 0) (b := j) (c := 1) (t := t) (u := u) (v := w) ho (small_one (by omega) (by omega) h1 h2) ?_
  refine ⟨s1.heap.objs.size, [s1.heap.objs.size], _, _, H1, rfl, I1.kept (t' := s1.toks) fun b o e => Heap.get?_push_of_some _ e, turn_range _ 0 j.toNat, ?_, fun b hb => ?_, q⟩
  · have e1 : (0 : Int) + ((0 : Nat) : Int) * 1 = 0 := by simp
    have e2 : (((j).toNat : Nat) : Int) - ((0 : Nat) : Int) = Builtin.Range.rangeSize 0 j 1 := by rw [rangeSize_one]; split <;> omega
    show IsRangeIter _ _ ((0 : Int) + ((0 : Nat) : Int) * 1) (((j.toNat : Nat) : Int) - ((0 : Nat) : Int)) 1
    rw [e1, e2]
    exact Heap.get?_push_size _ rfl
  · have e : b = s1.heap.objs.size := by simpa using hb
    subst e
    exact I1.fpOk (Nat.le_refl _) (I1.hok.fresh (Nat.le_refl _))
variable {K : PySem.W.Frag} {σ : L2.St} {H : Hp} {tl te ta : TE} {p : Addr} {n : Nat} {j i : Nat} {vs : List Nat} {D : Ends} {tz : TS} {tA : TA} {z0 : Int}
theorem el_lcRV (v : Nat → V) (h : Ev tl σ H (.ref p)) (hp : H p = some (.rng 0 (n : Int))) (hn : n ≤ 40000) (hw : ∀ x, wipe ((wipe σ vs).set j (some x)) vs = wipe σ vs) (he : ∀ (i : Nat) H1, Ex H H1 → i < n → Ev te ((wipe σ vs).set j (some (.int (i : Int)))) H1 (v i)) :
    EvL (tLc (iRgV tl) (gName j) tYes te vs) σ H ((List.range n).map v) := fun H0 e Q q => h H0 e _ fun H1 e1 => ⟨p, (n : Int), rfl, (e.trans e1) p _ hp, by omega, by omega, fun Dl hD => by
  have eq : (List.range n).map v = given n (fun _ => true) v := by unfold given; rw [List.filter_eq_self.mpr (fun _ _ => rfl)]
  rw [Int.toNat_natCast]
  refine lc_range (lo := 0) (n := n) (Cw H1 (fun _ => true) v Dl) ⟨hD, Ex.new hD, upd_same⟩ (fun i H' hi p => by
    have e0 : (0 : Int) + (i : Int) = (i : Int) := Int.zero_add _
    show wipe ((wipe σ vs).set j (some (.int ((0 : Int) + (i : Int))))) vs = wipe σ vs ∧ tYes ((wipe σ vs).set j (some (.int ((0 : Int) + (i : Int))))) H' fun b H3 => if b = true then te ((wipe σ vs).set j (some (.int ((0 : Int) + (i : Int))))) H3 fun y H4 => _ else _
    rw [e0]
    exact ⟨hw _, cw_turn p (by omega) lc_yes (fun _ => he i H1 (e.trans e1) (by omega))⟩) (fun H' p => q Dl H' (fresh_back e1 p.1) (e1.trans p.2.1) (by rw [eq]; exact p.2.2))⟩
/-- x = range(e) -/
theorem q_rng (ha : EvA tA σ H [.int z0]) (k : ∀ p H1, H p = none → Ex H H1 → H1 p = some (.rng 0 z0) → tz D (σ.set i (some (.ref p))) H1) : tSeq (tAsg (tCB (fun vs H Q => ∃ j, vs = [V.int j] ∧ ∀ p, H p = none → Q (.ref p) (upd H p (.rng 0 j))) tA) (gName i)) tz D σ H :=
  ha H (Ex.refl H) _ fun H1 e1 => ⟨z0, rfl, fun p hp => k p _ (fresh_back e1 hp) (e1.trans (Ex.new hp)) upd_same⟩
/-! ### calls of a def that a name holds -/
section
variable {X : Cx} {CX : CXT} {k : Nat} {sp : Sp} {E : L2.St → XK} {pos : Pos} {fe e : Expr} {es : List Expr} {tf : TE} {t : TA}
def tCallV (S : Addr → Prop) (sp : Sp) (E : L2.St → XK) (tf : TE) (t : TA) : TE := fun σ H Q => tf σ H fun x H1 => ∃ f, x = .ref f ∧ S f ∧ t σ H1 fun vs H2 => sp vs H2 Q (E σ)
theorem pe_callV {S : Addr → Prop} (F : ∀ f, S f → ∃ fd ps, FnOk X.prog X.w X.K X.mg X.base CX k f fd ps sp ∧ Binds X.K fd ps [] ∧ PySem.W.keepIn X.K (.ref f) = true) (hf : PE X fe tf) (hr : Room k X.A) (hx : ∀ σ, PassesAt CX X σ (E σ)) (ha : PA X (e :: es) t)
    (ht : eval (.Call fe (e :: es) [] pos) X.env = (do callWith pos (← eval fe X.env) [] (backTo pos (starEach (e :: es) X.env)) (backToKw pos (keywordEach [] X.env))) := by rfl)
    (he : starEach (e :: es) X.env = (false, eval e X.env) :: starEach es X.env := by rfl) (hpl : (backTo pos (starEach es X.env)).any (·.1) = false := by rfl) : PE X (.Call fe (e :: es) [] pos) (tCallV S sp E tf t) := by
  refine ⟨fun pins s σ H Q I h => Call_ (thn (hf.run pins s σ H _ I h) fun u s1 ⟨y, H1, I1, ry, f, ey, hS, q⟩ => ?_) ht⟩
  subst ey
  obtain rfl : u = Value.ref f := ry
  obtain ⟨fd, ps, G, hb, hk⟩ := F f hS
  refine PySem.W.callWith_K (h₀ := X.base) I1.ok.mod.kin hk (thn (ha.run pos pins s1 σ H1 _ I1 q) fun us s2 ⟨vs, H2, I2, r, q2⟩ => ⟨I2.kIn, ?_⟩) he hpl
  exact run_fnS G hr hb (hx σ) I2 r q2
end
theorem FnOk.imp {P : Program} {w : World} {K : PySem.W.Frag} {mg : Str → Option Value} {base : Heap} {CX : CXT} {k : Nat} {f : Addr} {fd : FuncData} {ps : List Str} {sp sp' : Sp} (F : FnOk P w K mg base CX k f fd ps sp) (h : ∀ vs H Q E, sp' vs H Q E → sp vs H Q E) : FnOk P w K mg base CX k f fd ps sp' :=
  ⟨fun vs H Q E q => F.len vs H Q E (h vs H Q E q), fun A outer s H args us vs Q E hr e0 hb r q => F.run A outer s H args us vs Q E hr e0 hb r (h vs H Q E q)⟩
/-- an error is named by its own class -/
theorem exm_at {K : PySem.W.Frag} {S : Addr} (b : PySem.W.subIn K (.ref S) (.type "BaseException") = some true) (c : PySem.W.isClsIn K S = true) (t : PySem.W.typeIn K (.ref S) = some (.type "type")) (s : PySem.W.subIn K (.ref S) (.ref S) = some true) : PySem.W.exmOne K (.ref S) (.ref S) = some true := by
  have c' : (PySem.W.clsIn K S).isSome = true := c
  unfold PySem.W.exmOne PySem.W.kitCls
  simp [b, c', t, s]
theorem passF {X : Cx} {E₁ : XK} (tk : Takes X (fun cls d _ H => E₁ cls d H)) : Passes (L2.CX X.prog X.w) X E₁ := fun pins σ H s e s' I c => tk e s' (XE.of_call I (fun _ _ _ h => h) c)
end G
end
section
set_option maxHeartbeats 2000000
namespace G
open PySem L2 Evl
/-! ### data that stand apart from what else changes: B the heap whose data may be shared, H1 the heap ahead -/
def Sep (B H1 H2 : Hp) : Hp := fun b => if H1 b = none ∨ (B b).isSome = true then H2 b else none
section
variable {B B' H H' H1 H2 H3 : Hp} {b : Addr} {o : HO}
theorem sep_in (h : H2 b = some o) (hb : H1 b = none ∨ (B b).isSome = true) : Sep B H1 H2 b = some o := by unfold Sep; rw [if_pos hb]; exact h
theorem sep_out (h : Sep B H1 H2 b = some o) : (H1 b = none ∨ (B b).isSome = true) ∧ H2 b = some o := by
  unfold Sep at h
  split at h
  · rename_i q; exact ⟨q, h⟩
  · cases h
theorem sep_ex : Ex (Sep B H1 H2) H2 := fun b o h => (sep_out h).2
theorem sep_base (e : Ex B H2) : Ex B (Sep B H1 H2) := fun b o h => sep_in (e b o h) (.inr (by rw [h]; rfl))
theorem sep_next (e : Ex H2 H3) : Ex (Sep B H1 H2) (Sep B H1 H3) := fun b o h => let ⟨h1, h2⟩ := sep_out h; sep_in (e b o h2) h1
theorem sep_prev (e : Ex H1 H2) : Ex (Sep B H2 H3) (Sep B H1 H3) := fun b o h => let ⟨h1, h2⟩ := sep_out h; sep_in h2 (h1.imp (fresh_back e) id)
theorem some_ex (e : Ex B B') (h : (B b).isSome = true) : (B' b).isSome = true := by
  obtain ⟨o, ho⟩ := Option.isSome_iff_exists.mp h
  rw [e b o ho] <;> rfl
theorem sep_wide (e : Ex B B') : Ex (Sep B H1 H2) (Sep B' H1 H2) := fun b o h => let ⟨h1, h2⟩ := sep_out h; sep_in h2 (h1.imp id (some_ex e))
theorem sep_sep (e : Ex H1 H2) : Ex (Sep (Sep B H1 H2) H2 H3) (Sep B H1 H3) := fun b o h => by
  obtain ⟨h1, h2⟩ := sep_out h
  refine sep_in h2 ?_
  rcases h1 with h1 | h1
  · exact .inl (fresh_back e h1)
  · obtain ⟨o', ho⟩ := Option.isSome_iff_exists.mp h1
    exact (sep_out ho).1
/-- nothing is shared of what is neither in B nor new -/
theorem sep_off {q : Addr} (h1 : H1 q ≠ none) (h2 : B q = none) : Sep B H1 H2 q = none := by
  unfold Sep
  rw [if_neg]
  rintro (z | z)
  · exact h1 z
  · rw [h2] at z; cases z
theorem sep_upd {q : Addr} {o : HO} (h1 : H1 q ≠ none) (h2 : B q = none) : Ex (Sep B H1 H2) (Sep B H1 (upd H2 q o)) := fun b u h => by
  obtain ⟨a1, a2⟩ := sep_out h
  have hb : b ≠ q := fun z => by subst z; rw [sep_off h1 h2] at h; cases h
  exact sep_in (by rw [upd_ne hb]; exact a2) a1
end
variable {K : PySem.W.Frag} {σ : L2.St} {B H H' : Hp} {ta tb te tx tl : TE} {tt : TT} {x y z v : V} {d d' : PyData} {ds es : List PyData} {p C dx a : Addr} {fs : List (Str × V)} {f m : Str} {sp : Sp} {dvs vs xs : List V} {E : XK} {tA tr tk : TA} {js : List Nat} {j i : Nat} {D : Ends} {tz : TS}
/-- what evaluates to data, B the heap whose data may be shared (a part of H) -/
def EvN (K : PySem.W.Frag) (B : Hp) (te : TE) (σ : L2.St) (H : Hp) (d : PyData) : Prop := ∀ H1, Ex H H1 → ∀ Q : VK, (∀ v H2, Ex H1 H2 → Dp K (Sep B H1 H2) v d → Q v H2) → te σ H1 Q
def EvAN (K : PySem.W.Frag) (B : Hp) (ta : TA) (σ : L2.St) (H : Hp) (ds : List PyData) : Prop := ∀ H1, Ex H H1 → ∀ Q : List V → Hp → Prop, (∀ vs H2, Ex H1 H2 → DpAll K (Sep B H1 H2) vs ds → Q vs H2) → ta σ H1 Q
/-- the promise's end: data -/
def RetN (K : PySem.W.Frag) (B : Hp) (d : PyData) (H : Hp) (Q : VK) : Prop := ∀ v H2, Ex H H2 → Dp K (Sep B H H2) v d → Q v H2
def SpN (K : PySem.W.Frag) (B : Hp) (sp : Sp) (vs : List V) (H : Hp) (d : PyData) : Prop := ∀ H1, Ex H H1 → ∀ Q : VK, RetN K B d H1 Q → ∀ E : XK, sp vs H1 Q E
theorem EvN.mono (e : Ex H H') (h : EvN K B te σ H d) : EvN K B te σ H' d := fun H1 a Q q => h H1 (e.trans a) Q q
theorem EvAN.mono (e : Ex H H') (h : EvAN K B tA σ H ds) : EvAN K B tA σ H' ds := fun H1 a Q q => h H1 (e.trans a) Q q
theorem EvN.wide {B' : Hp} (e : Ex B B') (h : EvN K B te σ H d) : EvN K B' te σ H d := fun H1 a Q q => h H1 a Q fun v H2 e2 hv => q v H2 e2 (dp_mono (sep_wide e) hv)
theorem EvN.evd (h : EvN K B te σ H d) : EvD K te σ H d := fun H1 e Q q => h H1 e Q fun v H2 e2 hv => q v H2 e2 (dp_mono sep_ex hv)
theorem evn_is (h : EvN K B te σ H d) (e : d = d') : EvN K B te σ H d' := e ▸ h
theorem evn_v (h : Ev te σ H v) (hd : ∀ H1, Dp K H1 v d) : EvN K B te σ H d := fun H1 e Q q => h H1 e Q fun H2 e2 => q v H2 e2 (hd _)
theorem evn_int {i : Int} (h : Ev te σ H (.int i)) : EvN K B te σ H (.int i) := evn_v h fun _ => .int i
theorem evn_bl {b : Bool} (h : Ev te σ H (.bl b)) : EvN K B te σ H (.bool b) := evn_v h fun _ => .bl b
theorem evn_str {w : Str} (h : Ev te σ H (.str w)) : EvN K B te σ H (.str w) := evn_v h fun _ => .str w
theorem evn_non (h : Ev te σ H .non) : EvN K B te σ H .none := evn_v h fun _ => .non
theorem evn_ref (hb : Ex B H) (h : Ev te σ H v) (hd : Dp K B v d) : EvN K B te σ H d := fun H1 e Q q => h H1 e Q fun H2 e2 => q v H2 e2 (dp_mono (sep_base (hb.trans (e.trans e2))) hd)
/-- a new list of what is data in B -/
theorem evn_l (hb : Ex B H) (h : EvL te σ H xs) (hd : DpAll K B xs ds) : EvN K B te σ H (.list ds) := fun H1 e Q q => h H1 e Q fun p H2 hp e2 h2 => q _ H2 e2 (.lst (sq_of (sep_in h2 (.inl hp))) (dp_monoAll (sep_base (hb.trans (e.trans e2))) hd))
theorem dpAll_intsB {ns : List Int} {H1 : Hp} : DpAll K H1 (ns.map V.int) (ns.map PyData.int) := dpAll_ints ns
theorem evn_ints {ns : List Int} (h : EvL te σ H (ns.map V.int)) : EvN K B te σ H (dInts ns) := fun H1 e Q q => h H1 e Q fun p H2 hp e2 h2 => q _ H2 e2 (.lst (sq_of (sep_in h2 (.inl hp))) (dpAll_ints ns))
theorem evn_u (hb : Ex B H) (h : EvU te σ H xs) (hd : DpAll K B xs ds) : EvN K B te σ H (.tuple ds) := fun H1 e Q q => h H1 e Q fun p H2 hp e2 h2 => q _ H2 e2 (.tup (st_of (sep_in h2 (.inl hp))) (dp_monoAll (sep_base (hb.trans (e.trans e2))) hd))
theorem evan_nil : EvAN K B tNil σ H [] := fun H1 _ _ q => q [] H1 (Ex.refl H1) .nil
theorem evan_cons (h : EvN K B ta σ H d) (hr : EvAN K B tr σ H ds) : EvAN K B (tCons ta tr) σ H (d :: ds) := fun H1 e Q q =>
  h H1 e _ fun v H2 e2 hv => hr H2 (e.trans e2) _ fun vs H3 e3 hvs => q _ H3 (e2.trans e3) (.cons (dp_mono (sep_next e3) hv) (dp_monoAll (sep_prev e2) hvs))
theorem evn_lst (h : EvAN K B tA σ H ds) (hl : ds.length ≤ 100000) : EvN K B (tLst tA) σ H (.list ds) := fun H1 e Q q =>
  h H1 e _ fun vs H2 e2 hv => ⟨sz_of (by rw [dp_len hv]; exact hl), fun p hp => q _ _ (e2.trans (Ex.new hp)) (.lst (sq_of (sep_in upd_same (.inl (fresh_back e2 hp)))) (dp_monoAll (sep_next (Ex.new hp)) hv))⟩
theorem evn_tup (h : EvAN K B tA σ H ds) (hl : ds.length ≤ 100000) : EvN K B (tTup tA) σ H (.tuple ds) := fun H1 e Q q =>
  h H1 e _ fun vs H2 e2 hv => ⟨sz_of (by rw [dp_len hv]; exact hl), fun p hp => q _ _ (e2.trans (Ex.new hp)) (.tup (st_of (sep_in upd_same (.inl (fresh_back e2 hp)))) (dp_monoAll (sep_next (Ex.new hp)) hv))⟩
theorem evn_if {b : Bool} (h : EvT tt σ H b) (h1 : b = true → EvN K B ta σ H d) (h2 : b = false → EvN K B tb σ H d) : EvN K B (tIf tt ta tb) σ H d := fun H1 e Q q => h H1 e _ fun H2 e2 => by
  cases b with
  | true => rw [if_pos rfl]; exact h1 rfl H2 (e.trans e2) Q fun v H3 e3 hv => q v H3 (e2.trans e3) (dp_mono (sep_prev e2) hv)
  | false => rw [if_neg (by decide)]; exact h2 rfl H2 (e.trans e2) Q fun v H3 e3 hv => q v H3 (e2.trans e3) (dp_mono (sep_prev e2) hv)
/-- a def whose promise gives data -/
theorem evn_call (ha : EvA tA σ H vs) (hs : SpN K B sp (vs ++ dvs) H d) : EvN K B (tCall sp dvs E tA) σ H d := fun H1 e Q q =>
  ha H1 e _ fun H2 e2 => hs H2 (e.trans e2) Q (fun v H3 e3 h3 => q v H3 (e2.trans e3) (dp_mono (sep_prev e2) h3)) E
theorem evn_meth (h : Ev ta σ H (.ref p)) (ho : H p = some (.ins C dx fs)) (hl : fs.lookup m = none) (ha : EvA tA σ H vs) (hs : SpN K B sp (.ref p :: (vs ++ dvs)) H d) : EvN K B (tMeth C m sp dvs E ta tA) σ H d := fun H1 e Q q =>
  h H1 e _ fun H2 e2 => ⟨p, dx, fs, rfl, (e.trans e2) p _ ho, hl, ha H2 (e.trans e2) _ fun H3 e3 => hs H3 ((e.trans e2).trans e3) Q (fun v H4 e4 h4 => q v H4 ((e2.trans e3).trans e4) (dp_mono (sep_prev (e2.trans e3)) h4)) E⟩
/-- a def that is given data: its promise holds for whatever heap the data stand in -/
def SpF (K : PySem.W.Frag) (sp : Sp) (ds : List PyData) (d : PyData) : Prop := ∀ (B H : Hp) (vs : List V), Ex B H → DpAll K B vs ds → ∀ Q : VK, RetN K B d H Q → ∀ E : XK, sp vs H Q E
theorem evn_callF (hb : Ex B H) (ha : EvAN K B tA σ H ds) (hs : SpF K sp ds d) : EvN K B (tCall sp [] E tA) σ H d := fun H1 e Q q =>
  ha H1 e _ fun vs H2 e2 hv => hs (Sep B H1 H2) H2 (vs ++ []) sep_ex (by rw [List.append_nil]; exact hv) Q (fun v H3 e3 h3 => q v H3 (e2.trans e3) (dp_mono (sep_sep e2) h3)) E
/-- [e for x in a list], e data -/
theorem evn_lcL (hb : Ex B H) (h : Ev tl σ H (.ref a)) (hx : SqL K H a xs) (hz : xs.length ≤ 40000) (hw : ∀ x, wipe ((wipe σ js).set j (some x)) js = wipe σ js) (hl : ds.length = xs.length)
    (he : ∀ (i : Nat) (x : V) (d : PyData), xs[i]? = some x → ds[i]? = some d → EvN K B te ((wipe σ js).set j (some x)) H d) : EvN K B (tLc (iList K tl) (gName j) tYes te js) σ H (.list ds) := fun H1 e Q q => h H1 e _ fun H2 e2 => ⟨a, rfl, ⟨xs, ex_l (e.trans e2) hx⟩, fun Dl hD => by
  have hB : B Dl = none := fresh_back (hb.trans (e.trans e2)) hD
  have h1D : H1 Dl = none := fresh_back e2 hD
  refine lc_list (xs := xs) (fun i H' => ∃ ys, Ex H2 H' ∧ H' Dl = some (.lst ys) ∧ DpAll K (Sep B H1 (del H' Dl)) ys (ds.take i)) ⟨[], Ex.new hD, upd_same, by rw [List.take_zero]; exact .nil⟩ (fun i H' _ p => ?_) (fun i x H' hi p => ?_) (fun H' p => ?_)
  · obtain ⟨ys, e3, _, _⟩ := p
    exact ex_l ((e.trans e2).trans e3) hx
  · obtain ⟨ys, e3, hy, hd⟩ := p
    have hlt : i < xs.length := (List.getElem?_eq_some_iff.mp hi).1
    obtain ⟨d0, hd0⟩ : ∃ d0, ds[i]? = some d0 := ⟨ds[i], List.getElem?_eq_getElem (by omega)⟩
    refine ⟨hw x, ?_⟩
    unfold tYes
    refine iteT ?_
    refine he i x d0 hi hd0 H' ((e.trans e2).trans e3) _ fun v H3 e4 hv => ⟨ys, e4 Dl _ hy, ?_, ys ++ [v], Ex.mut (e3.trans e4) hD, upd_same, ?_⟩
    · have := dp_len hd
      rw [this, List.length_take]
      exact sz_lt (by omega)
    · have hn : H' Dl ≠ none := by rw [hy]; exact fun z => by cases z
      have f1 : Ex (Sep B H' H3) (Sep B H1 (del (upd H3 Dl (.lst (ys ++ [v]))) Dl)) := fun b o hbo => by
        obtain ⟨q1, q2⟩ := sep_out hbo
        have hbD : b ≠ Dl := fun z => by subst z; rw [sep_off hn hB] at hbo; cases hbo
        exact sep_in (by rw [del_ne hbD, upd_ne hbD]; exact q2) (q1.imp (fresh_back (e2.trans e3)) id)
      have f2 : Ex (Sep B H1 (del H' Dl)) (Sep B H1 (del (upd H3 Dl (.lst (ys ++ [v]))) Dl)) := fun b o hbo => by
        obtain ⟨q1, q2⟩ := sep_out hbo
        have hbD : b ≠ Dl := fun z => by subst z; rw [del_same] at q2; cases q2
        rw [del_ne hbD] at q2
        exact sep_in (by rw [del_ne hbD, upd_ne hbD]; exact e4 b o q2) q1
      have et : ds.take (i + 1) = ds.take i ++ [d0] := by rw [List.take_add_one, hd0] <;> rfl
      rw [et]
      exact dp_app (dp_monoAll f2 hd) (.cons (dp_mono f1 hv) .nil)
  · obtain ⟨ys, e3, hy, hd⟩ := p
    rw [← hl, List.take_length] at hd
    have f3 : Ex (Sep B H1 (del H' Dl)) (Sep B H1 H') := fun b o hbo => by
      obtain ⟨q1, q2⟩ := sep_out hbo
      have hbD : b ≠ Dl := fun z => by subst z; rw [del_same] at q2; cases q2
      rw [del_ne hbD] at q2
      exact sep_in q2 q1
    exact q _ H' (e2.trans e3) (.lst (sq_of (sep_in hy (.inl h1D))) (dp_monoAll f3 hd))⟩
/-- the statements -/
theorem q_asgN (h : EvN K B te σ H d) (k : ∀ v H1, Ex H H1 → Dp K (Sep B H H1) v d → tz D (σ.set i (some v)) H1) : tSeq (tAsg te (gName i)) tz D σ H := h H (Ex.refl H) _ k
theorem s_retN (h : EvN K B te σ H d) (k : ∀ v H1, Ex H H1 → Dp K (Sep B H H1) v d → D.rt v H1) : tRet te D σ H := h H (Ex.refl H) _ k
end G
end
section
set_option maxHeartbeats 2000000
/-! xs.extend(a tuple), t[::-1] of a tuple -/
namespace SX
open PySem PySem.Spec PyProof.Rows L2
open MeetsSeq MeetsSeq2 MeetsSeq3 SeqRoads2
/-- xs.extend(t): the object of the tuple may be any -/
theorem extend_tup {l b : Addr} {xs ys : Array Value} {n m : Nat} {o : Obj} (hc : o.cls = .type "tuple") (hd : o.data = .seq ys m) (z1 : xs.size ≤ sizeLine) (z2 : xs.size + ys.size ≤ sizeLine) :
    Meets (Builtin.«list.extend» ⟨[.ref l, .ref b], []⟩) (fun _ R s => s.heap.get? l = some (seqObj "list" xs n) ∧ s.heap.get? b = some o ∧ R (.ok (.ret .none)) { s with heap := s.heap.update l (Obj.mapSeq (· ++ ys)) }) :=
  .of_wp fun P w A R s ⟨el, eb, q⟩ => by
    show wpAny (model P w) A.in1 ((pure (Value.ref l, Value.ref b) : Sem (Value × Value)) >>= fun p => Builtin.List.listExtendWith p.1 p.2 .none) _ _ s
    refine wpAny_bind (wpAny_pure ?_)
    dsimp only
    unfold Builtin.List.listExtendWith Builtin.List.listItems
    refine wpAny_bind (wpAny_typeOf ⟨o, eb, hc⟩ ?_)
    rw [if_pos (by simp)]
    refine wpAny_bind (wpAny_bind (wpAny_seqItems eb hd (wpAny_pure (wpAny_bind (wpAny_bind (wpAny_seqItems el rfl (wpAny_pure ?_)))))))
    dsimp only
    rw [if_neg (by rw [notLongL z2, Bool.and_false]; exact Bool.false_ne_true)]
    exact wpAny_bind (wpAny_updateSeq el rfl (wpAny_pure ⟨_, rfl, q⟩) z1 (by rw [Array.size_append]; omega))
def rExtT (K : PySem.W.Frag) : V → List V → Hp → VK → Prop := fun x vs H Q => ∃ l b xs zs, x = .ref l ∧ vs = [.ref b] ∧ H l = some (.lst xs) ∧ SqT K H b zs ∧ xs.length + zs.length ≤ sizeLine ∧ Q .non (upd H l (.lst (xs ++ zs)))
theorem mt_extT {X : Cx} {K : PySem.W.Frag} (hK : X.K = K) : MtR X "list.extend" (rExtT K) := by
  rintro pins s σ H _ _ v us Q I rx rv ⟨l, b, xs, zs, rfl, rfl, hH, hB, hz, q⟩
  subst hK
  cases rx
  obtain ⟨_, rfl, ru⟩ := rv.one
  cases ru
  obtain ⟨z1, own, n, ro, _, el⟩ := I.lstM hH
  obtain ⟨its, rt, ⟨o, eb, hc, m, hd⟩, _⟩ := I.tuple hB
  have n1 := ro.length
  have n2 := rt.length
  refine call_meets PySem.F.slot_list_extend ⟨_, el, rfl⟩ PySem.F.entry_list_extend (PySem.F.args_list_extend_2 _ _) (extend_tup (xs := own.toArray) (n := n) hc hd (by rw [List.size_toArray]; omega) (by simp only [List.size_toArray]; omega)) ⟨el, eb, ?_⟩
  exact ⟨.non, _, I.lset (its' := own ++ its) hH el (by simp) (ro.append rt) (by rw [List.length_append]; omega), rfl, q⟩
/-! ### t[::-1] -/
theorem back_places (n : Nat) : Builtin.Slice.slicePlaces ((n : Int) - 1) (-1) (-1) = n := by
  unfold Builtin.Slice.slicePlaces
  simp only [show ¬ (0 : Int) < -1 by decide, if_false]
  rcases n with _ | n
  · decide
  · simp only [Int.neg_neg, Int.ediv_one]
    split <;> omega
theorem back_pick (xs : Array Value) : ((List.range xs.size).filterMap fun (k : Nat) => xs[((xs.size : Int) - 1 + (k : Int) * (-1)).toNat]?).toArray = xs.toList.reverse.toArray := by
  have e : ((List.range xs.size).map fun k => xs.size - 1 - k).filterMap (xs[·]?) = xs.toList.reverse := by
    rw [PySem.W.krv_range, List.filterMap_reverse, PySem.W.krv_all]
  rw [← e, List.filterMap_map]
  congr 2
  funext k
  rw [show ((xs.size : Int) - 1 + (k : Int) * (-1)).toNat = xs.size - 1 - k by omega] <;> rfl
section
variable {P : Program} {w : World} {A : Around} {E : Value → Shared → Prop} {s : Shared}
theorem back_applied {sl : Addr} {n : Nat} {tk : Tok} (hs : s.heap.IsSliceOf sl .none .none (.int (-1) tk)) :
    wpAny (model P w) A (Builtin.Slice.sliceApplied (.ref sl) (pure (n : Int))) (fun r s' => r = ((n : Int) - 1, -1, n) ∧ s' = s) E s := by
  obtain ⟨o, ho, _, hd⟩ := hs
  have e : Builtin.Slice.sliceAdjust none none (-1) (n : Int) = ((n : Int) - 1, -1) := rfl
  unfold Builtin.Slice.sliceApplied Builtin.Slice.sliceFields
  refine wpAny_bind (wpAny_bind (wpAny_field ho hd rfl (wpAny_bind (wpAny_field ho hd rfl (wpAny_bind (wpAny_field ho hd rfl (wpAny_pure ?_)))))))
  dsimp only
  refine wpAny_bind (slicePart_int (wpAny_bind (slicePart_none (wpAny_bind (slicePart_none (wpAny_bind (wpAny_pure ?_)))))))
  exact wpAny_pure ⟨by
    simp only [Option.getD_some, e, back_places], rfl⟩
theorem getItem_back {t sl : Addr} {xs : Array Value} {tk : Tok} {Q : Value → Shared → Prop} (ht : IsTup s.heap t xs) (hs : s.heap.IsSliceOf sl .none .none (.int (-1) tk)) (hz : xs.size ≤ sizeLine)
    (q : Q (.ref s.heap.objs.size) { s with heap := s.heap.push { cls := .type "tuple", data := .seq xs.toList.reverse.toArray } }) : wpAny (model P w) A (getItem (.ref t) (.ref sl)) Q E s := by
  have isS : s.TypeIs (.ref sl) "slice" := let ⟨o, ho, hc, _⟩ := hs; ⟨o, ho, hc⟩
  have fits : sizeOk (.seq xs.toList.reverse.toArray) := by
    show xs.toList.reverse.toArray.size ≤ sizeLine
    simpa using hz
  have go : ∀ (A : Around) E, wpAny (model P w) A (Builtin.«tuple.__getitem__» ⟨[.ref t, .ref sl], []⟩) (fun fin s' => fin = .done (.ret (.ref s.heap.objs.size)) ∧ s' = { s with heap := s.heap.push { cls := .type "tuple", data := .seq xs.toList.reverse.toArray } }) E s := fun A E => by
    refine wpAny_bind (m := Builtin.Tuple.tupleItemsOf (.ref t)) (tupleItemsOf_ ht (wpAny_bind (wpAny_typeOf isS ?_)))
    rw [if_pos (by decide)]
    refine wpAny_bind (wpAny_mono (back_applied hs) ?_ fun _ _ x => x)
    rintro _ _ ⟨rfl, rfl⟩
    dsimp only
    rw [if_neg (by simp), back_pick]
    exact wpAny_bind (m := Builtin.Tuple.tupleExact _) (wpAny_newObj_type (wpAny_pure ⟨rfl, rfl⟩) fits)
  unfold getItem
  refine wpAny_holding (wpAny_bind (wpAny_sequenceKey ht.typeIs (by decide) (wpAny_bind ?_)))
  refine wpAny_callSpecial?_slot (name := Str.ofString "__getitem__") ht.typeIs slot_tuple_getitem (wpAny_call_entry slot_tuple_getitem ht.typeIs entry_tuple_getitem (wpAny_mono (go _ _) ?_ fun _ _ x => x) (args_tuple_getitem _ _))
  rintro _ _ ⟨rfl, rfl⟩
  exact ⟨_, rfl, wpAny_pure q⟩
end
def tRevT (K : PySem.W.Frag) (te : TE) : TE := fun σ H Q => te σ H fun x H1 => ∃ a xs, x = .ref a ∧ SqT K H1 a xs ∧ ∀ p, H1 p = none → Q (.ref p) (upd H1 p (.tup xs.reverse))
theorem pe_revT {X : Cx} {K : PySem.W.Frag} (hK : X.K = K) {e : Expr} {te : TE} {k : Nat} {p1 p2 p3 pos : Pos} (he : PE X e te) : PE X (.Subscript e (.Slice none none (some (.UnaryOp .USub (.Constant (.int 1) k p1) p2)) p3) pos) (tRevT K te) := by
  subst hK
  have last : PO X (some (.UnaryOp .USub (.Constant (.int 1) k p1) p2)) (tPart (tUn (rU fun i => .int (-i)) (tC (.int 1)))) := po_some (pe_un un_neg pe_int)
  refine ⟨fun pins s σ H Q I h => Subscript_ (thn (he.run pins s σ H _ I h) ?_)⟩
  rintro _ s1 ⟨_, H1, I1, rt, a, xs, rfl, hx, q⟩
  cases rt
  refine wpAny_Slice (thn (po_none.run pins s1 σ H1 (fun o H2 => o = none ∧ H2 = H1) I1 ⟨rfl, rfl⟩) ?_)
  rintro vl s2 ⟨_, _, I2, pl, rfl, rfl⟩
  refine thn (po_none.run pins s2 σ _ (fun o H3 => o = none ∧ H3 = _) I2 ⟨rfl, rfl⟩) ?_
  rintro vu s3 ⟨_, _, I3, pu, rfl, rfl⟩
  refine thn (last.run pins s3 σ _ (fun o H4 => o = some (-1) ∧ H4 = _) I3 ⟨1, rfl, -1, rfl, rfl, rfl⟩) ?_
  rintro vs s4 ⟨_, _, I4, ps, rfl, rfl⟩
  cases pl
  cases pu
  obtain ⟨tk, rfl⟩ : ∃ tk, vs = Value.int (-1) tk := by cases ps; exact ⟨_, rfl⟩
  have grow : ∀ b o, s4.heap.get? b = some o → (s4.heap.push { cls := .type "slice", data := .fields #[.none, .none, .int (-1) tk] }).get? b = some o := fun b o => Heap.get?_push_of_some _
  have I5 := I4.kept (t' := s4.toks) grow
  obtain ⟨its, r, ht, hz⟩ := I5.tuple hx
  have len := r.length
  refine tail_any (ops := [.ref a, .ref s4.heap.objs.size]) ht.typeIs slot_tuple_getitem.lookup (getItem_back ht (Heap.IsSliceOf.new _ .none .none (.int (-1) tk)) (by rw [List.size_toArray]; omega) ?_) (by with_unfolding_all rfl)
  exact ⟨.ref _, _, I5.laid (t' := s4.toks) (o := .tup xs.reverse) (fun b o => Heap.get?_push_of_some _) (Nat.le_refl _) ⟨by rw [List.length_reverse]; exact hz, _, r.reverse, IsTup.new _ _⟩, rfl, q _ (I5.hok.fresh (Nat.le_refl _))⟩
end SX
end
section
set_option maxHeartbeats 2000000
/-! set(xs), whatever stands in xs: a list or a tuple is walked, and each item added -/
namespace ZS
open PySem PySem.Spec PyProof.Rows L2
open PySem.Froz (sObj)
section
variable {P : Program} {w : World} {A : Around} {E : Value → Shared → Prop} {s : Shared}
/-- nothing but the set at S and the count of tokens has changed, and J is true behind it -/
def Only (S : Addr) (J : Heap → Prop) (s s' : Shared) : Prop := ∃ h' tk, s' = { s with heap := h', toks := tk } ∧ Heap.SameBut S s.heap h' ∧ J h'
theorem fill {I S : Addr} {fp wr : List Addr} {n : Nat} {Pv : Nat → Value → Prop} {St : Nat → Heap → Prop} {J : Nat → Heap → Prop}
    (W : Walks P w A.in1 I fp wr n Pv St) (hS : S ∉ fp) (keep : ∀ i h h', J i h → (∀ b o, b ∉ wr → h.get? b = some o → h'.get? b = some o) → J i h')
    (add : ∀ i v (s : Shared) (E : Value → Shared → Prop), i < n → Pv i v → J i s.heap → wpAny (model P w) A.in1 (setAdd S v) (fun _ => Only S (J (i + 1)) s) E s) :
    ∀ (m i : Nat) (s : Shared), i + m = n → St i s.heap → J i s.heap → codeAny (model P w) A (.builtin "set.update.loop" ⟨[.ref S, .ref I], []⟩)
      (fun r s' => r = .ok (.ret .none) ∧ ∃ h' tk, s' = { s with heap := h', toks := tk } ∧ J n h' ∧ ∀ b o, b ≠ S → b ∉ wr → s.heap.get? b = some o → h'.get? b = some o) s
  | 0, i, s, e, st, j => by
    obtain rfl : i = n := e
    refine codeAny_builtin F.entry_set_update_loop (Around.under_plainId F.plain_set_update_loop _ ▸ ?_)
    exact wpAny_bind (m := pyNext (.ref I)) (W.done s _ _ st fun h' tk k => wpAny_pure ⟨rfl, h', tk, rfl, keep _ _ _ j k, fun b o _ => k b o⟩)
  | m + 1, i, s, e, st, j => by
    refine codeAny_builtin F.entry_set_update_loop (Around.under_plainId F.plain_set_update_loop _ ▸ ?_)
    refine wpAny_bind (m := pyNext (.ref I)) (W.item i s _ _ (by omega) st fun v h1 t1 pv st1 k => ?_)
    refine wpAny_bind (m := holding [v] (setAdd S v)) (wpAny_holding (wpAny_mono (add i v _ _ (by omega) pv (keep _ _ _ j k)) ?_ fun _ _ x => x))
    rintro _ _ ⟨h2, t2, rfl, sb, j2⟩
    refine wpAny_pure ⟨plainId_quiet F.plain_set_update_loop _, codeAny_mono (fill W hS keep add m (i + 1) _ (by omega) (W.frame _ _ _ st1 fun b hb o q => (sb.2 b fun z => hS (z ▸ hb)).trans q) j2) ?_⟩
    rintro _ _ ⟨rfl, h3, t3, rfl, j3, k3⟩
    exact ⟨rfl, h3, t3, rfl, j3, fun b o hb hw q => k3 b o hb hw ((sb.2 b hb).trans (k b o hw q))⟩
/-- a set that was just made -/
abbrev bare (w : World) : Obj := sObj "set" (#[], 0, .fresh 0 0 (!w.params.followText "set-order"))
theorem call_of {l : Addr} {T : String} {Q : Value → Shared → Prop} (hT : s.TypeIs (.ref l) T) (f1 : isSubtype (.type T) (.type "set") = pure false) (f2 : isSubtype (.type T) (.type "frozenset") = pure false)
    (f3 : (Value.type T == Value.type "dict") = false)
    (go : ∀ E', wpAny (model P w) A.in1.in1 (pyIter (.ref l)) (fun it s2 => codeAny (model P w) A.in1.in1 (.builtin "set.update.loop" ⟨[.ref s.heap.objs.size, it], []⟩) (fun r s3 => r = .ok (.ret .none) ∧ Q (.ref s.heap.objs.size) s3) s2) E' { s with heap := s.heap.push (bare w) }) :
    wpAny (model P w) A (call (.type "set") [.ref l]) Q E s := by
  have ft := PySem.F.called_set
  have made := ft.made
  have sub := ft.sub
  have no := ft.notType
  have can := ft.canCreate
  have one := PySem.F.typeCall_set_1 (.ref l)
  obtain ⟨_, _, mro⟩ := ft.mro
  refine wpAny_call (codeAny_of_tree (wpAny_pure ⟨Code.quiet_builtin _ (by decide +kernel), codeAny_builtin PySem.F.entry_type_call (Around.under_plain (weight_type_call_type "set" [.ref l] []) rfl ▸ ?_)⟩))
  repeat (any_goals (first | assumption | wp_step))
  refine codeAny_mono (R := wants (fun v t => v = .ref s.heap.objs.size ∧ t = { s with heap := s.heap.push (bare w) }) E) (code_set_led1 _ ⟨rfl, rfl⟩) ?_
  rintro (e | _ | v | _ | _) s1 h1 <;> try exact h1
  obtain ⟨rfl, rfl⟩ := h1
  have there : (s.heap.push (bare w)).get? s.heap.objs.size = some (bare w) := Heap.get?_push_size _ rfl
  have isS : Shared.TypeIs { s with heap := s.heap.push (bare w) } (.ref s.heap.objs.size) "set" := ⟨_, there, rfl⟩
  have look := ft.init.lookup
  have bnd := ft.init.bind (.ref s.heap.objs.size)
  repeat (any_goals (first | assumption | wp_step))
  refine codeAny_mono (R := wants (fun v s3 => v = .none ∧ Q (.ref s.heap.objs.size) s3) E) (codeAny_call_builtin ft.init.plain PySem.F.entry_set_init (check_set_init_1 isS ?_)) ?_
  · obtain ⟨o, ho, hc⟩ := hT
    have hT1 : Shared.TypeIs { s with heap := s.heap.push (bare w) } (.ref l) T := ⟨o, Heap.get?_push_of_some _ ho, hc⟩
    unfold Builtin.«set.__init__» noKeywords Builtin.Frozenset.updateFrom
    generalize hg : pyIter = G at go ⊢
    wp_walk
    refine wpAny_mono (go _) (fun it s2 h2 => wpAny_bind (wpAny_runValue (codeAny_mono h2 ?_))) fun _ _ x => x
    rintro _ s3 ⟨rfl, q⟩
    exact wpAny_pure (wpAny_pure ⟨rfl, q⟩)
  · rintro (e | _ | v | _ | _) s3 h3 <;> try exact h3
    obtain ⟨rfl, q⟩ := h3
    repeat (any_goals (first | assumption | wp_step))
theorem apart {l S : Nat} (h : l < S) : S ∉ [S + 1, l] ∧ l ≠ S + 1 ∧ l ∉ [S + 1] := by
  refine ⟨fun z => ?_, by omega, fun z => ?_⟩
  · rcases List.mem_cons.mp z with z | z
    · omega
    · have := List.mem_singleton.mp z
      omega
  · have := List.mem_singleton.mp z
    omega
/-- set(xs), xs a list or a tuple: what stays true as the items are added one by one -/
theorem call_set {l : Addr} {us : Array Value} {J : Nat → Heap → Prop} {Q : Value → Shared → Prop} (src : s.heap.IsList l us ∨ s.heap.IsTuple l us) (hh : A.handled = none)
    (j0 : ∀ h, h.get? s.heap.objs.size = some (bare w) → (∀ b o, s.heap.get? b = some o → h.get? b = some o) → J 0 h)
    (keep : ∀ i h h', J i h → (∀ b o, b ≠ s.heap.objs.size + 1 → h.get? b = some o → h'.get? b = some o) → J i h')
    (add : ∀ i v (s1 : Shared) (E : Value → Shared → Prop), us[i]? = some v → J i s1.heap → wpAny (model P w) A.in1.in1.in1 (setAdd s.heap.objs.size v) (fun _ => Only s.heap.objs.size (J (i + 1)) s1) E s1)
    (q : ∀ h' tk, J us.size h' → (∀ b o, s.heap.get? b = some o → h'.get? b = some o) → Q (.ref s.heap.objs.size) { s with heap := h', toks := tk }) :
    wpAny (model P w) A (call (.type "set") [.ref l]) Q E s := by
  have hd : A.in1.in1.in1.handled = none := by simp [hh]
  have old : ∀ b o, s.heap.get? b = some o → (s.heap.push (bare w)).get? b = some o := fun b o e => Heap.get?_push_of_some _ e
  have sz : (s.heap.push (bare w)).objs.size = s.heap.objs.size + 1 := Heap.size_push ..
  have new : (s.heap.push (bare w)).get? s.heap.objs.size = some (bare w) := Heap.get?_push_size _ rfl
  have fin : ∀ (T : String) (L : l < s.heap.objs.size) (St : Nat → Heap → Prop) (ob : Obj), St 0 ((s.heap.push (bare w)).push ob) →
      Walks P w A.in1.in1.in1 (s.heap.push (bare w)).objs.size [(s.heap.push (bare w)).objs.size, l] [(s.heap.push (bare w)).objs.size] us.size (fun i v => us[i]? = some v) St →
      codeAny (model P w) A.in1.in1 (.builtin "set.update.loop" ⟨[.ref s.heap.objs.size, .ref (s.heap.push (bare w)).objs.size], []⟩) (fun r s3 => r = .ok (.ret .none) ∧ Q (.ref s.heap.objs.size) s3) { s with heap := (s.heap.push (bare w)).push ob } := by
    intro T L St ob st W
    rw [sz] at W ⊢
    have two : ∀ b o, s.heap.get? b = some o → ((s.heap.push (bare w)).push ob).get? b = some o := fun b o e => Heap.get?_push_of_some _ (old b o e)
    refine codeAny_mono (fill W (apart L).1 (fun i h h' j k => keep i h h' j fun b o hb => k b o (by simpa using hb)) (fun i v s1 E _ pv j => add i v s1 E pv j) us.size 0 _ (Nat.zero_add _) st (j0 _ (Heap.get?_push_of_some _ new) two)) ?_
    rintro _ _ ⟨rfl, h', tk, rfl, j, k⟩
    exact ⟨rfl, q h' tk j fun b o e => k b o (Nat.ne_of_lt (Heap.lt_size e)) (apart (Heap.lt_size e)).2.2 (two b o e)⟩
  rcases src with src | src
  · have L : l < s.heap.objs.size := by obtain ⟨o, ho, _⟩ := src; exact Heap.lt_size ho
    refine call_of src.typeIs PySem.F.sub_list_set PySem.F.sub_list_frozenset (by decide) fun E' => wpAny_pyIter_list (src.push _) (fin "list" L _ _ ⟨⟨_, Heap.get?_push_size _ rfl, rfl, rfl⟩, (src.push _).push _⟩ (Walks.list hd _ l ?_ us))
    rw [sz]; exact (apart L).2.1
  · have L : l < s.heap.objs.size := by obtain ⟨o, ho, _⟩ := src; exact Heap.lt_size ho
    refine call_of src.typeIs PySem.F.sub_tuple_set PySem.F.sub_tuple_frozenset (by decide) fun E' => wpAny_pyIter_tuple (src.push _) (fin "tuple" L _ _ ⟨⟨_, Heap.get?_push_size _ rfl, rfl, rfl⟩, (src.push _).push _⟩ (Walks.tuple hd _ l ?_ us))
    rw [sz]; exact (apart L).2.1
end
end ZS
end
section
set_option maxHeartbeats 2000000
/-! sets whose members are found by a scan: ints, texts, bools, None -/
namespace ZS
open PySem PySem.Spec PyProof.Rows L2
open PySem.Froz (sObj SD tailTx addTail_x)
section
variable {P : Program} {w : World} {A : Around} {E : Value → Shared → Prop} {s : Shared} {K : Type} [DecidableEq K] [BEq K] [LawfulBEq K] {knd : KeyKind P w K}
def Apart (knd : KeyKind P w K) (e e' : Int × Value) : Prop := ∀ k, ¬(knd.is k e.2 = true ∧ knd.is k e'.2 = true)
/-- what a table tells that can be walked -/
structure Tab (w : World) (t : SetTable) (n : Nat) : Prop where
  fits : t.fits n = true
  ris : Ris t.place.toList
  led : w.params.followText "set-order" = true ∨ t.led = true
structure Scan (knd : KeyKind P w K) (D : SD) (L : List K) : Prop where
  el : ElemsOf knd D.1.toList
  mem : ∀ k, k ∈ L ↔ ∃ e ∈ D.1.toList, knd.is k e.2 = true
  ap : D.1.toList.Pairwise (Apart knd)
  few : D.1.size ≤ L.length
  tab : Tab w D.2.2 D.1.size
theorem Scan.perm {es es' : Array (Int × Value)} {ep ep' : Nat} {t t' : SetTable} {L : List K} (R : Scan knd (es, ep, t) L) (p : es'.toList.Perm es.toList) (T : Tab w t' es'.size) : Scan knd (es', ep', t') L where
  el := fun e he => R.el e (p.mem_iff.mp he)
  mem := fun k => (R.mem k).trans (exists_congr fun e => and_congr_left fun _ => p.mem_iff.symm)
  ap := (p.pairwise_iff fun x k z => x k z.symm).mpr R.ap
  few := by
    have := p.length_eq
    rw [Array.length_toList, Array.length_toList] at this
    exact this ▸ R.few
  tab := T
/-- the payload behind what may be a laying anew -/
theorem Scan.tail {es : Array (Int × Value)} {ep : Nat} {t : SetTable} {L : List K} (R : Scan knd (es, ep, t) L) (wd : Bool) : Scan knd (tailTx ep es t wd) L := by
  unfold tailTx
  split
  · exact R.perm (relayAll_perm t es _) ⟨relayAll_fits t es _, relayAll_ris t es _, R.tab.led.imp id fun z => (relayAll_led t es _).trans z⟩
  · exact R.perm (.refl _) R.tab
theorem is_one {k k' : K} {x : Value} (h : knd.is k x = true) : knd.is k' x = true ↔ k' = k := ⟨fun h' => knd.inj x k' k h' h, fun e => e ▸ h⟩
/-- a member more -/
theorem Scan.more {es es' : Array (Int × Value)} {ep ep' : Nat} {t t' : SetTable} {L : List K} {k : K} {x : Value} (R : Scan knd (es, ep, t) L) (hx : knd.is k x = true) (hs : x.scannable = true) (hk : k ∉ L)
    (p : es'.toList.Perm ((knd.hash k, x) :: es.toList)) (T : Tab w t' es'.size) : Scan knd (es', ep', t') (L ++ [k]) where
  el := fun e he => by
    rcases List.mem_cons.mp (p.mem_iff.mp he) with rfl | he
    · exact ⟨⟨k, hx, rfl⟩, hs⟩
    · exact R.el e he
  mem := fun k' => by
    rw [List.mem_append, List.mem_singleton, R.mem k', ← is_one hx]
    constructor
    · rintro (⟨e, he, q⟩ | q)
      · exact ⟨e, p.mem_iff.mpr (List.mem_cons_of_mem _ he), q⟩
      · exact ⟨_, p.mem_iff.mpr List.mem_cons_self, q⟩
    · rintro ⟨e, he, q⟩
      rcases List.mem_cons.mp (p.mem_iff.mp he) with rfl | he
      · exact .inr q
      · exact .inl ⟨e, he, q⟩
  ap := (p.pairwise_iff fun x k z => x k z.symm).mpr (List.pairwise_cons.mpr ⟨fun e he k' z => hk ((R.mem k).mpr ⟨e, he, ((is_one hx).mp z.1) ▸ z.2⟩), R.ap⟩)
  few := by
    have := p.length_eq
    rw [List.length_cons, Array.length_toList, Array.length_toList] at this
    rw [List.length_append]
    exact this ▸ Nat.succ_le_succ R.few
  tab := T
/-- the set at a has just the members of L -/
def ScanAt (knd : KeyKind P w K) (h : Heap) (a : Addr) (L : List K) : Prop := ∃ D, h.get? a = some (sObj "set" D) ∧ Scan knd D L
theorem scan_bare {h : Heap} {a : Addr} (e : h.get? a = some (bare w)) : ScanAt knd h a [] :=
  ⟨_, e, fun _ z => (by simp at z), fun k => by simp, .nil, Nat.le_refl _, rfl, .nil, by
    show _ ∨ (!w.params.followText "set-order") = true
    cases w.params.followText "set-order"
    · exact .inr rfl
    · exact .inl rfl⟩
theorem put_one {h : Heap} {a : Addr} {X Y : Obj} (e : h.get? a = some X) (hf : Y.isFreed = false) : (h.update a fun _ => Y).get? a = some Y := PySem.Froz.get_upd Y e hf
theorem only_refl {a : Addr} {J : Heap → Prop} (j : J s.heap) : Only a J s s := ⟨s.heap, s.toks, rfl, .refl _ _, j⟩
theorem scan_hashed {a : Addr} {L : List K} {k : K} {x : Value} (R : ScanAt knd s.heap a L) (hx : knd.is k x = true) (hs : x.scannable = true) (few : L.length + 1 < scanBound) :
    wpAny (model P w) A (setAddHashed a x (knd.hash k)) (fun _ => Only a (fun h => ScanAt knd h a (L ++ [k])) s) E s := by
  obtain ⟨⟨es, ep, t⟩, at_, R⟩ := R
  have lt : es.size < scanBound := Nat.lt_of_le_of_lt R.few (by omega)
  have say : ∀ (b : Bool) (s₁ : Shared) (Q : Unit → Shared → Prop), Q () s₁ → wpAny (model P w) A (match b with | true => rule "set.scan.the-table-gave-way" | false => pure ()) Q E s₁ := fun b _ _ q => by
    cases b
    · exact wpAny_pure q
    · exact wpAny_rule q
  unfold setAddHashed setAddHashedIn
  refine wpAny_holding (wpAny_bind (wpAny_setState_of at_ rfl R.tab.fits ?_))
  dsimp only
  rw [byScan_of hs lt R.el, if_pos rfl]
  unfold setAddByScan
  refine wpAny_bind (wpAny_bind (wpAny_rule (wpAny_bind (wpAny_setScan_of hx at_ rfl R.tab.fits R.el ?_))))
  cases hf : List.findIdx? (fun e => knd.is k e.2) es.toList with
  | some j =>
    obtain ⟨hj, is_, _⟩ := List.findIdx?_eq_some_iff_getElem.mp hf
    have inL := (R.mem k).mpr ⟨_, List.getElem_mem hj, is_⟩
    refine wpAny_pure (wpAny_pure (only_refl ⟨_, at_, R.el, fun k' => ?_, R.ap, Nat.le_trans R.few (by simp), R.tab⟩))
    rw [List.mem_append, List.mem_singleton, ← R.mem k']
    exact ⟨fun z => z.elim id fun e => e ▸ inL, .inl⟩
  | none =>
    have outL : k ∉ L := fun z => by
      obtain ⟨e, he, q⟩ := (R.mem k).mp z
      exact absurd q (by rw [List.findIdx?_eq_none_iff.mp hf e he]; decide)
    have p := layNew_perm t es (knd.hash k) x
    have T : Tab w (layNew t es (knd.hash k) x).2.1 (layNew t es (knd.hash k) x).1.size := ⟨layNew_fits .., layNew_ris _ _ _ _ R.tab.ris, R.tab.led.imp id fun z => (layNew_led ..).trans z⟩
    generalize layNew t es (knd.hash k) x = Z at p T
    obtain ⟨es1, t1, wd, gave⟩ := Z
    dsimp only at p T ⊢
    rw [Array.toList_push] at p
    have p := p.trans (List.perm_append_singleton _ _)
    have lt1 : es1.size < scanBound := by
      have := p.length_eq
      rw [List.length_cons, Array.length_toList, Array.length_toList] at this
      have := R.few
      dsimp only at this
      omega
    have done : ∀ t2, Tab w t2 es1.size → Only a (fun h => ScanAt knd h a (L ++ [k])) s { s with heap := s.heap.update a fun _ => sObj "set" (tailTx ep es1 t2 wd) } := fun t2 T2 =>
      ⟨_, s.toks, rfl, .update .., _, put_one at_ rfl, (R.more hx hs outL p T2).tail wd⟩
    refine wpAny_bind (say _ _ _ ?_)
    split
    · rw [hashByValue_scannable 8 hs]
      refine wpAny_bind (wpAny_pure (addTail_x say at_ lt1 (wpAny_pure (done _ ?_))))
      split
      · exact T
      · exact ⟨SetTable.fits_plain_off T.fits, T.ris, T.led⟩
    · exact wpAny_bind (wpAny_pure (addTail_x say at_ lt1 (wpAny_pure (done _ T))))
theorem scan_add {a : Addr} {L : List K} {k : K} {x : Value} (R : ScanAt knd s.heap a L) (hx : knd.is k x = true) (hs : x.scannable = true) (few : L.length + 1 < scanBound) :
    wpAny (model P w) A (setAdd a x) (fun _ => Only a (fun h => ScanAt knd h a (L ++ [k])) s) E s := by
  unfold setAdd
  refine wpAny_holding (wpAny_bind (knd.pyHash hx (wpAny_mono (scan_hashed (s := { s with toks := s.toks + 1 }) R hx hs few) ?_ fun _ _ z => z)))
  rintro _ _ ⟨h', tk, rfl, sb, j⟩
  exact ⟨h', tk, rfl, sb, j⟩
/-- set(xs), xs a list or tuple of what a scan finds -/
theorem call_scan {l : Addr} {us : Array Value} {L : List K} {Q : Value → Shared → Prop} (src : s.heap.IsList l us ∨ s.heap.IsTuple l us) (hh : A.handled = none) (few : L.length < scanBound)
    (is_ : PySem.W.EachIs (fun v k => knd.is k v = true ∧ v.scannable = true) us.toList L)
    (q : ∀ h' tk, ScanAt knd h' s.heap.objs.size L → (∀ b o, s.heap.get? b = some o → h'.get? b = some o) → Q (.ref s.heap.objs.size) { s with heap := h', toks := tk }) :
    wpAny (model P w) A (call (.type "set") [.ref l]) Q E s := by
  have len : us.size = L.length := by rw [← Array.length_toList, PySem.W.EachIs.length is_]
  have atI : ∀ {us : List Value} {L : List K}, PySem.W.EachIs (fun v k => knd.is k v = true ∧ v.scannable = true) us L → ∀ (i : Nat) (v : Value), us[i]? = some v → ∃ k, L[i]? = some k ∧ knd.is k v = true ∧ v.scannable = true := by
    intro us L h
    induction h with
    | nil => intro i v e; simp at e
    | cons h _ ih =>
      intro i v e
      cases i with
      | zero => cases e; exact ⟨_, rfl, h⟩
      | succ i => exact ih i v e
  refine call_set (J := fun i h => ScanAt knd h s.heap.objs.size (L.take i)) src hh (fun h e _ => scan_bare e) (fun i h h' ⟨D, e, R⟩ k => ⟨D, k _ _ (Nat.ne_of_lt (Nat.lt_succ_self _)) e, R⟩) (fun i v s1 E pv R => ?_) fun h' tk R k => q h' tk ?_ k
  · obtain ⟨k, hk, hx, hs⟩ := atI is_ i v (by rw [Array.getElem?_toList]; exact pv)
    have lt : i < L.length := (List.getElem?_eq_some_iff.mp hk).1
    have e : L.take (i + 1) = L.take i ++ [k] := by rw [List.take_add_one, hk] <;> rfl
    rw [e]
    exact scan_add R hx hs (by rw [List.length_take]; omega)
  · rw [len, List.take_length] at R
    exact R
end
end ZS
end
section
set_option maxHeartbeats 2000000
/-! sorted(a set), by what its members read as -/
namespace ZS
open PySem PySem.Spec PyProof.Rows L2
open PySem.Froz (sObj SD)
theorem each_of {α β : Type} {R : α → β → Prop} : ∀ (l : List α), (∀ a ∈ l, ∃ b, R a b) → ∃ bs, PySem.W.EachIs R l bs
  | [], _ => ⟨[], .nil⟩
  | a :: l, h => by
    obtain ⟨b, hb⟩ := h a List.mem_cons_self
    obtain ⟨bs, hs⟩ := each_of l fun x hx => h x (List.mem_cons_of_mem _ hx)
    exact ⟨b :: bs, .cons hb hs⟩
theorem each_mem_iff {α β : Type} {R : α → β → Prop} (one : ∀ a b b', R a b → R a b' → b = b') : ∀ {l : List α} {bs : List β}, PySem.W.EachIs R l bs → ∀ b, b ∈ bs ↔ ∃ a ∈ l, R a b
  | _, _, .nil, b => by simp
  | _, _, .cons h hs, b => by
    have ih := each_mem_iff one hs b
    constructor
    · intro z
      rcases List.mem_cons.mp z with rfl | z
      · exact ⟨_, List.mem_cons_self, h⟩
      · obtain ⟨a, ha, r⟩ := ih.mp z
        exact ⟨a, List.mem_cons_of_mem _ ha, r⟩
    · rintro ⟨a, ha, r⟩
      rcases List.mem_cons.mp ha with rfl | ha
      · exact one _ _ _ r h ▸ List.mem_cons_self
      · exact List.mem_cons_of_mem _ (ih.mpr ⟨a, ha, r⟩)
theorem each_nodup {α β : Type} {R : α → β → Prop} (one : ∀ a b b', R a b → R a b' → b = b') : ∀ {l : List α} {bs : List β}, PySem.W.EachIs R l bs → l.Pairwise (fun a a' => ∀ b, ¬(R a b ∧ R a' b)) → bs.Nodup
  | _, _, .nil, _ => .nil
  | _, _, .cons h hs, p => by
    obtain ⟨p1, p2⟩ := List.pairwise_cons.mp p
    refine List.nodup_cons.mpr ⟨fun z => ?_, each_nodup one hs p2⟩
    obtain ⟨a, ha, r⟩ := (each_mem_iff one hs _).mp z
    exact p1 a ha _ ⟨h, r⟩
section
variable {P : Program} {w : World} {A : Around} {E : Value → Shared → Prop} {s : Shared}
theorem sorted_of {a : Addr} {D : SD} {β : Type} {R : Value → β → Prop} (enc : β → PyData) {Q : Value → Shared → Prop} (at_ : s.heap.get? a = some (sObj "set" D)) (T : Tab w D.2.2 D.1.size) (few : D.1.size < scanBound) (hh : A.handled = none)
    (one : ∀ v b b', R v b → R v b' → b = b') (ms : ∀ e ∈ D.1.toList, ∃ b, R e.2 b)
    (rd : ∀ e ∈ D.1.toList, ∀ b h', R e.2 b → (∀ c o, s.heap.get? c = some o → h'.get? c = some o) → Reads h' e.2 (enc b) [])
    (al : ∀ b b', PySem.W.alike (enc b) (enc b') = true) (so : ∀ bs : List β, PySem.W.Sortable (bs.map enc)) (dp : ∀ b, (enc b).depth ≤ 1) (hu : A.units + 8 < cLine)
    (hQ : ∀ s' p (out : List Value) (c : Nat) (bs : List β), (∀ b o, s.heap.get? b = some o → s'.heap.get? b = some o) → s'.gens = s.gens → s'.os = s.os → s.heap.objs.size ≤ p → s'.heap.get? p = some (seqObj "list" (List.toArray out) c) →
      PySem.W.EachIs R out (bs.mergeSort (PySem.W.dataLe false enc)) → (∀ v ∈ out, ∃ e ∈ D.1.toList, v = e.2) → (∀ b, b ∈ bs ↔ ∃ e ∈ D.1.toList, R e.2 b) → (D.1.toList.Pairwise (fun e e' => ∀ b, ¬(R e.2 b ∧ R e'.2 b)) → bs.Nodup) → bs.length = D.1.size → Q (.ref p) s') :
    wpAny (model P w) A (call (.builtin "sorted") [.ref a]) Q E s := by
  obtain ⟨es, ep, t⟩ := D
  refine Calls.call_function_entry kind_sorted plain_sorted entry_sorted (args_sorted1 _) ?_
  unfold Builtin.«sorted»
  refine wpAny_bind (m := checkCount "sorted" 1 1 _) (wpAny_pure ?_)
  refine wpAny_bind (collect_set (A := A.in1) hh ⟨_, at_, rfl, rfl⟩ T.fits few T.ris T.led fun s1 vs k1 hz g1 o1 pm => ?_)
  have from_ : ∀ v ∈ vs, ∃ e ∈ es.toList, v = e.2 := fun v hv => by
    obtain ⟨e, he, q⟩ := List.mem_map.mp (pm.mem_iff.mp hv)
    exact ⟨e, he, q.symm⟩
  obtain ⟨bs, eb⟩ := each_of (R := fun v b => R v b ∧ ∃ e ∈ es.toList, v = e.2) vs fun v hv => by
    obtain ⟨e, he, rfl⟩ := from_ v hv
    obtain ⟨b, hb⟩ := ms e he
    exact ⟨b, hb, e, he, rfl⟩
  have one' : ∀ v b b', (R v b ∧ ∃ e ∈ es.toList, v = e.2) → (R v b' ∧ ∃ e ∈ es.toList, v = e.2) → b = b' := fun v b b' h h' => one v b b' h.1 h'.1
  have lv : vs.length = es.size := by rw [pm.length_eq, List.length_map, Array.length_toList]
  have lb := PySem.W.EachIs.length eb
  have sl : vs.length ≤ sizeLine := by
    rw [lv, sizeLine_eq]
    unfold scanBound at few
    dsimp only at few
    omega
  have mem : ∀ b, b ∈ bs ↔ ∃ e ∈ es.toList, R e.2 b := fun b => by
    rw [each_mem_iff one' eb b]
    constructor
    · rintro ⟨v, _, r, e, he, rfl⟩
      exact ⟨e, he, r⟩
    · rintro ⟨e, he, r⟩
      exact ⟨e.2, pm.mem_iff.mpr (List.mem_map.mpr ⟨e, he, rfl⟩), r, e, he, rfl⟩
  refine wpAny_bind (wpAny_newList ?_ sl)
  have new : (s1.heap.push (seqObj "list" vs.toArray 0)).get? s1.heap.objs.size = some (seqObj "list" vs.toArray 0) := Heap.get?_push_size _ rfl
  have more : ∀ c o, s.heap.get? c = some o → (s1.heap.push (seqObj "list" vs.toArray 0)).get? c = some o := fun c o e => Heap.get?_push_of_some _ (k1 c o e)
  have all : PySem.W.AllAlike (bs.map enc) := PySem.W.AllAlike.of al
  refine wpAny_bind (wpAny_holding (PySem.W.list_sort_data (s := { s1 with heap := s1.heap.push (seqObj "list" vs.toArray 0) }) new eb (eb.mono fun v b ⟨r, e, he, z⟩ => ⟨[], by rw [z] at r ⊢; exact rd e he b _ r more, by simp⟩) all (so bs) (by rw [← lb]; exact sl) (fun b _ => ?_) fun out lo eo => ?_))
  · have := dp b
    have e1 : A.in1.units = A.units + 1 := Around.in1_units A
    omega
  · obtain ⟨c, hc⟩ := sortedHeap_at (vs := vs) (out := out.toArray) new
    refine wpAny_pure ⟨_, rfl, hQ _ s1.heap.objs.size out c bs (fun b u e => ?_) g1 o1 hz hc (eo.mono fun _ _ z => z.1) (fun v hv => ?_) mem (fun pw => each_nodup one' eb ?_) (by rw [← lb, lv])⟩
    · have q := k1 b u e
      have lt := Heap.lt_size q
      exact (sortedHeap_old (Nat.ne_of_lt lt) (by rw [size_push']; exact Nat.lt_succ_of_lt lt)).trans (Heap.get?_push_of_some _ q)
    · obtain ⟨b, _, z⟩ := PySem.W.EachIs.left eo v hv
      exact z.2
    · refine (pm.pairwise_iff fun x b z => x b z.symm).mpr (List.pairwise_map.mpr ?_)
      exact pw.imp fun x b z => x b ⟨z.1.1, z.2.1⟩
end
end ZS
end
section
set_option maxHeartbeats 2000000
/-! set(texts), sorted(a set of texts) as words -/
namespace ZS
open PySem PySem.Spec PyProof.Rows L2
/-- a call that leaves all as it was beside a new list -/
theorem inv_list {X : Cx} {pins : List (Addr × Obj)} {σ : L2.St} {H : Hp} {s s' : Shared} (I : L2.Inv X pins σ H s) {p : Addr} {out : List Value} {c : Nat} {ys : List V} (k : ∀ b o, s.heap.get? b = some o → s'.heap.get? b = some o) (g : s'.gens = s.gens) (o : s'.os = s.os)
    (hp : s.heap.objs.size ≤ p) (hg : s'.heap.get? p = some (seqObj "list" out.toArray c)) (r : Vals ys out) (hz : ys.length ≤ sizeLine) : H p = none ∧ L2.Inv X pins σ (upd H p (.lst ys)) s' := by
  have free : H p = none := I.hok.fresh hp
  exact ⟨free, I.call' (ch := []) o (Un.laid k hp free) (I.hok.laid k hp (show ObjOk X.prog X.w _ s'.heap p (.lst ys) from ⟨hz, out, c, r, hg⟩)) (g ▸ I.bare) (fun _ z => nomatch z)⟩
end ZS
namespace SX
open PySem PySem.Spec PyProof.Rows L2 ZS
/-- the set at a holds just the texts ks -/
def SetO (w : World) (a : Addr) (ks : List Str) : HO := .ext fun h => ∃ P : Program, ScanAt (strKind P w) h a ks
theorem setO_new {P : Program} {w : World} {H : Hp} {h : Heap} {a : Addr} {ks : List Str} (R : ScanAt (strKind P w) h a ks) : ObjOk P w H h a (SetO w a ks) :=
  ⟨⟨P, R⟩, let ⟨_, e, _⟩ := R; ⟨_, e⟩, fun _ _ ⟨P', D, e, S⟩ k => ⟨P', D, k _ e, S⟩⟩
theorem each_strs {P : Program} {w : World} : ∀ {ks : List Str} {us : List Value}, Vals (ks.map V.str) us → PySem.W.EachIs (fun v k => (strKind P w).is k v = true ∧ v.scannable = true) us ks
  | [], _, .nil => .nil
  | k :: ks, _, .cons ⟨t, e⟩ rs => .cons (by subst e; exact ⟨strKind_is P w k t, rfl⟩) (each_strs rs)
theorem strs_each : ∀ {ks : List Str} {us : List Value}, PySem.W.EachIs (fun v k => ∃ t, v = Value.str k t) us ks → Vals (ks.map V.str) us
  | _, _, .nil => .nil
  | _, _, .cons h hs => .cons h (strs_each hs)
theorem rising_of : ∀ (p : Str) (l : List Str), (p :: l).Pairwise (fun a b => a.cps.toList ≤ b.cps.toList) → risingS p l = true
  | _, [], _ => rfl
  | p, x :: l, h => by
    obtain ⟨h1, h2⟩ := List.pairwise_cons.mp h
    show (!PySem.Spec.ltCps x.cps.toList p.cps.toList && risingS x l) = true
    rw [rising_of x l h2, ltCps_eq, decide_eq_false (List.not_lt.mpr (h1 x List.mem_cons_self))]
    rfl
theorem sorted_of_le : ∀ (l : List Str), l.Pairwise (fun a b => a.cps.toList ≤ b.cps.toList) → sortedS l = true
  | [], _ => rfl
  | x :: l, h => rising_of x l h
section
variable {X : Cx}
def rSet (K : PySem.W.Frag) (w : World) : List V → Hp → VK → Prop := fun xs H Q => ∃ (l : Addr) (ks : List Str), xs = [V.ref l] ∧ (SqL K H l (ks.map V.str) ∨ SqT K H l (ks.map V.str)) ∧ ks.length < 4000 ∧ ∀ a, H a = none → Q (.ref a) (upd H a (SetO w a ks))
theorem cr_set (hc : X.calm = true) : CallR X (.type "set") (rSet X.K X.w) := by
  rintro pins s σ H _ us Q I r ⟨l, ks, rfl, hl, few, q⟩
  rw [Vals.ref1 r]
  have src : ∃ its, Vals (ks.map V.str) its ∧ (s.heap.IsList l its.toArray ∨ s.heap.IsTuple l its.toArray) := by
    rcases hl with hl | hl
    · obtain ⟨its, rv, pl, _⟩ := I.list hl
      exact ⟨its, rv, .inl pl.isList⟩
    · obtain ⟨its, rv, pt, _⟩ := I.tuple hl
      exact ⟨its, rv, .inr pt⟩
  obtain ⟨its, rv, src⟩ := src
  refine call_scan (knd := strKind X.prog X.w) (L := ks) src (I.ok.hd hc) (by unfold scanBound; omega) (by simpa using each_strs rv) fun h' tk R k => ?_
  exact ⟨.ref s.heap.objs.size, _, I.laid (t' := tk) k (Nat.le_refl _) (setO_new R), rfl, q _ (I.hok.fresh (Nat.le_refl _))⟩
def rSorted (w : World) : List V → Hp → VK → Prop := fun vs H Q => ∃ (a : Addr) (ks : List Str), vs = [V.ref a] ∧ H a = some (SetO w a ks) ∧ ks.length < 4000 ∧
  ∀ (ys : List Str) (p : Addr), sortedS ys = true → ys.Nodup → (∀ k, k ∈ ys ↔ k ∈ ks) → H p = none → Q (.ref p) (upd H p (.lst (ys.map V.str)))
theorem cr_sorted (hc : X.calm = true) (hu : X.A.units + 64 < cLine) : CallR X (.builtin "sorted") (rSorted X.w) := by
  rintro pins s σ H _ us Q I r ⟨a, ks, rfl, ha, few, q⟩
  rw [Vals.ref1 r]
  obtain ⟨P, D, e, S⟩ := (I.hok a _ ha).1
  have lt : D.1.size < scanBound := by
    have := S.few
    unfold scanBound
    omega
  have shape : ∀ e ∈ D.1.toList, ∃ k t, e.2 = Value.str k t ∧ ∀ k', (strKind P X.w).is k' e.2 = true ↔ k' = k := fun e he => by
    obtain ⟨⟨k, hk, _⟩, _⟩ := S.el e he
    obtain ⟨t, ht⟩ := Value.isStrOf_shape (show Value.isStrOf k e.2 = true from hk)
    exact ⟨k, t, ht, fun k' => is_one hk⟩
  have same : ∀ e ∈ D.1.toList, ∀ k, (∃ t, e.2 = Value.str k t) ↔ (strKind P X.w).is k e.2 = true := fun e he k => by
    obtain ⟨k1, t1, e1, i1⟩ := shape e he
    rw [i1 k, e1]
    exact ⟨fun ⟨t, z⟩ => by cases z; rfl, fun z => ⟨t1, by rw [z]⟩⟩
  refine sorted_of (R := fun v k => ∃ t, v = Value.str k t) PyData.str e S.tab lt (I.ok.hd hc) ?_ ?_ ?_ (fun _ _ => rfl) (fun bs => PySem.W.Sortable.others fun b => ⟨(fun z => nomatch z), (fun _ z => nomatch z)⟩) (fun _ => Nat.zero_le _) (by omega) ?_
  · rintro v b b' ⟨t, rfl⟩ ⟨t', z⟩
    cases z
    rfl
  · intro e he
    obtain ⟨k, t, h, _⟩ := shape e he
    exact ⟨k, t, h⟩
  · rintro e he b h' ⟨t, z⟩ _
    rw [z]
    exact .str b t
  · intro s' p out c bs k g o hp hg er _ mem nd len
    have pm := List.mergeSort_perm bs (PySem.W.dataLe false PyData.str)
    have ln : ((bs.mergeSort (PySem.W.dataLe false PyData.str)).map V.str).length ≤ sizeLine := by
      rw [List.length_map, pm.length_eq, len, sizeLine_eq]
      unfold scanBound at lt
      omega
    obtain ⟨free, J⟩ := inv_list I k g o hp hg (strs_each er) ln
    refine ⟨.ref p, _, J, rfl, q _ p (sorted_of_le _ ?_) (pm.nodup_iff.mpr (nd (S.ap.imp_of_mem fun ha hb z b y => z b ⟨(same _ ha b).mp y.1, (same _ hb b).mp y.2⟩))) (fun b => ?_) free⟩
    · have le := PySem.W.dataLe_str (k := fun b : Str => b)
      rw [show (PySem.W.dataLe false PyData.str) = fun a b : Str => decide (a.cps.toList ≤ b.cps.toList) from le]
      refine (List.pairwise_mergeSort (fun a b c h1 h2 => ?_) (fun a b => ?_) bs).imp fun h => of_decide_eq_true h
      · exact decide_eq_true (List.le_trans (of_decide_eq_true h1) (of_decide_eq_true h2))
      · rw [Bool.or_eq_true, decide_eq_true_eq, decide_eq_true_eq]
        exact List.le_total _ _
    · rw [pm.mem_iff, mem b, S.mem b]
      exact exists_congr fun e => and_congr_right fun he => same e he b
end
end SX
end
section
namespace TM
/-! the mathematics of lists of days -/
def onL (ns : List Int) (x : Int) : Int := ns.getD (x % (ns.length : Int)).toNat 0 + x / (ns.length : Int) * (ns.length : Int)
structure Good (ns : List Int) : Prop where
  pos : 1 ≤ ns.length
  most : ns.length ≤ 600
  up : ∀ i j : Nat, i ≤ j → j < ns.length → ns.getD i 0 ≤ ns.getD j 0
  span : ns.getD (ns.length - 1) 0 - ns.getD 0 0 ≤ (ns.length : Int)
section
variable {ns : List Int} (g : Good ns)
include g
theorem Good.posI : (0 : Int) < (ns.length : Int) := by have := g.pos; omega
theorem on_at {i : Nat} (hi : i < ns.length) (t : Int) : onL ns ((i : Int) + t * (ns.length : Int)) = ns.getD i 0 + t * (ns.length : Int) := by
  have hp := g.posI
  unfold onL
  have e1 : ((i : Int) + t * (ns.length : Int)) % (ns.length : Int) = (i : Int) := by
    rw [Int.add_mul_emod_self_right, Int.emod_eq_of_lt (by omega) (by omega)]
  have e2 : ((i : Int) + t * (ns.length : Int)) / (ns.length : Int) = t := by
    rw [Int.add_mul_ediv_right _ _ (by omega), Int.ediv_eq_zero_of_lt (by omega) (by omega), Int.zero_add]
  rw [e1, e2, Int.toNat_natCast]
theorem split_at (x : Int) : ∃ (i : Nat) (t : Int), i < ns.length ∧ x = (i : Int) + t * (ns.length : Int) := by
  have hp := g.posI
  refine ⟨(x % (ns.length : Int)).toNat, x / (ns.length : Int), ?_, ?_⟩
  · have h1 := Int.emod_nonneg x (show (ns.length : Int) ≠ 0 by omega)
    have h2 := Int.emod_lt_of_pos x hp
    omega
  · have h1 := Int.emod_nonneg x (show (ns.length : Int) ≠ 0 by omega)
    rw [Int.toNat_of_nonneg h1]
    have := Int.emod_add_mul_ediv x (ns.length : Int)
    rw [Int.mul_comm] at this
    omega
theorem on_len (x : Int) : onL ns (x + (ns.length : Int)) = onL ns x + (ns.length : Int) := by
  obtain ⟨i, t, hi, rfl⟩ := split_at g x
  have e : (i : Int) + t * (ns.length : Int) + (ns.length : Int) = (i : Int) + (t + 1) * (ns.length : Int) := by rw [Int.add_mul, Int.one_mul]; omega
  rw [e, on_at g hi, on_at g hi, Int.add_mul, Int.one_mul]; omega
theorem on_step (x : Int) : onL ns x ≤ onL ns (x + 1) := by
  obtain ⟨i, t, hi, rfl⟩ := split_at g x
  by_cases hl : i + 1 < ns.length
  · have e : (i : Int) + t * (ns.length : Int) + 1 = ((i + 1 : Nat) : Int) + t * (ns.length : Int) := by omega
    rw [e, on_at g hi, on_at g hl]
    have := g.up i (i + 1) (by omega) hl
    omega
  · have e0 : i + 1 = ns.length := by omega
    have e : (i : Int) + t * (ns.length : Int) + 1 = ((0 : Nat) : Int) + (t + 1) * (ns.length : Int) := by
      rw [Int.add_mul, Int.one_mul]; omega
    have h0 : 0 < ns.length := by omega
    rw [e, on_at g hi, on_at g h0, Int.add_mul, Int.one_mul]
    have := g.span
    have e1 : ns.length - 1 = i := by omega
    rw [e1] at this
    omega
theorem on_mono {x y : Int} (h : x ≤ y) : onL ns x ≤ onL ns y := by
  obtain ⟨k, hk⟩ : ∃ k : Nat, y = x + k := ⟨(y - x).toNat, by omega⟩
  subst hk
  clear h
  induction k with
  | zero => simp
  | succ k ih =>
    refine Int.le_trans ih ?_
    have := on_step g (x + k)
    have e : x + ((k + 1 : Nat) : Int) = x + (k : Int) + 1 := by omega
    rw [e]; exact this
end
/-- m is the first day with which y is served -/
def IsBy (ns : List Int) (y m : Int) : Prop := y ≤ onL ns m ∧ onL ns (m - 1) < y
theorem isBy_uniq {ns : List Int} (g : Good ns) {y m k : Int} (h : IsBy ns y m) (h' : IsBy ns y k) : m = k := by
  have a1 : ¬ m ≤ k - 1 := fun q => by have := on_mono g q; have := h.1; have := h'.2; omega
  have a2 : ¬ k ≤ m - 1 := fun q => by have := on_mono g q; have := h'.1; have := h.2; omega
  omega
/-- so many of ns, from the left, are below d -/
def IsCnt (ns : List Int) (d : Int) (c : Nat) : Prop := c ≤ ns.length ∧ (∀ i, i < c → ns.getD i 0 < d) ∧ ∀ i, c ≤ i → i < ns.length → d ≤ ns.getD i 0
theorem isBy_of_cnt {ns : List Int} (g : Good ns) {y : Int} {c : Nat} (h : IsCnt ns (y - (y - ns.getD 0 0 - 1) / (ns.length : Int) * (ns.length : Int)) c) :
    IsBy ns y ((c : Int) + (y - ns.getD 0 0 - 1) / (ns.length : Int) * (ns.length : Int)) := by
  have hp := g.posI
  have h0 : 0 < ns.length := by have := g.pos; omega
  generalize ht : (y - ns.getD 0 0 - 1) / (ns.length : Int) = t at *
  have hr1 := Int.emod_nonneg (y - ns.getD 0 0 - 1) (show (ns.length : Int) ≠ 0 by omega)
  have hr2 := Int.emod_lt_of_pos (y - ns.getD 0 0 - 1) hp
  have hr := Int.emod_add_mul_ediv (y - ns.getD 0 0 - 1) (ns.length : Int)
  rw [ht, Int.mul_comm] at hr
  obtain ⟨hc, hlo, hhi⟩ := h
  have c1 : 1 ≤ c := by
    refine Classical.byContradiction fun q => ?_
    have := hhi 0 (by omega) h0
    omega
  constructor
  · by_cases hl : c < ns.length
    · rw [on_at g hl]
      have := hhi c (Nat.le_refl _) hl
      omega
    · have e : c = ns.length := by omega
      have e2 : (c : Int) + t * (ns.length : Int) = ((0 : Nat) : Int) + (t + 1) * (ns.length : Int) := by rw [Int.add_mul, Int.one_mul]; omega
      rw [e2, on_at g h0, Int.add_mul, Int.one_mul]
      omega
  · have e : (c : Int) + t * (ns.length : Int) - 1 = ((c - 1 : Nat) : Int) + t * (ns.length : Int) := by omega
    rw [e, on_at g (by omega)]
    have := hlo (c - 1) (by omega)
    omega
theorem cnt_ex {ns : List Int} (g : Good ns) (d : Int) : ∃ c, IsCnt ns d c := by
  have key : ∀ n, n ≤ ns.length → ∃ c, c ≤ n ∧ (∀ i, i < c → ns.getD i 0 < d) ∧ ∀ i, c ≤ i → i < n → d ≤ ns.getD i 0 := by
    intro n
    induction n with
    | zero => exact fun _ => ⟨0, Nat.le_refl _, fun i h => absurd h (Nat.not_lt_zero _), fun i _ h => absurd h (Nat.not_lt_zero _)⟩
    | succ n ih =>
      intro hn
      obtain ⟨c, h1, h2, h3⟩ := ih (by omega)
      by_cases hd : d ≤ ns.getD n 0
      · exact ⟨c, by omega, h2, fun i q1 q2 => by
          by_cases e : i = n
          · subst e; exact hd
          · exact h3 i q1 (by omega)⟩
      · refine ⟨n + 1, Nat.le_refl _, fun i q => ?_, fun i q1 q2 => absurd q2 (by omega)⟩
        have := g.up i n (by omega) (by omega)
        omega
  exact key ns.length (Nat.le_refl _)
theorem cnt_uniq {ns : List Int} {d : Int} {a b : Nat} (h : IsCnt ns d a) (h' : IsCnt ns d b) : a = b := by
  have q1 : ¬ a < b := fun q => by have := h.2.2 a (Nat.le_refl _) (by have := h'.1; omega); have := h'.2.1 a q; omega
  have q2 : ¬ b < a := fun q => by have := h'.2.2 b (Nat.le_refl _) (by have := h.1; omega); have := h.2.1 b q; omega
  omega
theorem by_ex {ns : List Int} (g : Good ns) (y : Int) : ∃ m, IsBy ns y m := by
  obtain ⟨c, hc⟩ := cnt_ex g (y - (y - ns.getD 0 0 - 1) / (ns.length : Int) * (ns.length : Int))
  exact ⟨_, isBy_of_cnt g hc⟩
open Classical in
noncomputable def byL (ns : List Int) (y : Int) : Int := if h : ∃ m, IsBy ns y m then Classical.choose h else 0
theorem byL_is {ns : List Int} (g : Good ns) (y : Int) : IsBy ns y (byL ns y) := by
  unfold byL
  rw [dif_pos (by_ex g y)]
  exact Classical.choose_spec (by_ex g y)
theorem byL_eq {ns : List Int} (g : Good ns) {y m : Int} (h : IsBy ns y m) : byL ns y = m := isBy_uniq g (byL_is g y) h
theorem by_le {ns : List Int} (g : Good ns) {x y : Int} : byL ns y ≤ x ↔ y ≤ onL ns x := by
  have h := byL_is g y
  constructor
  · exact fun q => Int.le_trans h.1 (on_mono g q)
  · intro q
    refine Classical.byContradiction fun n => ?_
    have := on_mono g (show x ≤ byL ns y - 1 by omega)
    have := h.2
    omega
/-- the day of a served one less itself is at most M, at least m -/
theorem on_le {ns : List Int} (g : Good ns) {M : Int} (h : ∀ i, i < ns.length → ns.getD i 0 - (i : Int) ≤ M) (x : Int) : onL ns x ≤ x + M := by
  obtain ⟨i, t, hi, rfl⟩ := split_at g x
  rw [on_at g hi]
  have := h i hi
  omega
theorem start_le {ns : List Int} (g : Good ns) {M y : Int} (h : ∀ i, i < ns.length → ns.getD i 0 - (i : Int) ≤ M) : y - M - 1 ≤ byL ns y := by
  have h1 := (byL_is g y).1
  have h2 := on_le g h (byL ns y)
  omega
end TM
end
section
namespace TM
/-! the mathematics of rules through rows -/
def IsMinL (l : List Int) (m : Int) : Prop := m ∈ l ∧ ∀ y, y ∈ l → m ≤ y
def IsMaxL (l : List Int) (m : Int) : Prop := m ∈ l ∧ ∀ y, y ∈ l → y ≤ m
theorem isMinL_ex : ∀ {l : List Int}, l ≠ [] → ∃ m, IsMinL l m
  | [], h => absurd rfl h
  | [a], _ => ⟨a, by simp, fun y hy => by simp at hy; omega⟩
  | a :: b :: l, _ => by
    obtain ⟨m, h1, h2⟩ := isMinL_ex (l := b :: l) (by simp)
    by_cases q : a ≤ m
    · exact ⟨a, by simp, fun y hy => by
        rcases List.mem_cons.mp hy with e | hy
        · omega
        · have := h2 y hy; omega⟩
    · exact ⟨m, List.mem_cons_of_mem _ h1, fun y hy => by
        rcases List.mem_cons.mp hy with e | hy
        · omega
        · exact h2 y hy⟩
theorem isMaxL_ex : ∀ {l : List Int}, l ≠ [] → ∃ m, IsMaxL l m
  | [], h => absurd rfl h
  | [a], _ => ⟨a, by simp, fun y hy => by simp at hy; omega⟩
  | a :: b :: l, _ => by
    obtain ⟨m, h1, h2⟩ := isMaxL_ex (l := b :: l) (by simp)
    by_cases q : m ≤ a
    · exact ⟨a, by simp, fun y hy => by
        rcases List.mem_cons.mp hy with e | hy
        · omega
        · have := h2 y hy; omega⟩
    · exact ⟨m, List.mem_cons_of_mem _ h1, fun y hy => by
        rcases List.mem_cons.mp hy with e | hy
        · omega
        · exact h2 y hy⟩
open Classical in
noncomputable def mxI (l : List Int) : Int := if h : ∃ m, IsMaxL l m then Classical.choose h else 0
open Classical in
noncomputable def mnI (l : List Int) : Int := if h : ∃ m, IsMinL l m then Classical.choose h else 0
theorem mxI_is {l : List Int} (h : l ≠ []) : IsMaxL l (mxI l) := by
  unfold mxI
  rw [dif_pos (isMaxL_ex h)]
  exact Classical.choose_spec (isMaxL_ex h)
theorem mnI_is {l : List Int} (h : l ≠ []) : IsMinL l (mnI l) := by
  unfold mnI
  rw [dif_pos (isMinL_ex h)]
  exact Classical.choose_spec (isMinL_ex h)
def early (L : Int) (r : Int × Int) (d : Int) : Int := r.2 + (d - r.1) / L * L
def late (L : Int) (r : Int × Int) (d : Int) : Int := r.2 - (r.1 - d) / L * L
section
variable {L : Int} (hL : 0 < L)
include hL
theorem early_near (r : Int × Int) (d : Int) : r.2 + (d - r.1) - L < early L r d ∧ early L r d ≤ r.2 + (d - r.1) := by
  have h1 := Int.emod_nonneg (d - r.1) (show L ≠ 0 by omega)
  have h2 := Int.emod_lt_of_pos (d - r.1) hL
  have h3 := Int.emod_add_mul_ediv (d - r.1) L
  rw [Int.mul_comm] at h3
  unfold early
  omega
theorem late_near (r : Int × Int) (d : Int) : r.2 - (r.1 - d) ≤ late L r d ∧ late L r d < r.2 - (r.1 - d) + L := by
  have h1 := Int.emod_nonneg (r.1 - d) (show L ≠ 0 by omega)
  have h2 := Int.emod_lt_of_pos (r.1 - d) hL
  have h3 := Int.emod_add_mul_ediv (r.1 - d) L
  rw [Int.mul_comm] at h3
  unfold late
  omega
theorem early_per (r : Int × Int) (d : Int) : early L r (d + L) = early L r d + L := by
  unfold early
  have e : d + L - r.1 = d - r.1 + 1 * L := by omega
  rw [e, Int.add_mul_ediv_right _ _ (by omega), Int.add_mul, Int.one_mul]
  omega
theorem late_per (r : Int × Int) (d : Int) : late L r (d + L) = late L r d + L := by
  unfold late
  have e : r.1 - (d + L) = r.1 - d + (-1) * L := by omega
  rw [e, Int.add_mul_ediv_right _ _ (by omega), Int.add_mul]
  omega
theorem early_mono (r : Int × Int) {d e : Int} (h : d ≤ e) : early L r d ≤ early L r e := by
  unfold early
  have := Int.mul_le_mul_of_nonneg_right (Int.ediv_le_ediv hL (show d - r.1 ≤ e - r.1 by omega)) (Int.le_of_lt hL)
  omega
theorem late_mono (r : Int × Int) {d e : Int} (h : d ≤ e) : late L r d ≤ late L r e := by
  unfold late
  have := Int.mul_le_mul_of_nonneg_right (Int.ediv_le_ediv hL (show r.1 - e ≤ r.1 - d by omega)) (Int.le_of_lt hL)
  omega
omit hL in
theorem early_self (r : Int × Int) : early L r r.1 = r.2 := by unfold early; rw [Int.sub_self, Int.zero_ediv, Int.zero_mul]; omega
omit hL in
theorem late_self (r : Int × Int) : late L r r.1 = r.2 := by unfold late; rw [Int.sub_self, Int.zero_ediv, Int.zero_mul]; omega
omit hL in
theorem early_late (r o : Int × Int) : early L r o.1 ≤ o.2 ↔ r.2 ≤ late L o r.1 := by
  unfold early late
  generalize (o.1 - r.1) / L * L = z
  omega
end
noncomputable def earT (L : Int) (rs : List (Int × Int)) (d : Int) : Int := mxI (rs.map fun r => early L r d)
noncomputable def latT (L : Int) (rs : List (Int × Int)) (d : Int) : Int := mnI (rs.map fun r => late L r d)
section
variable {L : Int} {rs ss : List (Int × Int)} (h0 : rs ≠ [])
include h0
theorem ear_is (d : Int) : IsMaxL (rs.map fun r => early L r d) (earT L rs d) := mxI_is (by simpa using h0)
theorem lat_is (d : Int) : IsMinL (rs.map fun r => late L r d) (latT L rs d) := mnI_is (by simpa using h0)
theorem ear_ge {d : Int} {r : Int × Int} (h : r ∈ rs) : early L r d ≤ earT L rs d := (ear_is h0 d).2 _ (List.mem_map_of_mem h)
theorem lat_le {d : Int} {r : Int × Int} (h : r ∈ rs) : latT L rs d ≤ late L r d := (lat_is h0 d).2 _ (List.mem_map_of_mem h)
theorem ear_ex (d : Int) : ∃ r, r ∈ rs ∧ earT L rs d = early L r d := by
  obtain ⟨r, h1, h2⟩ := List.mem_map.mp (ear_is (L := L) h0 d).1
  exact ⟨r, h1, h2.symm⟩
theorem lat_ex (d : Int) : ∃ r, r ∈ rs ∧ latT L rs d = late L r d := by
  obtain ⟨r, h1, h2⟩ := List.mem_map.mp (lat_is (L := L) h0 d).1
  exact ⟨r, h1, h2.symm⟩
theorem ear_mono (hL : 0 < L) {d e : Int} (h : d ≤ e) : earT L rs d ≤ earT L rs e := by
  obtain ⟨r, h1, h2⟩ := ear_ex (L := L) h0 d
  have := ear_ge (L := L) (d := e) h0 h1
  have := early_mono hL r h
  omega
theorem lat_mono (hL : 0 < L) {d e : Int} (h : d ≤ e) : latT L rs d ≤ latT L rs e := by
  obtain ⟨r, h1, h2⟩ := lat_ex (L := L) h0 e
  have := lat_le (L := L) (d := d) h0 h1
  have := late_mono hL r h
  omega
theorem ear_per (hL : 0 < L) (d : Int) : earT L rs (d + L) = earT L rs d + L := by
  obtain ⟨r, h1, h2⟩ := ear_ex (L := L) h0 d
  obtain ⟨s, g1, g2⟩ := ear_ex (L := L) h0 (d + L)
  have a1 := ear_ge (L := L) (d := d + L) h0 h1
  have a2 := ear_ge (L := L) (d := d) h0 g1
  have a3 := early_per hL r d
  have a4 := early_per hL s d
  omega
theorem lat_per (hL : 0 < L) (d : Int) : latT L rs (d + L) = latT L rs d + L := by
  obtain ⟨r, h1, h2⟩ := lat_ex (L := L) h0 d
  obtain ⟨s, g1, g2⟩ := lat_ex (L := L) h0 (d + L)
  have a1 := lat_le (L := L) (d := d + L) h0 h1
  have a2 := lat_le (L := L) (d := d) h0 g1
  have a3 := late_per hL r d
  have a4 := late_per hL s d
  omega
end
def keptB (L : Int) (rs : List (Int × Int)) : Bool := rs.all fun r => rs.all fun o => decide (early L r o.1 ≤ o.2)
theorem kept_iff {L : Int} {rs : List (Int × Int)} : keptB L rs = true ↔ ∀ r, r ∈ rs → ∀ o, o ∈ rs → early L r o.1 ≤ o.2 := by
  unfold keptB
  rw [List.all_eq_true]
  constructor
  · intro h r hr o ho
    have := h r hr
    rw [List.all_eq_true] at this
    exact of_decide_eq_true (this o ho)
  · intro h r hr
    rw [List.all_eq_true]
    exact fun o ho => decide_eq_true (h r hr o ho)
theorem kept_ear {L : Int} {rs : List (Int × Int)} (h0 : rs ≠ []) : (rs.all fun o => decide (earT L rs o.1 = o.2)) = keptB L rs := by
  rw [Bool.eq_iff_iff, kept_iff, List.all_eq_true]
  constructor
  · intro h r hr o ho
    have h1 := of_decide_eq_true (h o ho)
    have h2 := ear_ge (L := L) (d := o.1) h0 hr
    omega
  · intro h o ho
    refine decide_eq_true ?_
    obtain ⟨r, g1, g2⟩ := ear_ex (L := L) h0 o.1
    have h1 := h r g1 o ho
    have h2 := ear_ge (L := L) (d := o.1) h0 ho
    rw [early_self] at h2
    omega
theorem kept_lat {L : Int} {rs : List (Int × Int)} (h0 : rs ≠ []) : (rs.all fun o => decide (latT L rs o.1 = o.2)) = keptB L rs := by
  rw [Bool.eq_iff_iff, kept_iff, List.all_eq_true]
  constructor
  · intro h r hr o ho
    have h1 := of_decide_eq_true (h r hr)
    have h2 := lat_le (L := L) (d := r.1) h0 ho
    exact (early_late r o).mpr (by omega)
  · intro h o ho
    refine decide_eq_true ?_
    obtain ⟨r, g1, g2⟩ := lat_ex (L := L) h0 o.1
    have h1 := (early_late o r).mp (h o ho r g1)
    have h2 := lat_le (L := L) (d := o.1) h0 ho
    rw [late_self] at h2
    omega
/-- the list of a rule's first days -/
def listF (n : Nat) (f : Int → Int) : List Int := (List.range n).map fun (i : Nat) => f (i : Int)
theorem listF_len (n : Nat) (f : Int → Int) : (listF n f).length = n := by unfold listF; rw [List.length_map, List.length_range]
theorem listF_at {n : Nat} {f : Int → Int} {i : Nat} (h : i < n) : (listF n f).getD i 0 = f (i : Int) := by
  unfold listF
  rw [List.getD_eq_getElem?_getD, List.getElem?_map, List.getElem?_range h] <;> rfl
section
variable {n : Nat} {f : Int → Int} (h1 : 1 ≤ n) (h2 : n ≤ 600) (hm : ∀ d e : Int, d ≤ e → f d ≤ f e) (hp : ∀ d : Int, f (d + (n : Int)) = f d + (n : Int))
include h1 h2 hm hp
theorem listF_good : Good (listF n f) := by
  refine ⟨by rw [listF_len]; exact h1, by rw [listF_len]; exact h2, fun i j hij hj => ?_, ?_⟩
  · rw [listF_len] at hj
    rw [listF_at (by omega), listF_at hj]
    exact hm _ _ (by omega)
  · rw [listF_len, listF_at (by omega), listF_at (by omega)]
    have a1 := hm ((n - 1 : Nat) : Int) (((0 : Nat) : Int) + (n : Int)) (by omega)
    have a2 := hp ((0 : Nat) : Int)
    omega
omit h1 h2 hm in
theorem per_mul (d : Int) (t : Int) : f (d + t * (n : Int)) = f d + t * (n : Int) := by
  have up : ∀ k : Nat, ∀ d : Int, f (d + (k : Int) * (n : Int)) = f d + (k : Int) * (n : Int) := by
    intro k
    induction k with
    | zero => intro d; simp
    | succ k ih =>
      intro d
      have e : d + ((k + 1 : Nat) : Int) * (n : Int) = d + (k : Int) * (n : Int) + (n : Int) := by rw [Int.natCast_add, Int.add_mul]; simp; omega
      rw [e, hp, ih, Int.natCast_add, Int.add_mul]
      simp
      omega
  by_cases h : 0 ≤ t
  · obtain ⟨k, rfl⟩ : ∃ k : Nat, t = (k : Int) := ⟨t.toNat, by omega⟩
    exact up k d
  · obtain ⟨k, rfl⟩ : ∃ k : Nat, t = -(k : Int) := ⟨(-t).toNat, by omega⟩
    have := up k (d + -(k : Int) * (n : Int))
    rw [Int.neg_mul] at this ⊢
    rw [show d + -((k : Int) * (n : Int)) + (k : Int) * (n : Int) = d by omega] at this
    omega
theorem listF_on (x : Int) : onL (listF n f) x = f x := by
  have g := listF_good h1 h2 hm hp
  obtain ⟨i, t, hi, rfl⟩ := split_at g x
  rw [on_at g hi]
  rw [listF_len] at hi ⊢
  rw [listF_at hi, per_mul hp]
end
theorem on_mul {ns : List Int} (g : Good ns) (x t : Int) : onL ns (x + t * (ns.length : Int)) = onL ns x + t * (ns.length : Int) := per_mul (fun d => on_len g d) x t
theorem list_on {ns : List Int} (g : Good ns) : listF ns.length (onL ns) = ns := by
  apply List.ext_getElem
  · rw [listF_len]
  · intro i h1 h2
    have e := listF_at (f := onL ns) h2
    rw [List.getD_eq_getElem?_getD, List.getElem?_eq_getElem h1] at e
    have e2 := on_at g h2 0
    rw [Int.zero_mul, Int.add_zero, Int.add_zero] at e2
    have e3 : (listF ns.length (onL ns))[i] = onL ns (i : Int) := e
    rw [e3, e2, List.getD_eq_getElem?_getD, List.getElem?_eq_getElem h2]
    rfl
/-- rows of a rule -/
def Reads (ns : List Int) (rs : List (Int × Int)) : Prop := ∀ r, r ∈ rs → onL ns r.1 = r.2
theorem early_on {ns : List Int} (g : Good ns) {r : Int × Int} (h : onL ns r.1 = r.2) (d : Int) : early (ns.length : Int) r d ≤ onL ns d := by
  have hp := g.posI
  have h1 := Int.emod_nonneg (d - r.1) (show (ns.length : Int) ≠ 0 by omega)
  have h3 := Int.emod_add_mul_ediv (d - r.1) (ns.length : Int)
  rw [Int.mul_comm] at h3
  unfold early
  rw [← h, ← on_mul g]
  exact on_mono g (by omega)
theorem on_late {ns : List Int} (g : Good ns) {r : Int × Int} (h : onL ns r.1 = r.2) (d : Int) : onL ns d ≤ late (ns.length : Int) r d := by
  have hp := g.posI
  have h1 := Int.emod_nonneg (r.1 - d) (show (ns.length : Int) ≠ 0 by omega)
  have h3 := Int.emod_add_mul_ediv (r.1 - d) (ns.length : Int)
  rw [Int.mul_comm] at h3
  unfold late
  have e : r.2 - (r.1 - d) / (ns.length : Int) * (ns.length : Int) = onL ns (r.1 + -((r.1 - d) / (ns.length : Int)) * (ns.length : Int)) := by
    rw [on_mul g, h, Int.neg_mul]
    omega
  rw [e]
  exact on_mono g (by rw [Int.neg_mul]; omega)
theorem reads_kept {ns : List Int} (g : Good ns) {rs : List (Int × Int)} (h : Reads ns rs) : keptB (ns.length : Int) rs = true :=
  kept_iff.mpr fun r hr o ho => by rw [← h o ho]; exact early_on g (h r hr) o.1
theorem ear_on {ns : List Int} (g : Good ns) {rs : List (Int × Int)} (h0 : rs ≠ []) (h : Reads ns rs) (d : Int) : earT (ns.length : Int) rs d ≤ onL ns d := by
  obtain ⟨r, h1, h2⟩ := ear_ex (L := (ns.length : Int)) h0 d
  rw [h2]
  exact early_on g (h r h1) d
theorem on_lat {ns : List Int} (g : Good ns) {rs : List (Int × Int)} (h0 : rs ≠ []) (h : Reads ns rs) (d : Int) : onL ns d ≤ latT (ns.length : Int) rs d := by
  obtain ⟨r, h1, h2⟩ := lat_ex (L := (ns.length : Int)) h0 d
  rw [h2]
  exact on_late g (h r h1) d
/-- a row of each day of a length tells the rule -/
theorem early_all {ns : List Int} (g : Good ns) {r : Int × Int} (h : onL ns r.1 = r.2) {d t : Int} (e : d = r.1 + t * (ns.length : Int)) : early (ns.length : Int) r d = onL ns d := by
  have hp := g.posI
  subst e
  unfold early
  rw [show r.1 + t * (ns.length : Int) - r.1 = t * (ns.length : Int) by omega, Int.mul_ediv_cancel _ (by omega), on_mul g, h]
theorem late_all {ns : List Int} (g : Good ns) {r : Int × Int} (h : onL ns r.1 = r.2) {d t : Int} (e : d = r.1 + t * (ns.length : Int)) : late (ns.length : Int) r d = onL ns d := by
  have hp := g.posI
  subst e
  unfold late
  rw [show r.1 - (r.1 + t * (ns.length : Int)) = -t * (ns.length : Int) by rw [Int.neg_mul]; omega, Int.mul_ediv_cancel _ (by omega), on_mul g, h, Int.neg_mul]
  omega
theorem ends_cover {n : Nat} (hn : 1 ≤ n) (first d : Int) : ∃ (i : Nat) (t : Int), i < n ∧ d = first + (i : Int) + t * (n : Int) := by
  have h1 := Int.emod_nonneg (d - first) (show (n : Int) ≠ 0 by omega)
  have h2 := Int.emod_lt_of_pos (d - first) (show (0 : Int) < n by omega)
  have h3 := Int.emod_add_mul_ediv (d - first) (n : Int)
  rw [Int.mul_comm] at h3
  exact ⟨((d - first) % (n : Int)).toNat, (d - first) / (n : Int), by omega, by omega⟩
def endRows (ns : List Int) (first : Int) : List (Int × Int) := (List.range ns.length).map fun (i : Nat) => (first + (i : Int), onL ns (first + (i : Int)))
theorem end_reads {ns : List Int} {first : Int} : Reads ns (endRows ns first) := fun r hr => by
  obtain ⟨i, _, rfl⟩ := List.mem_map.mp hr
  rfl
theorem end_ear {ns : List Int} (g : Good ns) {first : Int} {rs : List (Int × Int)} (hr : ∀ r, r ∈ rs ↔ r ∈ endRows ns first) (d : Int) : earT (ns.length : Int) rs d = onL ns d := by
  obtain ⟨i, t, hi, e⟩ := ends_cover g.pos first d
  have hm : (first + (i : Int), onL ns (first + (i : Int))) ∈ rs := (hr _).mpr (List.mem_map.mpr ⟨i, List.mem_range.mpr hi, rfl⟩)
  have h0 : rs ≠ [] := fun z => by rw [z] at hm; cases hm
  have a1 := ear_ge (L := (ns.length : Int)) (d := d) h0 hm
  have a2 := early_all g (r := (first + (i : Int), onL ns (first + (i : Int)))) rfl (d := d) (t := t) e
  have a3 := ear_on g h0 (fun r q => end_reads r ((hr r).mp q)) d
  omega
theorem end_lat {ns : List Int} (g : Good ns) {first : Int} {rs : List (Int × Int)} (hr : ∀ r, r ∈ rs ↔ r ∈ endRows ns first) (d : Int) : latT (ns.length : Int) rs d = onL ns d := by
  obtain ⟨i, t, hi, e⟩ := ends_cover g.pos first d
  have hm : (first + (i : Int), onL ns (first + (i : Int))) ∈ rs := (hr _).mpr (List.mem_map.mpr ⟨i, List.mem_range.mpr hi, rfl⟩)
  have h0 : rs ≠ [] := fun z => by rw [z] at hm; cases hm
  have a1 := lat_le (L := (ns.length : Int)) (d := d) h0 hm
  have a2 := late_all g (r := (first + (i : Int), onL ns (first + (i : Int)))) rfl (d := d) (t := t) e
  have a3 := on_lat g h0 (fun r q => end_reads r ((hr r).mp q)) d
  omega
end TM
end
section
namespace TM
/-! the mathematics of two rules -/
def Per (f : Int → Int) (n : Int) : Prop := ∀ x, f (x + n) = f x + n
def Mono (f : Int → Int) : Prop := ∀ d e : Int, d ≤ e → f d ≤ f e
theorem per_times {f : Int → Int} {n : Nat} (h : Per f (n : Int)) (t : Int) : Per f (t * (n : Int)) := fun x => per_mul h x t
theorem per_dvd {f : Int → Int} {n m : Nat} (h : Per f (n : Int)) (hd : n ∣ m) : Per f (m : Int) := by
  obtain ⟨k, rfl⟩ := hd
  have := per_times h (k : Int)
  rw [Int.natCast_mul, Int.mul_comm]
  exact this
theorem per_neg {f : Int → Int} {n : Int} (h : Per f n) : Per f (-n) := fun x => by
  have := h (x + -n)
  rw [show x + -n + n = x by omega] at this
  omega
theorem per_add {f : Int → Int} {n m : Int} (h : Per f n) (h' : Per f m) : Per f (n + m) := fun x => by
  rw [show x + (n + m) = x + n + m by omega, h', h]
  omega
theorem per_gcd {f : Int → Int} : ∀ (a b : Nat), Per f (a : Int) → Per f (b : Int) → Per f ((Nat.gcd a b : Nat) : Int) := by
  intro a b
  induction a, b using Nat.gcd.induction with
  | H0 n => intro _ h; rw [Nat.gcd_zero_left]; exact h
  | H1 m n hm ih =>
    intro ha hb
    rw [Nat.gcd_rec]
    refine ih ?_ ha
    have e : ((n % m : Nat) : Int) = (n : Int) + -((n / m : Nat) : Int) * (m : Int) := by
      have := Nat.div_add_mod n m
      have z : (n : Int) = (m : Int) * ((n / m : Nat) : Int) + ((n % m : Nat) : Int) := by exact_mod_cast this.symm
      rw [Int.neg_mul, Int.mul_comm]
      omega
    rw [e]
    exact per_add hb (per_times ha _)
theorem onL_per {ns : List Int} (g : Good ns) : Per (onL ns) (ns.length : Int) := on_len g
theorem onL_mono {ns : List Int} (g : Good ns) : Mono (onL ns) := fun _ _ h => on_mono g h
theorem comp_per {f h : Int → Int} {n : Int} (a : Per f n) (b : Per h n) : Per (fun x => f (h x)) n := fun x => by show f (h (x + n)) = f (h x) + n; rw [b, a]
theorem comp_mono {f h : Int → Int} (a : Mono f) (b : Mono h) : Mono (fun x => f (h x)) := fun d e q => a _ _ (b _ _ q)
theorem max_per {f h : Int → Int} {n : Int} (a : Per f n) (b : Per h n) : Per (fun x => if h x > f x then h x else f x) n := fun x => by
  show (if h (x + n) > f (x + n) then h (x + n) else f (x + n)) = (if h x > f x then h x else f x) + n
  rw [a, b]
  split <;> split <;> omega
theorem min_per {f h : Int → Int} {n : Int} (a : Per f n) (b : Per h n) : Per (fun x => if h x < f x then h x else f x) n := fun x => by
  show (if h (x + n) < f (x + n) then h (x + n) else f (x + n)) = (if h x < f x then h x else f x) + n
  rw [a, b]
  split <;> split <;> omega
theorem max_mono {f h : Int → Int} (a : Mono f) (b : Mono h) : Mono (fun x => if h x > f x then h x else f x) := fun d e q => by
  have := a d e q
  have := b d e q
  show (if h d > f d then h d else f d) ≤ (if h e > f e then h e else f e)
  split <;> split <;> omega
theorem min_mono {f h : Int → Int} (a : Mono f) (b : Mono h) : Mono (fun x => if h x < f x then h x else f x) := fun d e q => by
  have := a d e q
  have := b d e q
  show (if h d < f d then h d else f d) ≤ (if h e < f e then h e else f e)
  split <;> split <;> omega
theorem by_mono {ns : List Int} (g : Good ns) : Mono (byL ns) := fun d e h => (by_le g).mpr (Int.le_trans h ((by_le g).mp (Int.le_refl _)))
theorem by_per {ns : List Int} (g : Good ns) : Per (byL ns) (ns.length : Int) := fun y => by
  refine byL_eq g ⟨?_, ?_⟩
  · rw [on_len g]
    have := (byL_is g y).1
    omega
  · rw [show byL ns y + (ns.length : Int) - 1 = byL ns y - 1 + (ns.length : Int) by omega, on_len g]
    have := (byL_is g y).2
    omega
noncomputable def tilL (ns : List Int) (y : Int) : Int := byL ns (y + 1) - 1
theorem til_le {ns : List Int} (g : Good ns) {x y : Int} : x ≤ tilL ns y ↔ onL ns x ≤ y := by
  have := by_le g (x := x) (y := y + 1)
  unfold tilL
  omega
theorem til_mono {ns : List Int} (g : Good ns) : Mono (tilL ns) := fun d e h => by
  have := by_mono g (d + 1) (e + 1) (by omega)
  unfold tilL
  omega
theorem til_per {ns : List Int} (g : Good ns) : Per (tilL ns) (ns.length : Int) := fun y => by
  have := by_per g (y + 1)
  unfold tilL
  rw [show y + (ns.length : Int) + 1 = y + 1 + (ns.length : Int) by omega, this]
  omega
/-- a rule told by a map with a period -/
structure Rule (n : Nat) (f : Int → Int) : Prop where
  pos : 1 ≤ n
  most : n ≤ 600
  mono : Mono f
  per : Per f (n : Int)
theorem Rule.good {n : Nat} {f : Int → Int} (r : Rule n f) : Good (listF n f) := listF_good r.pos r.most r.mono r.per
theorem Rule.on {n : Nat} {f : Int → Int} (r : Rule n f) (x : Int) : onL (listF n f) x = f x := listF_on r.pos r.most r.mono r.per x
/-- the least length of a rule -/
structure Least (ns : List Int) (d : Nat) : Prop where
  pos : 1 ≤ d
  dvd : d ∣ ns.length
  per : Per (onL ns) (d : Int)
  min : ∀ e : Nat, 1 ≤ e → e ∣ ns.length → Per (onL ns) (e : Int) → d ≤ e
theorem Least.rule {ns : List Int} {d : Nat} (g : Good ns) (h : Least ns d) : Rule d (onL ns) := ⟨h.pos, Nat.le_trans (Nat.le_of_dvd g.pos h.dvd) g.most, onL_mono g, h.per⟩
theorem Least.dvd_per {ns : List Int} {d e : Nat} (h : Least ns d) (he : Per (onL ns) (e : Int)) : d ∣ e := by
  have hp := per_gcd d e h.per he
  have h1 : 1 ≤ Nat.gcd d e := Nat.gcd_pos_of_pos_left _ h.pos
  have h2 := h.min _ h1 (Nat.dvd_trans (Nat.gcd_dvd_left d e) h.dvd) hp
  have h3 : Nat.gcd d e = d := Nat.le_antisymm (Nat.le_of_dvd h.pos (Nat.gcd_dvd_left d e)) h2
  rw [← h3]
  exact Nat.gcd_dvd_right d e
theorem least_same {ns ms : List Int} {d e : Nat} (g : Good ns) (k : Good ms) (h : Least ns d) (j : Least ms e) : listF d (onL ns) = listF e (onL ms) ↔ ∀ x, onL ns x = onL ms x := by
  constructor
  · intro q x
    have a := (h.rule g).on x
    have b := (j.rule k).on x
    rw [q, b] at a
    exact a.symm
  · intro q
    have ef : onL ns = onL ms := funext q
    have a : d ∣ e := h.dvd_per (by rw [ef]; exact j.per)
    have b : e ∣ d := j.dvd_per (by rw [← ef]; exact h.per)
    rw [Nat.dvd_antisymm a b, ef]
theorem least_ex {ns : List Int} (g : Good ns) : ∃ d, Least ns d := by
  have key : ∀ k, (∃ d, 1 ≤ d ∧ d ≤ k ∧ d ∣ ns.length ∧ Per (onL ns) (d : Int)) → ∃ d, Least ns d := by
    intro k
    induction k with
    | zero => rintro ⟨d, h1, h2, _⟩; omega
    | succ k ih =>
      rintro ⟨d, h1, h2, h3, h4⟩
      by_cases hx : ∃ d, 1 ≤ d ∧ d ≤ k ∧ d ∣ ns.length ∧ Per (onL ns) (d : Int)
      · exact ih hx
      · refine ⟨d, h1, h3, h4, fun e e1 e2 e3 => ?_⟩
        refine Nat.le_of_not_lt fun q => hx ⟨e, e1, by omega, e2, e3⟩
  exact key ns.length ⟨ns.length, g.pos, Nat.le_refl _, Nat.dvd_refl _, onL_per g⟩
/-- it is enough to look at one length -/
theorem per_of_first {ns : List Int} (g : Good ns) {d : Int} (h : ∀ i, i < ns.length → onL ns ((i : Int) + d) = ns.getD i 0 + d) : Per (onL ns) d := fun x => by
  obtain ⟨i, t, hi, rfl⟩ := split_at g x
  rw [on_at g hi, show (i : Int) + t * (ns.length : Int) + d = (i : Int) + d + t * (ns.length : Int) by omega, on_mul g, h i hi]
  omega
theorem first_of_per {ns : List Int} (g : Good ns) {d : Int} (h : Per (onL ns) d) {i : Nat} (hi : i < ns.length) : onL ns ((i : Int) + d) = ns.getD i 0 + d := by
  rw [h]
  have := on_at g hi 0
  rw [Int.zero_mul, Int.add_zero, Int.add_zero] at this
  rw [this]
theorem listF_take {n d : Nat} {f : Int → Int} (h : d ≤ n) : (listF n f).take d = listF d f := by
  unfold listF
  rw [← List.map_take, List.take_range, Nat.min_eq_left h]
/-! behind, later, sooner and what is asked back -/
section
variable {ns ms : List Int} (g : Good ns) (k : Good ms) {L : Nat} (h1 : 1 ≤ L) (h2 : L ≤ 600) (hn : ns.length ∣ L) (hm : ms.length ∣ L)
include g k h1 h2 hn hm
theorem behind_rule : Rule L (fun x => onL ns (onL ms x)) := ⟨h1, h2, comp_mono (onL_mono g) (onL_mono k), comp_per (per_dvd (onL_per g) hn) (per_dvd (onL_per k) hm)⟩
theorem later_rule : Rule L (fun x => if onL ms x > onL ns x then onL ms x else onL ns x) := ⟨h1, h2, max_mono (onL_mono g) (onL_mono k), max_per (per_dvd (onL_per g) hn) (per_dvd (onL_per k) hm)⟩
theorem sooner_rule : Rule L (fun x => if onL ms x < onL ns x then onL ms x else onL ns x) := ⟨h1, h2, min_mono (onL_mono g) (onL_mono k), min_per (per_dvd (onL_per g) hn) (per_dvd (onL_per k) hm)⟩
end
theorem by_rule {ns : List Int} (g : Good ns) : Rule ns.length (byL ns) := ⟨g.pos, g.most, by_mono g, by_per g⟩
theorem til_rule {ns : List Int} (g : Good ns) : Rule ns.length (tilL ns) := ⟨g.pos, g.most, til_mono g, til_per g⟩
theorem by_unique {ns : List Int} (g : Good ns) {y m : Int} (h : ∀ x, m ≤ x ↔ y ≤ onL ns x) : byL ns y = m := by
  have a := (h (byL ns y)).mpr ((by_le g).mp (Int.le_refl _))
  have b := (by_le g).mpr ((h m).mp (Int.le_refl _))
  omega
theorem til_unique {ns : List Int} (g : Good ns) {y m : Int} (h : ∀ x, x ≤ m ↔ onL ns x ≤ y) : tilL ns y = m := by
  have a := (h (tilL ns y)).mpr ((til_le g).mp (Int.le_refl _))
  have b := (til_le g).mpr ((h m).mp (Int.le_refl _))
  omega
end TM
end
section
set_option maxHeartbeats 2000000
/-! what is told: formulas and sayings, nested tuples -/
namespace TD
open PySem L2 Evl G TM
/-- a leaf, a part behind a thing of its own, a not, two parts -/
inductive Td where
  | lf (w : Str) (v : V)
  | ov (w : Str) (v : V) (t : Td)
  | nt (t : Td)
  | bi (w : Str) (t u : Td)
def word : Td → Str
  | .lf w _ => w
  | .ov w _ _ => w
  | .nt _ => "not"
  | .bi w _ _ => w
def kids : Td → List Td
  | .lf _ _ => []
  | .ov _ _ t => [t]
  | .nt t => [t]
  | .bi _ t u => [t, u]
def At (H : Hp) : V → Td → Prop
  | x, .lf w v => ∃ a, x = .ref a ∧ H a = some (.tup [.str w, v])
  | x, .ov w v t => ∃ a y, x = .ref a ∧ H a = some (.tup [.str w, v, y]) ∧ At H y t
  | x, .nt t => ∃ a y, x = .ref a ∧ H a = some (.tup [.str "not", y]) ∧ At H y t
  | x, .bi w t u => ∃ a y z, x = .ref a ∧ H a = some (.tup [.str w, y, z]) ∧ At H y t ∧ At H z u
/-- all tuples stay -/
def Tu (H H' : Hp) : Prop := ∀ a xs, H a = some (.tup xs) → H' a = some (.tup xs)
theorem Tu.refl (H : Hp) : Tu H H := fun _ _ h => h
theorem Tu.trans {H H1 H2 : Hp} (a : Tu H H1) (b : Tu H1 H2) : Tu H H2 := fun x xs h => b x xs (a x xs h)
theorem Tu.ex {H H' : Hp} (e : Ex H H') : Tu H H' := fun a xs h => e a _ h
theorem Tu.put {H : Hp} {p : Addr} {o u : HO} (h : H p = some u) (hu : ∀ xs, u ≠ .tup xs) : Tu H (upd H p o) := fun a xs ha => by
  have : a ≠ p := fun z => by subst z; rw [h] at ha; exact hu xs (Option.some.inj ha)
  rw [upd_ne this]
  exact ha
theorem Tu.lst {H : Hp} {p : Addr} {o : HO} {ys : List V} (h : H p = some (.lst ys)) : Tu H (upd H p o) := Tu.put h fun _ z => by cases z
theorem At.mono {H H' : Hp} (e : Tu H H') : ∀ {t : Td} {x : V}, At H x t → At H' x t
  | .lf _ _, _, ⟨a, h, k⟩ => ⟨a, h, e a _ k⟩
  | .ov _ _ t, _, ⟨a, y, h, k, q⟩ => ⟨a, y, h, e a _ k, At.mono e q⟩
  | .nt t, _, ⟨a, y, h, k, q⟩ => ⟨a, y, h, e a _ k, At.mono e q⟩
  | .bi _ t u, _, ⟨a, y, z, h, k, q, r⟩ => ⟨a, y, z, h, e a _ k, At.mono e q, At.mono e r⟩
abbrev Ats (H : Hp) : List V → List Td → Prop := Paired (At H)
theorem Ats.mono {H H' : Hp} (e : Tu H H') : ∀ {xs : List V} {ts : List Td}, Ats H xs ts → Ats H' xs ts
  | _, _, .nil => .nil
  | _, _, .cons h t => .cons (h.mono e) (Ats.mono e t)
theorem Ats.app {H : Hp} : ∀ {xs ys : List V} {ts us : List Td}, Ats H xs ts → Ats H ys us → Ats H (xs ++ ys) (ts ++ us)
  | _, _, _, _, .nil, h => h
  | _, _, _, _, .cons h t, k => .cons h (Ats.app t k)
theorem Ats.rev {H : Hp} : ∀ {xs : List V} {ts : List Td}, Ats H xs ts → Ats H xs.reverse ts.reverse
  | _, _, .nil => .nil
  | _, _, .cons h t => by
    rw [List.reverse_cons, List.reverse_cons]
    exact Ats.app (Ats.rev t) (.cons h .nil)
theorem Ats.len {H : Hp} : ∀ {xs : List V} {ts : List Td}, Ats H xs ts → xs.length = ts.length
  | _, _, .nil => rfl
  | _, _, .cons _ t => congrArg (· + 1) (Ats.len t)
theorem Ats.get {H : Hp} : ∀ {xs : List V} {ts : List Td} {i : Nat} {x : V}, Ats H xs ts → xs[i]? = some x → ∃ t, ts[i]? = some t ∧ At H x t
  | _, _, _, _, .nil, e => by simp at e
  | _, _, 0, x, .cons (b := t) h _, e => by
    simp at e
    subst e
    exact ⟨t, rfl, h⟩
  | _, _, i + 1, x, .cons _ t, e => by
    simp at e
    obtain ⟨u, a, b⟩ := Ats.get t e
    exact ⟨u, by simpa using a, b⟩
theorem Ats.at {H : Hp} : ∀ {xs : List V} {ts : List Td} {i : Nat} {t : Td}, Ats H xs ts → ts[i]? = some t → ∃ x, xs[i]? = some x ∧ At H x t
  | _, _, _, _, .nil, e => by simp at e
  | _, _, 0, x, .cons (a := v) h _, e => by
    simp at e
    subst e
    exact ⟨v, rfl, h⟩
  | _, _, i + 1, x, .cons _ t, e => by
    simp at e
    obtain ⟨u, a, b⟩ := Ats.at t e
    exact ⟨u, by simpa using a, b⟩
theorem Ats.one {H : Hp} {x : V} {t : Td} (h : At H x t) : Ats H [x] [t] := .cons h .nil
theorem Ats.two {H : Hp} {x y : V} {t u : Td} (h : At H x t) (k : At H y u) : Ats H [x, y] [t, u] := .cons h (.cons k .nil)
/-- the last of a list -/
theorem Ats.last {H : Hp} {xs : List V} {ts : List Td} {t : Td} (h : Ats H xs (ts ++ [t])) : ∃ ys y, xs = ys ++ [y] ∧ Ats H ys ts ∧ At H y t := by
  induction ts generalizing xs with
  | nil => cases h with | cons a b => cases b; exact ⟨[], _, rfl, .nil, a⟩
  | cons u ts ih =>
    cases h with
    | cons a b =>
      obtain ⟨ys, y, rfl, h1, h2⟩ := ih b
      exact ⟨_ :: ys, y, rfl, .cons a h1, h2⟩
/-- a thing's tuple: its word, its own thing (if there is one), its parts -/
def own : Td → List V
  | .lf _ v => [v]
  | .ov _ v _ => [v]
  | _ => []
theorem At.open {H : Hp} {x : V} {t : Td} (h : At H x t) : ∃ a ys, x = .ref a ∧ H a = some (.tup (.str (word t) :: (own t ++ ys))) ∧ Ats H ys (kids t) := by
  cases t with
  | lf w v => obtain ⟨a, rfl, k⟩ := h; exact ⟨a, [], rfl, k, .nil⟩
  | ov w v t => obtain ⟨a, y, rfl, k, q⟩ := h; exact ⟨a, [y], rfl, k, .one q⟩
  | nt t => obtain ⟨a, y, rfl, k, q⟩ := h; exact ⟨a, [y], rfl, k, .one q⟩
  | bi w t u => obtain ⟨a, y, z, rfl, k, q, r⟩ := h; exact ⟨a, [y, z], rfl, k, .two q r⟩
/-! ### which are formulas, which are sayings -/
def ruleL : List Str := ["a", "b", "c", "d", "e", "f", "g", "h"]
def nameL : List Str := ["p", "q", "r", "s", "t", "u", "v", "w", "x", "y", "z"]
def turnL : List Str := ["on", "by", "til"]
def IsF : Td → Prop
  | .lf w v => (w = "day" ∧ ∃ n, n ∈ nameL ∧ v = .str n) ∨ (w = "num" ∧ ∃ i, v = .int i)
  | .ov w v t => ((w ∈ turnL ∧ ∃ r, r ∈ ruleL ∧ v = .str r) ∨ (w = "add" ∧ ∃ i, v = .int i)) ∧ IsF t
  | .nt _ => False
  | .bi w t u => (w = "late" ∨ w = "soon") ∧ IsF t ∧ IsF u
def IsS : Td → Prop
  | .lf _ _ => False
  | .ov _ _ _ => False
  | .nt t => IsS t
  | .bi w t u => (w = "le" ∧ IsF t ∧ IsF u) ∨ ((w = "and" ∨ w = "or") ∧ IsS t ∧ IsS u)
/-- what parts_of may be asked of -/
def Ok : Td → Prop
  | .lf w _ => w = "day" ∨ w = "num"
  | .ov w _ _ => w = "on" ∨ w = "by" ∨ w = "til" ∨ w = "add"
  | .nt _ => True
  | .bi w _ _ => w = "late" ∨ w = "soon" ∨ w = "le" ∨ w = "and" ∨ w = "or"
def OkD : Td → Prop
  | .lf w v => Ok (.lf w v)
  | .ov w v t => Ok (.ov w v t) ∧ OkD t
  | .nt t => OkD t
  | .bi w t u => Ok (.bi w t u) ∧ OkD t ∧ OkD u
theorem OkD.ok {t : Td} (h : OkD t) : Ok t := by
  cases t with
  | lf w v => exact h
  | ov w v t => exact h.1
  | nt t => exact True.intro
  | bi w t u => exact h.1
theorem OkD.kid {t u : Td} (h : OkD t) (hu : u ∈ kids t) : OkD u := by
  cases t with
  | lf w v => cases hu
  | ov w v t => cases List.mem_singleton.mp hu; exact h.2
  | nt t => cases List.mem_singleton.mp hu; exact h
  | bi w t u' =>
    rcases List.mem_cons.mp hu with e | e
    · subst e; exact h.2.1
    · cases List.mem_singleton.mp e; exact h.2.2
theorem turn_cases {w : Str} (h : w ∈ turnL) : w = "on" ∨ w = "by" ∨ w = "til" := by
  simpa [turnL] using h
theorem IsF.okD : ∀ {t : Td}, IsF t → OkD t
  | .lf w v, h => h.imp (·.1) (·.1)
  | .ov w v t, ⟨h, k⟩ => ⟨by
      rcases h with ⟨h, _⟩ | ⟨h, _⟩
      · rcases turn_cases h with e | e | e
        · exact .inl e
        · exact .inr (.inl e)
        · exact .inr (.inr (.inl e))
      · exact .inr (.inr (.inr h)), IsF.okD k⟩
  | .nt _, h => h.elim
  | .bi w t u, ⟨h, k, l⟩ => ⟨h.imp id .inl, IsF.okD k, IsF.okD l⟩
theorem IsS.okD : ∀ {t : Td}, IsS t → OkD t
  | .lf _ _, h => h.elim
  | .ov _ _ _, h => h.elim
  | .nt t, h => IsS.okD (t := t) h
  | .bi w t u, h => by
    rcases h with ⟨h, k, l⟩ | ⟨h, k, l⟩
    · exact ⟨.inr (.inr (.inl h)), k.okD, l.okD⟩
    · exact ⟨.inr (.inr (.inr h)), IsS.okD k, IsS.okD l⟩
/-! ### pieces -/
def pcs : Td → List Td
  | .lf w v => [.lf w v]
  | .ov w v t => .ov w v t :: pcs t
  | .nt t => .nt t :: pcs t
  | .bi w t u => .bi w t u :: (pcs t ++ pcs u)
theorem pcs_kids (t : Td) : pcs t = t :: (kids t).flatMap pcs := by
  cases t with
  | lf w v => rfl
  | ov w v t => simp [pcs, kids]
  | nt t => simp [pcs, kids]
  | bi w t u => simp [pcs, kids]
theorem pcs_pos (t : Td) : 0 < (pcs t).length := by rw [pcs_kids]; exact Nat.succ_pos _
theorem OkD.pcs : ∀ {t u : Td}, OkD t → u ∈ TD.pcs t → OkD u
  | .lf w v, u, h, hu => by cases List.mem_singleton.mp hu; exact h
  | .ov w v t, u, h, hu => by
    rcases List.mem_cons.mp hu with e | e
    · subst e; exact h
    · exact OkD.pcs h.2 e
  | .nt t, u, h, hu => by
    rcases List.mem_cons.mp hu with e | e
    · subst e; exact h
    · exact OkD.pcs (t := t) h e
  | .bi w t t2, u, h, hu => by
    rcases List.mem_cons.mp hu with e | e
    · subst e; exact h
    · rcases List.mem_append.mp e with e | e
      · exact OkD.pcs h.2.1 e
      · exact OkD.pcs h.2.2 e
/-- so many pieces in a list of things -/
def sizes (ts : List Td) : Nat := (ts.flatMap pcs).length
theorem sizes_cons (t : Td) (ts : List Td) : sizes (t :: ts) = (pcs t).length + sizes ts := by
  unfold sizes
  rw [List.flatMap_cons, List.length_append]
theorem sizes_app (ts us : List Td) : sizes (ts ++ us) = sizes ts + sizes us := by
  unfold sizes
  rw [List.flatMap_append, List.length_append]
theorem size_kids (t : Td) : (pcs t).length = 1 + sizes (kids t) := by
  rw [pcs_kids, List.length_cons, Nat.add_comm]
  rfl
theorem kids_le (t : Td) : (kids t).length ≤ 2 := by cases t <;> simp [kids]
def namesOf (t : Td) : List Str := (pcs t).filterMap fun u => match u with | .lf w (.str n) => if w = "day" then some n else none | _ => none
def rulesOf (t : Td) : List Str := (pcs t).filterMap fun u => match u with | .ov w (.str r) _ => if w ∈ turnL then some r else none | _ => none
/-! ### days -/
noncomputable def dayOf (dn : Str → Int) (wd : Str → List Int) : Td → Int
  | .lf _ (.str n) => dn n
  | .lf _ (.int i) => i
  | .lf _ _ => 0
  | .ov w (.str r) t => if w = "on" then onL (wd r) (dayOf dn wd t) else if w = "by" then byL (wd r) (dayOf dn wd t) else tilL (wd r) (dayOf dn wd t)
  | .ov _ (.int i) t => dayOf dn wd t + i
  | .ov _ _ _ => 0
  | .nt _ => 0
  | .bi w t u => if w = "late" then (if dayOf dn wd u > dayOf dn wd t then dayOf dn wd u else dayOf dn wd t) else (if dayOf dn wd u < dayOf dn wd t then dayOf dn wd u else dayOf dn wd t)
open Classical in
noncomputable def soOf (dn : Str → Int) (wd : Str → List Int) : Td → Bool
  | .lf _ _ => false
  | .ov _ _ _ => false
  | .nt t => !soOf dn wd t
  | .bi w t u => if w = "le" then decide (dayOf dn wd t ≤ dayOf dn wd u) else if w = "and" then soOf dn wd t && soOf dn wd u else soOf dn wd t || soOf dn wd u
end TD
end
section
set_option maxHeartbeats 2000000
namespace G
open PySem L2 Evl TD SX
section
variable {X : Cx} {K : PySem.W.Frag} {o i : Expr} {td ty : TE} {pos : Pos}
theorem slA (hK : X.K = K) : SlR X (rSlA K) := hK ▸ sl_tupA
theorem isiS (hK : X.K = K) : CallR X (.builtin "isinstance") (rIsi K) := hK ▸ call_isi
theorem inS (hK : X.K = K) : OpR X (compareOp .In) (rIn K false) := hK ▸ op_in_seq
theorem niS (hK : X.K = K) : OpR X (compareOp .NotIn) (rIn K true) := hK ▸ op_notIn_seq
theorem pe_dgetR (hu : X.A.units + 64 < cLine) (ho : PE X o td) (hi : PE X i ty) (hs : NoSl i) : PE X (.Subscript o i pos) (tDGet td ty) := pe_dget (by omega) ho hi hs
theorem pc_dinR (hu : X.A.units + 64 < cLine) (hi : PE X i ty) (ho : PE X o td) : PC X .In i o (tDIn ty td) := pc_din (by omega) hi ho
theorem pc_dniR (hu : X.A.units + 64 < cLine) (hi : PE X i ty) (ho : PE X o td) : PC X .NotIn i o (tDNotIn ty td) := pc_dnotin (by omega) hi ho
end
variable {K : PySem.W.Frag} {σ : L2.St} {H H' : Hp} {ta tb te tx : TE} {tt : TT} {x y z v : V} {p a l C dx : Addr} {tA tr tk : TA} {xs ys : List V} {t u : Td} {ts us : List Td} {D : Ends} {tz : TS} {i : Nat} {Q : VK} {sp : Sp} {dvs vs : List V} {E : XK}
theorem eu_slA {tl th : TO} {lo hi : Option Int} (h : Ev te σ H (.ref a)) (h1 : EvO tl σ H lo) (h2 : EvO th σ H hi) (hs : SqT K H a xs) (hw : ¬ (HT.sIx xs.length 0 lo = 0 ∧ HT.sIx xs.length xs.length hi = xs.length)) :
    EvU (tSl (rSlA K) te tl th) σ H (cutV xs lo hi) := fun H1 e _ q =>
  h H1 e _ fun H2 e2 => h1 H2 (e.trans e2) _ fun H3 e3 => h2 H3 ((e.trans e2).trans e3) _ fun H4 e4 =>
    ⟨a, xs, rfl, ex_t (((e.trans e2).trans e3).trans e4) hs, fun z => absurd z hw, fun _ p hp => q p _ (fresh_back ((e2.trans e3).trans e4) hp) (((e2.trans e3).trans e4).trans (Ex.new hp)) upd_same⟩
theorem eu_revT (h : EvU te σ H xs) : EvU (tRevT K te) σ H xs.reverse := fun H1 e _ q => h H1 e _ fun b H2 hb e2 h2 =>
  ⟨b, xs, rfl, st_of h2, fun p hp => q p _ (fresh_back e2 hp) (e2.trans (Ex.new hp)) upd_same⟩
/-- d[k] -/
theorem ev_dget {k : Key} {kvs : List (Key × V)} (h : Ev ta σ H (.ref a)) (hk : Ev tb σ H (kV k)) (hd : H a = some (.dK kvs)) (hv : valV kvs k = some v) : Ev (tDGet ta tb) σ H v := fun H1 e Q q =>
  h H1 e _ fun H2 e2 => hk H2 (e.trans e2) _ fun H3 e3 => ⟨a, v, rfl, hv ▸ DGet.k (((e.trans e2).trans e3) a _ hd), q H3 (e2.trans e3)⟩
theorem ev_dni {k : Key} {kvs : List (Key × V)} (hk : Ev ta σ H (kV k)) (h : Ev tb σ H (.ref a)) (hd : H a = some (.dK kvs)) : Ev (tDNotIn ta tb) σ H (.bl (!(valV kvs k).isSome)) := fun H1 e Q q =>
  hk H1 e _ fun H2 e2 => h H2 (e.trans e2) _ fun H3 e3 => ⟨a, _, rfl, DGet.k (((e.trans e2).trans e3) a _ hd), q H3 (e2.trans e3)⟩
/-! ### what evaluates to a told thing, to a new tuple or list of told things -/
def EvTd (te : TE) (σ : L2.St) (H : Hp) (t : Td) : Prop := ∀ H1, Ex H H1 → ∀ Q : VK, (∀ v H2, Ex H1 H2 → At H2 v t → Q v H2) → te σ H1 Q
def EvKs (te : TE) (σ : L2.St) (H : Hp) (ts : List Td) : Prop := ∀ H1, Ex H H1 → ∀ Q : VK, (∀ p ys H2, H1 p = none → Ex H1 H2 → H2 p = some (.tup ys) → Ats H2 ys ts → Q (.ref p) H2) → te σ H1 Q
def EvLs (te : TE) (σ : L2.St) (H : Hp) (ts : List Td) : Prop := ∀ H1, Ex H H1 → ∀ Q : VK, (∀ p ys H2, H1 p = none → Ex H1 H2 → H2 p = some (.lst ys) → Ats H2 ys ts → Q (.ref p) H2) → te σ H1 Q
def RetTd (t : Td) (H : Hp) (Q : VK) : Prop := ∀ v H2, Ex H H2 → At H2 v t → Q v H2
def RetKs (ts : List Td) (H : Hp) (Q : VK) : Prop := ∀ p ys H2, H p = none → Ex H H2 → H2 p = some (.tup ys) → Ats H2 ys ts → Q (.ref p) H2
def RetLs (ts : List Td) (H : Hp) (Q : VK) : Prop := ∀ p ys H2, H p = none → Ex H H2 → H2 p = some (.lst ys) → Ats H2 ys ts → Q (.ref p) H2
def SpTd (sp : Sp) (vs : List V) (H : Hp) (t : Td) : Prop := ∀ H1, Ex H H1 → ∀ Q : VK, RetTd t H1 Q → ∀ E : XK, sp vs H1 Q E
def SpKs (sp : Sp) (vs : List V) (H : Hp) (ts : List Td) : Prop := ∀ H1, Ex H H1 → ∀ Q : VK, RetKs ts H1 Q → ∀ E : XK, sp vs H1 Q E
def SpLs (sp : Sp) (vs : List V) (H : Hp) (ts : List Td) : Prop := ∀ H1, Ex H H1 → ∀ Q : VK, RetLs ts H1 Q → ∀ E : XK, sp vs H1 Q E
theorem eks_call (h : EvA tA σ H vs) (hs : SpKs sp (vs ++ dvs) H ts) : EvKs (tCall sp dvs E tA) σ H ts := fun H1 e Q q =>
  h H1 e _ fun H2 e2 => hs H2 (e.trans e2) Q (fun p ys H3 hp e3 h3 k => q p ys H3 (fresh_back e2 hp) (e2.trans e3) h3 k) E
theorem els_call (h : EvA tA σ H vs) (hs : SpLs sp (vs ++ dvs) H ts) : EvLs (tCall sp dvs E tA) σ H ts := fun H1 e Q q =>
  h H1 e _ fun H2 e2 => hs H2 (e.trans e2) Q (fun p ys H3 hp e3 h3 k => q p ys H3 (fresh_back e2 hp) (e2.trans e3) h3 k) E
theorem etd_call (h : EvA tA σ H vs) (hs : SpTd sp (vs ++ dvs) H t) : EvTd (tCall sp dvs E tA) σ H t := fun H1 e Q q =>
  h H1 e _ fun H2 e2 => hs H2 (e.trans e2) Q (fun v H3 e3 k => q v H3 (e2.trans e3) k) E
theorem etd_ref (h : Ev te σ H v) (k : At H v t) : EvTd te σ H t := fun H1 e Q q => h H1 e Q fun H2 e2 => q v H2 e2 (k.mono (Tu.ex (e.trans e2)))
theorem eks_rev (h : EvKs te σ H ts) : EvKs (tRevT K te) σ H ts.reverse := fun H1 e Q q => h H1 e _ fun b ys H2 hb e2 h2 k =>
  ⟨b, ys, rfl, st_of h2, fun p hp => q p _ _ (fresh_back e2 hp) (e2.trans (Ex.new hp)) upd_same ((k.mono (Tu.ex (Ex.new hp))).rev)⟩
theorem EvTd.mono (e : Ex H H') (h : EvTd te σ H t) : EvTd te σ H' t := fun H1 a Q q => h H1 (e.trans a) Q q
theorem EvKs.mono (e : Ex H H') (h : EvKs te σ H ts) : EvKs te σ H' ts := fun H1 a Q q => h H1 (e.trans a) Q q
theorem EvLs.mono (e : Ex H H') (h : EvLs te σ H ts) : EvLs te σ H' ts := fun H1 a Q q => h H1 (e.trans a) Q q
/-- (w, v) -/
theorem etd_lf {w : Str} (h : EvA tA σ H [.str w, v]) : EvTd (tTup tA) σ H (.lf w v) := fun H1 e Q q => (eu_tup h (by show 2 ≤ 100000; decide)) H1 e Q fun p H2 hp e2 h2 => q _ H2 e2 ⟨p, rfl, h2⟩
/-- (w, v, t) -/
theorem etd_ov {w : Str} (h1 : Ev ta σ H (.str w)) (h2 : Ev tb σ H v) (h3 : EvTd tx σ H t) : EvTd (tTup (tCons ta (tCons tb (tCons tx tNil)))) σ H (.ov w v t) := fun H1 e Q q =>
  h1 H1 e _ fun H2 e2 => h2 H2 (e.trans e2) _ fun H3 e3 => h3 H3 ((e.trans e2).trans e3) _ fun y H4 e4 k => ⟨sz_of (by show 3 ≤ 100000; decide), fun p hp =>
    q _ _ (((e2.trans e3).trans e4).trans (Ex.new hp)) ⟨p, y, rfl, upd_same, k.mono (Tu.ex (Ex.new hp))⟩⟩
theorem etd_nt (h1 : Ev ta σ H (.str "not")) (h3 : EvTd tx σ H t) : EvTd (tTup (tCons ta (tCons tx tNil))) σ H (.nt t) := fun H1 e Q q =>
  h1 H1 e _ fun H2 e2 => h3 H2 (e.trans e2) _ fun y H4 e4 k => ⟨sz_of (by show 2 ≤ 100000; decide), fun p hp =>
    q _ _ ((e2.trans e4).trans (Ex.new hp)) ⟨p, y, rfl, upd_same, k.mono (Tu.ex (Ex.new hp))⟩⟩
theorem etd_bi {w : Str} (h1 : Ev ta σ H (.str w)) (h2 : EvTd tb σ H t) (h3 : EvTd tx σ H u) : EvTd (tTup (tCons ta (tCons tb (tCons tx tNil)))) σ H (.bi w t u) := fun H1 e Q q =>
  h1 H1 e _ fun H2 e2 => h2 H2 (e.trans e2) _ fun y H3 e3 k1 => h3 H3 ((e.trans e2).trans e3) _ fun z H4 e4 k2 => ⟨sz_of (by show 3 ≤ 100000; decide), fun p hp =>
    q _ _ (((e2.trans e3).trans e4).trans (Ex.new hp)) ⟨p, y, z, rfl, upd_same, k1.mono (Tu.ex (e4.trans (Ex.new hp))), k2.mono (Tu.ex (Ex.new hp))⟩⟩
/-! ### statements -/
/-- x = l.pop() -/
theorem q_pop {y : V} (hl : H l = some (.lst (xs ++ [y]))) (ha : Ev ta σ H (.ref l)) (k : ∀ H1, Ex H H1 → tz D (σ.set i (some y)) (upd H1 l (.lst xs))) : tSeq (tAsg (tBM0 K "list" rPop ta) (gName i)) tz D σ H := ha H (Ex.refl H) _ fun H1 e1 =>
  ⟨Or.inl ⟨rfl, _, sq_of (e1 l _ hl)⟩, l, xs ++ [y], y, rfl, rfl, e1 l _ hl, by simp, by
    rw [List.dropLast_concat]
    exact k H1 e1⟩
/-- l.extend(t), t a new tuple -/
theorem s_ext (hl : H l = some (.lst xs)) (ha : Ev ta σ H (.ref l)) (h : EvU te σ H ys) (hz : xs.length + ys.length ≤ 100000) (k : ∀ H1, Ex H H1 → D.nx σ (upd H1 l (.lst (xs ++ ys)))) :
    tDrop (tBM K "list" (rExtT K) ta (tCons te tNil)) D σ H := ha H (Ex.refl H) _ fun H1 e1 =>
  ⟨Or.inl ⟨rfl, xs, sq_of (e1 l _ hl)⟩, h H1 e1 _ fun p H2 hp e2 h2 => ⟨l, p, xs, ys, rfl, rfl, e2 l _ (e1 l _ hl), st_of h2, sz_of hz, k H2 (e1.trans e2)⟩⟩
theorem s_extK (hl : H l = some (.lst xs)) (ha : Ev ta σ H (.ref l)) (h : EvKs te σ H ts) (hz : xs.length + ts.length ≤ 100000) (k : ∀ H1 ys, Ex H H1 → Ats H1 ys ts → D.nx σ (upd H1 l (.lst (xs ++ ys)))) :
    tDrop (tBM K "list" (rExtT K) ta (tCons te tNil)) D σ H := ha H (Ex.refl H) _ fun H1 e1 =>
  ⟨Or.inl ⟨rfl, xs, sq_of (e1 l _ hl)⟩, h H1 e1 _ fun p ys H2 hp e2 h2 kk => ⟨l, p, xs, ys, rfl, rfl, e2 l _ (e1 l _ hl), st_of h2, sz_of (by rw [kk.len]; exact hz), k H2 ys (e1.trans e2) kk⟩⟩
end G
end
section
set_option maxHeartbeats 2000000
namespace G
open PySem L2 Evl TD SX PyProof.Rows
/-! ### the sorted list of what stands in a list of texts -/
theorem cps_inj {a b : Str} (h : a.cps.toList = b.cps.toList) : a = b := by
  cases a; cases b
  congr 1
  exact Array.toList_inj.mp h
theorem rising_pw : ∀ (p : Str) (l : List Str), risingS p l = true → (p :: l).Pairwise (fun a b => ¬ (b.cps.toList < a.cps.toList))
  | p, [], _ => List.pairwise_singleton _ _
  | p, x :: r, h => by
    have h' : (!PySem.Spec.ltCps x.cps.toList p.cps.toList && risingS x r) = true := h
    rw [Bool.and_eq_true, ltCps_eq] at h'
    have h1 : ¬ (x.cps.toList < p.cps.toList) := by
      intro q
      have := h'.1
      rw [decide_eq_true q] at this
      cases this
    have h2 := rising_pw x r h'.2
    refine List.pairwise_cons.mpr ⟨fun y hy => ?_, h2⟩
    rcases List.mem_cons.mp hy with e | hy
    · subst e; exact h1
    · have h3 := (List.pairwise_cons.mp h2).1 y hy
      intro q
      exact h1 (List.lt_of_le_of_lt (List.not_lt.mp h3) q)
theorem sorted_pw : ∀ (l : List Str), sortedS l = true → l.Pairwise (fun a b => ¬ (b.cps.toList < a.cps.toList))
  | [], _ => List.Pairwise.nil
  | x :: r, h => rising_pw x r h
theorem sorted_same : ∀ (l m : List Str), l.Pairwise (fun a b => ¬ (b.cps.toList < a.cps.toList)) → m.Pairwise (fun a b => ¬ (b.cps.toList < a.cps.toList)) → l.Perm m → l = m
  | [], m, _, _, p => (List.nil_perm.mp p).symm
  | x :: l, [], _, _, p => absurd p.symm (by simp)
  | x :: l, y :: m, hl, hm, p => by
    obtain ⟨l1, l2⟩ := List.pairwise_cons.mp hl
    obtain ⟨m1, m2⟩ := List.pairwise_cons.mp hm
    have e : x = y := by
      refine Classical.byContradiction fun ne => ?_
      have a : y ∈ l := (List.mem_cons.mp (p.mem_iff.mpr List.mem_cons_self)).resolve_left fun z => ne z.symm
      have b : x ∈ m := (List.mem_cons.mp (p.mem_iff.mp List.mem_cons_self)).resolve_left ne
      exact ne (cps_inj (List.le_antisymm (List.not_lt.mp (l1 y a)) (List.not_lt.mp (m1 x b))))
    subst e
    rw [sorted_same l m l2 m2 ((List.perm_cons x).mp p)]
/-- ys is what sorted(set(xs)) tells -/
def IsNrm (xs ys : List Str) : Prop := sortedS ys = true ∧ ys.Nodup ∧ ∀ k, k ∈ ys ↔ k ∈ xs
theorem isNrm_uniq {xs ys zs : List Str} (h : IsNrm xs ys) (k : IsNrm xs zs) : ys = zs :=
  sorted_same _ _ (sorted_pw _ h.1) (sorted_pw _ k.1) ((List.perm_ext_iff_of_nodup h.2.1 k.2.1).mpr fun a => (h.2.2 a).trans (k.2.2 a).symm)
open Classical in
noncomputable def nrm (xs : List Str) : List Str := if h : ∃ ys, IsNrm xs ys then Classical.choose h else []
theorem nrm_eq {xs ys : List Str} (h : IsNrm xs ys) : nrm xs = ys := by
  unfold nrm
  rw [dif_pos ⟨ys, h⟩]
  exact isNrm_uniq (Classical.choose_spec (⟨ys, h⟩ : ∃ ys, IsNrm xs ys)) h
/-- lists with the same members -/
theorem nrm_congr {xs ys : List Str} (h : ∀ k, k ∈ xs ↔ k ∈ ys) : nrm xs = nrm ys := by
  have e : IsNrm xs = IsNrm ys := funext fun zs => propext (Iff.intro (fun q => And.intro q.1 (And.intro q.2.1 fun k => (q.2.2 k).trans (h k))) (fun q => And.intro q.1 (And.intro q.2.1 fun k => (q.2.2 k).trans (h k).symm)))
  unfold nrm
  rw [e]
variable {K : PySem.W.Frag} {w : World} {σ : L2.St} {H H' : Hp} {ta tb te tx tl : TE} {tt : TT} {x y z v : V} {p a l C dx : Addr} {tA tr tk : TA} {xs ys : List V} {t u : Td} {ts us : List Td} {D : Ends} {tz : TS} {i j : Nat} {Q : VK} {sp : Sp} {dvs : List V} {vs : List Nat} {E : XK}
theorem nodup_len {α : Type} [DecidableEq α] : ∀ {l m : List α}, l.Nodup → (∀ k ∈ l, k ∈ m) → l.length ≤ m.length
  | [], _, _, _ => Nat.zero_le _
  | x :: l, m, hn, hs => by
    obtain ⟨h1, h2⟩ := List.nodup_cons.mp hn
    have hx : x ∈ m := hs x List.mem_cons_self
    have := nodup_len (l := l) (m := m.erase x) h2 fun y hy => (List.mem_erase_of_ne fun e => h1 (by rw [← e]; exact hy)).mpr (hs y (List.mem_cons_of_mem _ hy))
    rw [List.length_erase_of_mem hx] at this
    have := List.length_pos_of_mem hx
    rw [List.length_cons]
    omega
/-- sorted(set(xs)) -/
theorem el_sortedSet {ks : List Str} (h : EvL te σ H (ks.map V.str)) (hz : ks.length < 64) : EvL (tCB (SX.rSorted w) (tCons (tCB (SX.rSet K w) (tCons te tNil)) tNil)) σ H ((nrm ks).map V.str) := fun H1 e Q q =>
  h H1 e _ fun l H2 hl e2 h2 => ⟨l, ks, rfl, .inl (sq_of h2), by omega, fun s hs => ⟨s, ks, rfl, upd_same, by omega, fun ys p hsd hn hm hp => by
    have hp2 : H2 p = none := fresh_back (Ex.new hs) hp
    rw [nrm_eq ⟨hsd, hn, hm⟩] at q
    exact q p _ (fresh_back e2 hp2) ((e2.trans (Ex.new hs)).trans (Ex.new hp)) upd_same⟩⟩
/-! ### comprehensions over told things -/
theorem given_filter {α : Type} (ts : List α) (d : α) (f : α → Bool) (g : α → V) : given ts.length (fun i => f (ts.getD i d)) (fun i => g (ts.getD i d)) = (ts.filter f).map g := by
  have e : ts = (List.range ts.length).map fun i => ts.getD i d := by
    apply List.ext_getElem
    · simp
    · intro k h1 h2
      simp [List.getD_eq_getElem?_getD, List.getElem?_eq_getElem h1]
  unfold given
  conv => rhs; rw [e]
  rw [List.filter_map, List.map_map]
  rfl
theorem getD_td {ts : List Td} {k : Nat} {r d : Td} (h : ts[k]? = some r) : ts.getD k d = r := by rw [List.getD_eq_getElem?_getD, h] <;> rfl
/-- [e for x in a new list of told things if ..] -/
theorem el_lcLs (f : Td → Bool) (g : Td → V) (h : EvLs tl σ H ts) (hz : ts.length ≤ 40000) (hw : ∀ x, wipe ((wipe σ vs).set j (some x)) vs = wipe σ vs)
    (ht : ∀ (x : V) (t : Td) H1, Ex H H1 → At H1 x t → t ∈ ts → EvT tt ((wipe σ vs).set j (some x)) H1 (f t)) (he : ∀ (x : V) (t : Td) H1, Ex H H1 → At H1 x t → t ∈ ts → f t = true → Ev te ((wipe σ vs).set j (some x)) H1 (g t)) :
    EvL (tLc (iList K tl) (gName j) tt te vs) σ H ((ts.filter f).map g) := fun H0 e Q q => h H0 e _ fun a xs H1 ha e1 hx k => ⟨a, rfl, ⟨xs, sq_of hx⟩, fun Dl hD => by
  have hl : xs.length = ts.length := k.len
  refine lc_list (xs := xs) (Cw H1 (fun i => f (ts.getD i (.lf "" .non))) (fun i => g (ts.getD i (.lf "" .non))) Dl) ⟨hD, Ex.new hD, upd_same⟩ (fun i H' _ p => sq_of (p.2.1 a _ hx)) (fun i x H' hi p => ?_) (fun H' p => ?_)
  · obtain ⟨t, hti, hxt⟩ := k.get hi
    have hm := List.mem_of_getElem? hti
    refine ⟨hw x, cw_turn p (by have := (List.getElem?_eq_some_iff.mp hi).1; omega) ?_ (fun hf => ?_)⟩
    · rw [getD_td hti]; exact ht x t H1 (e.trans e1) hxt hm
    · rw [getD_td hti] at hf ⊢; exact he x t H1 (e.trans e1) hxt hm hf
  · rw [hl] at p
    refine q Dl H' (fresh_back e1 p.1) (e1.trans p.2.1) ?_
    rw [p.2.2, given_filter]⟩
/-- over a list of told things that has a name -/
theorem el_lcLv (f : Td → Bool) (g : Td → V) (h : Ev tl σ H (.ref a)) (hx : H a = some (.lst xs)) (k : Ats H xs ts) (hz : ts.length ≤ 40000) (hw : ∀ x, wipe ((wipe σ vs).set j (some x)) vs = wipe σ vs)
    (ht : ∀ (x : V) (t : Td) H1, Ex H H1 → At H1 x t → t ∈ ts → EvT tt ((wipe σ vs).set j (some x)) H1 (f t)) (he : ∀ (x : V) (t : Td) H1, Ex H H1 → At H1 x t → t ∈ ts → f t = true → Ev te ((wipe σ vs).set j (some x)) H1 (g t)) :
    EvL (tLc (iList K tl) (gName j) tt te vs) σ H ((ts.filter f).map g) := by
  have hl : xs.length = ts.length := k.len
  rw [← given_filter ts (.lf "" .non), ← hl]
  refine el_lcL _ _ h (sq_of hx) (by omega) hw (fun i x H1 e1 hi => ?_) (fun i x H1 e1 hi hf => ?_)
  · obtain ⟨t, hti, hxt⟩ := k.get hi
    rw [getD_td hti]; exact ht x t H1 e1 (hxt.mono (Tu.ex e1)) (List.mem_of_getElem? hti)
  · obtain ⟨t, hti, hxt⟩ := k.get hi
    rw [getD_td hti] at hf ⊢; exact he x t H1 e1 (hxt.mono (Tu.ex e1)) (List.mem_of_getElem? hti) hf
/-- [e for x in a new tuple of told things] -/
theorem el_lcKs (f : Td → Bool) (g : Td → V) (h : EvKs tl σ H ts) (hz : ts.length ≤ 40000) (hw : ∀ x, wipe ((wipe σ vs).set j (some x)) vs = wipe σ vs)
    (ht : ∀ (x : V) (t : Td) H1, Ex H H1 → At H1 x t → t ∈ ts → EvT tt ((wipe σ vs).set j (some x)) H1 (f t)) (he : ∀ (x : V) (t : Td) H1, Ex H H1 → At H1 x t → t ∈ ts → f t = true → Ev te ((wipe σ vs).set j (some x)) H1 (g t)) :
    EvL (tLc (iTup K tl) (gName j) tt te vs) σ H ((ts.filter f).map g) := fun H0 e Q q => h H0 e _ fun a xs H1 ha e1 hx k => ⟨a, rfl, ⟨xs, st_of hx⟩, fun Dl hD => by
  have hl : xs.length = ts.length := k.len
  refine lc_tup (xs := xs) (Cw H1 (fun i => f (ts.getD i (.lf "" .non))) (fun i => g (ts.getD i (.lf "" .non))) Dl) ⟨hD, Ex.new hD, upd_same⟩ (fun i H' _ p => st_of (p.2.1 a _ hx)) (fun i x H' hi p => ?_) (fun H' p => ?_)
  · obtain ⟨t, hti, hxt⟩ := k.get hi
    have hm := List.mem_of_getElem? hti
    refine ⟨hw x, cw_turn p (by have := (List.getElem?_eq_some_iff.mp hi).1; omega) ?_ (fun hf => ?_)⟩
    · rw [getD_td hti]; exact ht x t H1 (e.trans e1) hxt hm
    · rw [getD_td hti] at hf ⊢; exact he x t H1 (e.trans e1) hxt hm hf
  · rw [hl] at p
    refine q Dl H' (fresh_back e1 p.1) (e1.trans p.2.1) ?_
    rw [p.2.2, given_filter]⟩
theorem filter_yes {α : Type} (l : List α) : l.filter (fun _ => true) = l := List.filter_eq_self.mpr fun _ _ => rfl
/-- [t], a list of told things -/
theorem els_one (h : EvTd te σ H t) : EvLs (tLst (tCons te tNil)) σ H [t] := fun H1 e Q q => h H1 e _ fun v H2 e2 k => ⟨sz_of (by show 1 ≤ 100000; decide), fun p hp =>
  q p [v] _ (fresh_back e2 hp) (e2.trans (Ex.new hp)) upd_same (.one (k.mono (Tu.ex (Ex.new hp))))⟩
/-- len of a new list of told things -/
theorem ev_lenLs (h : EvLs te σ H ts) : Ev (tCB (fun xs H Q => ∃ p ys, xs = [.ref p] ∧ (SqL K H p ys ∨ SqT K H p ys) ∧ Q (.int (ys.length : Int)) H) (tCons te tNil)) σ H (.int (ts.length : Int)) := fun H1 e Q q =>
  h H1 e _ fun p ys H2 hp e2 h2 k => ⟨p, ys, rfl, .inl (sq_of h2), by rw [k.len]; exact q H2 e2⟩
/-- [e for k, v in d.items()], d locked meanwhile -/
theorem el_lcItems {d : Addr} {td : TE} {kvs : List (Key × V)} (g : Key × V → V) (hv : ∀ H1, Ev td σ H1 (.ref d)) (hd : H d = some (.dK kvs)) (hz : kvs.length ≤ 40000) (hw : ∀ x y, wipe (((wipe σ vs).set i (some x)).set j (some y)) vs = wipe σ vs)
    (he : ∀ (k : Key) (v : V) H1, (∀ b o, b ≠ d → H b = some o → H1 b = some o) → (k, v) ∈ kvs → Ev te (((wipe σ vs).set i (some (kV k))).set j (some v)) H1 (g (k, v))) :
    EvL (tLockE (tLc (iItems td) (gTup K 2 (gCons (gName i) (gCons (gName j) gNil))) tYes te vs)) σ H (kvs.map g) := fun H0 e Q q => by
  refine ⟨d, .dK kvs, e d _ hd, True.intro, fun od => hv _ _ (Ex.refl _) _ fun H1 e1 => ⟨d, od, kvs, rfl, e1 d _ upd_same, fun Dl hD => ?_⟩⟩
  have h1d : H1 d = some (.frz od (.dK kvs)) := e1 d _ upd_same
  have hne : Dl ≠ d := fun z => by subst z; rw [h1d] at hD; cases hD
  have off : ∀ b o, b ≠ d → H b = some o → H1 b = some o := fun b o hb ho => e1 b o (by rw [upd_ne hb]; exact e b o ho)
  have h0D : H0 Dl = none := by
    have := fresh_back e1 hD
    rw [upd_ne hne] at this
    exact this
  have ge : kvs.map g = given kvs.length (fun _ => true) (fun i => g (kvs.getD i (.inl 0, .non))) := by
    rw [given_filter kvs (.inl 0, .non) (fun _ => true) g, filter_yes]
  refine lc_it (walk_items (d := d) (o := od) (kvs := kvs)) (Cw H1 (fun _ => true) (fun i => g (kvs.getD i (.inl 0, .non))) Dl) ⟨hD, Ex.new hD, upd_same⟩ (fun i0 H' _ p => p.2.1 d _ h1d) (fun i0 x0 H' H'' hi p y => ?_) (fun H' p => ?_)
  · obtain ⟨T, a, b, rfl, hT, rfl, ea, eb⟩ := y
    have hgk : kvs[i0]? = some kvs[i0] := List.getElem?_eq_getElem hi
    dsimp only at ea eb
    rw [hgk] at ea eb
    cases ea
    cases eb
    refine ⟨T, [kV kvs[i0].1, kvs[i0].2], rfl, st_of upd_same, rfl, _, _, rfl, _, _, rfl, rfl, ?_⟩
    have pc2 : Cw H1 (fun _ => true) (fun i => g (kvs.getD i (.inl 0, .non))) Dl i0 (upd H' T (.tup [kV kvs[i0].1, kvs[i0].2])) := ⟨p.1, p.2.1.trans (Ex.new hT), by rw [upd_ne (ne_of_none p.2.2 hT)]; exact p.2.2⟩
    refine ⟨hw _ _, cw_turn pc2 (by omega) lc_yes (fun _ => ?_)⟩
    rw [List.getD_eq_getElem?_getD, hgk]
    exact he _ _ H1 off (List.getElem_mem hi)
  · refine ⟨p.2.1 d _ h1d, q Dl _ h0D (fun b o hb => ?_) ?_⟩
    · by_cases z : b = d
      · subst z
        rw [e b _ hd] at hb
        cases hb
        exact upd_same
      · rw [upd_ne z]
        exact p.2.1 b o (e1 b o (by rw [upd_ne z]; exact hb))
    · rw [upd_ne hne, p.2.2, ge]
end G
end
section
set_option maxHeartbeats 2000000
/-! sets whose members are tuples of ints, texts and None: found by a search in the table -/
namespace ZS
open PySem PySem.Spec PyProof.Rows L2
open PySem.Froz (sObj SD)
/-- an item of such a tuple, as it stands (a bool is none) -/
def LeafIs (v : Value) : Leaf → Prop
  | .none => v = .none
  | .num i => ∃ t, v = .int i t
  | .text x => ∃ t, v = .str x t
abbrev LeavesAre (vs : List Value) (ls : List Leaf) : Prop := PySem.W.EachIs LeafIs vs ls
structure Flat (h : Heap) (ls : List Leaf) (b : Addr) : Prop where
  is_ : ∃ o vs n, h.get? b = some o ∧ o.cls = .type "tuple" ∧ o.data = .seq vs n ∧ LeavesAre vs.toList ls
/-- the key that such a tuple is -/
def keyOf (ls : List Leaf) : NestedKey := .tup (ls.map Leaf.key)
noncomputable def hk (w : World) (ls : List Leaf) : Int := (keyOf ls).hash w
theorem key_one {a b : List Leaf} (e : keyOf a = keyOf b) : a = b := by
  unfold keyOf at e
  injection e with e
  induction a generalizing b with
  | nil => cases b with
    | nil => rfl
    | cons y b => cases e
  | cons x a ih => cases b with
    | nil => cases e
    | cons y b =>
      rw [List.map_cons, List.map_cons] at e
      injection e with e1 e2
      rw [Leaf.key_inj e1, ih e2]
theorem nested_all {h : Heap} : ∀ {ls : List Leaf} {vs : List Value}, LeavesAre vs ls → NestedAll h (ls.map Leaf.key) vs
  | _, _, .nil => .nil
  | .none :: _, _, .cons e r => .cons (by cases e; exact .none) (nested_all r)
  | .num _ :: _, _, .cons ⟨t, e⟩ r => .cons (by cases e; exact .int _ _) (nested_all r)
  | .text _ :: _, _, .cons ⟨t, e⟩ r => .cons (by cases e; exact .text _ _) (nested_all r)
theorem Flat.nested {h : Heap} {ls : List Leaf} {b : Addr} (x : Flat h ls b) : NestedIs h (keyOf ls) (.ref b) := by
  obtain ⟨o, vs, n, e, c, d, r⟩ := x.is_
  exact .tup e c d (nested_all r)
theorem depth_leaf (l : Leaf) : l.key.depth = 0 := by cases l <;> rfl
theorem Flat.shallow (ls : List Leaf) : (keyOf ls).depth = 1 := by
  have : ∀ ls : List Leaf, NestedKey.depthAll (ls.map Leaf.key) = 0 := by
    intro ls
    induction ls with
    | nil => rfl
    | cons l ls ih => rw [List.map_cons, NestedKey.depthAll, ih, depth_leaf]; rfl
  rw [keyOf, NestedKey.depth, this]
theorem Flat.at {h h' : Heap} {ls : List Leaf} {b : Addr} (x : Flat h ls b) (k : ∀ o, h.get? b = some o → h'.get? b = some o) : Flat h' ls b := by
  obtain ⟨o, vs, n, e, r⟩ := x.is_
  exact ⟨⟨o, vs, n, k _ e, r⟩⟩
theorem Flat.isnt {h : Heap} {ls : List Leaf} {b a : Addr} {T : String} {D : SD} (x : Flat h ls b) (e : h.get? a = some (sObj T D)) : b ≠ a := by
  rintro rfl
  obtain ⟨o, vs, n, e', _, d, _⟩ := x.is_
  rw [e] at e'
  cases e'
  exact nomatch d
section
variable {P : Program} {w : World} {A : Around} {E : Value → Shared → Prop} {s : Shared}
theorem Flat.typ {ls : List Leaf} {b : Addr} (x : Flat s.heap ls b) : s.TypeIs (.ref b) "tuple" := let ⟨o, _, _, e, c, _⟩ := x.is_; ⟨o, e, c⟩
theorem pyHash_flat {ls : List Leaf} {b : Addr} (x : Flat s.heap ls b) (hu : A.units + 1 < cLine) : wpAny (model P w) A (pyHash (.ref b)) (fun r s' => r = hk w ls ∧ ∃ tk, s' = { s with toks := tk }) E s :=
  pyHash_key _ _ A s _ x.nested (by rw [Flat.shallow]; exact hu) ⟨rfl, _, rfl⟩
theorem eq_flat {ls ms : List Leaf} {b c : Addr} (x : Flat s.heap ls b) (y : Flat s.heap ms c) (hu : A.units + 1 < cLine) : wpAny (model P w) A (eqBool (.ref b) (.ref c)) (fun r s' => r = decide (ls = ms) ∧ s = s') E s := by
  refine eqAt_key _ _ A s _ _ x.nested y.nested (by rw [Flat.shallow, Flat.shallow]; exact hu) _ _ _ _ ⟨?_, rfl⟩
  rw [← NestedKey.decide_eq]
  by_cases e : ls = ms
  · rw [e, decide_eq_true rfl, decide_eq_true rfl]
  · rw [decide_eq_false e, decide_eq_false fun z => e (key_one z)]
theorem each_item {vs : List Value} {ls : List Leaf} (r : LeavesAre vs ls) : ∀ v ∈ vs, (v = .none ∨ (∃ i t, v = .int i t) ∨ ∃ x t, v = .str x t) := fun v hv => by
  obtain ⟨l, _, z⟩ := PySem.W.EachIs.left r v hv
  cases l with
  | none => exact .inl z
  | num i => exact .inr (.inl ⟨i, z⟩)
  | text x => exact .inr (.inr ⟨x, z⟩)
/-- no such tuple shows that it is compared -/
theorem plain_flat {ls : List Leaf} {b : Addr} (x : Flat s.heap ls b) : wpAny (model P w) A (ofAClassStatement 8 (.ref b)) (fun r s' => r = false ∧ s = s') E s := by
  have ty := x.typ
  obtain ⟨o, vs, n, e, _, d, r⟩ := x.is_
  unfold ofAClassStatement
  refine wpAny_bind (wpAny_typeOf ty ?_)
  simp only [show (("tuple" : String) == "tuple") = true by decide, if_true]
  refine wpAny_bind (wpAny_pure ?_)
  simp only [Bool.not_true, Bool.false_eq_true, if_false]
  refine wpAny_bind (m := seqItems? (.ref b)) (wpAny_seqItems e d (wpAny_bind ?_))
  show wpAny _ _ (forIn vs _ _) _ _ s
  rw [← Array.forIn_toList]
  refine wpAny_forIn_list _ (fun rest acc s' => acc.1 = none ∧ s' = s ∧ ∀ v ∈ rest, ofAClassStatement 7 v = pure false) _ ?_ ?_ _ _ ⟨rfl, rfl, fun v hv => ?_⟩
  · rintro v rest acc s' ⟨h1, rfl, h2⟩
    rw [h2 v List.mem_cons_self]
    exact wpAny_bind (wpAny_pure (wpAny_pure ⟨rfl, rfl, fun u hu => h2 u (List.mem_cons_of_mem _ hu)⟩))
  · rintro ⟨_, _⟩ s' ⟨h1, rfl, _⟩
    cases h1
    exact wpAny_pure ⟨rfl, rfl⟩
  · rcases each_item r v hv with rfl | ⟨i, t, rfl⟩ | ⟨x, t, rfl⟩ <;> rfl
/-- whether it hashes the same in each run: either -/
theorem byValue_flat {ls : List Leaf} {b : Addr} (x : Flat s.heap ls b) : wpAny (model P w) A (hashByValue 8 (.ref b)) (fun _ s' => s = s') E s := by
  have ty := x.typ
  obtain ⟨o, vs, n, e, _, d, r⟩ := x.is_
  unfold hashByValue
  refine wpAny_bind (wpAny_specialOf ty F.slot_tuple_hash.lookup ?_)
  refine wpAny_bind (m := seqItems? (.ref b)) (wpAny_seqItems e d (wpAny_bind ?_))
  show wpAny _ _ (forIn vs _ _) _ _ s
  rw [← Array.forIn_toList]
  refine wpAny_forIn_list _ (fun rest acc s' => s' = s ∧ ∀ v ∈ rest, ∃ y, hashByValue 7 v = pure y) _ ?_ ?_ _ _ ⟨rfl, fun v hv => ?_⟩
  · rintro v rest acc s' ⟨rfl, h2⟩
    obtain ⟨y, hy⟩ := h2 v List.mem_cons_self
    rw [hy]
    have rest_ : ∀ u ∈ rest, ∃ y, hashByValue 7 u = pure y := fun u hu => h2 u (List.mem_cons_of_mem _ hu)
    cases y
    · exact wpAny_bind (wpAny_pure (wpAny_pure (wpAny_pure rfl)))
    · exact wpAny_bind (wpAny_pure (wpAny_pure ⟨rfl, rest_⟩))
  · rintro ⟨q, _⟩ s' ⟨rfl, _⟩
    cases q <;> exact wpAny_pure rfl
  · rcases each_item r v hv with rfl | ⟨i, t, rfl⟩ | ⟨x, t, rfl⟩ <;> exact ⟨_, rfl⟩
/-- a search among such tuples shows nothing -/
theorem unseen {ls : List Leaf} {b : Addr} (x : Flat s.heap ls b) {ys : List Value} (hy : ∀ y ∈ ys, ∃ ms c, y = .ref c ∧ Flat s.heap ms c) : wpAny (model P w) A (searchCouldBeSeen (.ref b) ys) (fun r s' => r = false ∧ s = s') E s := by
  have quiet : ∀ {ls : List Leaf} {b : Addr}, Flat s.heap ls b → ∀ Q : Bool → Shared → Prop, Q true s → wpAny (model P w) A (eqIsQuiet 8 (.ref b)) Q E s := fun x Q q => quiet_key _ _ 8 s x.nested (by rw [Flat.shallow]; decide) A E Q q
  unfold searchCouldBeSeen
  refine wpAny_bind (wpAny_forIn_list _ (fun rest acc s' => acc.1 = none ∧ s' = s ∧ ∀ y ∈ rest, ∃ ms c, y = .ref c ∧ Flat s.heap ms c) _ ?_ ?_ _ _ ⟨rfl, rfl, hy⟩)
  · rintro _ rest acc s' ⟨h1, rfl, h2⟩
    obtain ⟨ms, c, rfl, y⟩ := h2 _ List.mem_cons_self
    have on : ∀ y ∈ rest, ∃ ms c, y = .ref c ∧ Flat s'.heap ms c := fun u hu => h2 u (List.mem_cons_of_mem _ hu)
    dsimp only
    by_cases same : (b == c || (carriedByValue (.ref b) && carriedByValue (.ref c))) = true
    · exact wp_if_pos same (wpAny_pure ⟨rfl, rfl, on⟩)
    · refine wp_if_neg same (wpAny_bind (quiet x _ (wp_if_neg (by decide) (wpAny_bind (quiet y _ (wp_if_neg (by decide) ?_))))))
      refine wpAny_bind (wpAny_mono (plain_flat x) ?_ fun _ _ z => z)
      rintro _ _ ⟨rfl, rfl⟩
      refine wp_if_neg (by decide) (wpAny_bind (wpAny_mono (plain_flat y) ?_ fun _ _ z => z))
      rintro _ _ ⟨rfl, rfl⟩
      exact wp_if_neg (by decide) (wpAny_pure ⟨rfl, rfl, on⟩)
  · rintro ⟨_, _⟩ s' ⟨h1, rfl, _⟩
    cases h1
    exact wpAny_pure ⟨rfl, rfl⟩
end
/-! ### the table -/
abbrev Pr := List Leaf × Addr
noncomputable def ent (w : World) (p : Pr) : Int × Value := (hk w p.1, .ref p.2)
structure RowsP (w : World) (h : Heap) (es : Array (Int × Value)) (t : SetTable) (ps : List Pr) : Prop where
  rows : es.toList = ps.map (ent w)
  flat : ∀ p ∈ ps, Flat h p.1 p.2
  nd : (ps.map (·.1)).Nodup
  tab : TabOk t (ps.map fun p => hk w p.1)
  led : w.params.followText "set-order" = true ∨ t.led = true
  room : ps.length * 5 < t.mask * 3
section
variable {w : World} {h h' : Heap} {es : Array (Int × Value)} {t : SetTable} {ps : List Pr}
theorem RowsP.size (R : RowsP w h es t ps) : es.size = ps.length := by rw [← Array.length_toList, R.rows, List.length_map]
theorem RowsP.place (R : RowsP w h es t ps) : t.place.size = ps.length := by rw [R.tab.sz, List.length_map]
theorem RowsP.Tab (R : RowsP w h es t ps) : Tab w t es.size where
  fits := by
    unfold SetTable.fits SetTable.fill
    have := R.room
    have := R.place
    rw [R.size, R.tab.dm, Bool.and_eq_true, beq_iff_eq, decide_eq_true_eq]
    exact ⟨this, by simp; omega⟩
  ris := R.tab.ris
  led := R.led
theorem RowsP.at_ (R : RowsP w h es t ps) {i : Nat} {p : Pr} (e : ps[i]? = some p) : es[i]? = some (ent w p) := by rw [← Array.getElem?_toList, R.rows, List.getElem?_map, e]; rfl
theorem RowsP.sound (R : RowsP w h es t ps) : ¬ t.gaveWay = true := by
  unfold SetTable.gaveWay
  rw [mask_odd R.tab.mok]
  decide
theorem RowsP.keep (R : RowsP w h es t ps) (k : ∀ p ∈ ps, ∀ o, h.get? p.2 = some o → h'.get? p.2 = some o) : RowsP w h' es t ps := ⟨R.rows, fun p hp => (R.flat p hp).at (k p hp), R.nd, R.tab, R.led, R.room⟩
end
section
variable {P : Program} {w : World} {A : Around} {E : Value → Shared → Prop} {s : Shared} {a x : Addr} {es : Array (Int × Value)} {ep : Nat} {t : SetTable} {ps : List Pr} {k : List Leaf}
noncomputable abbrev from_ (w : World) (t : SetTable) (k : List Leaf) : SetTable.Probe := runAt t.mask (SetTable.bits (hk w k) % (t.mask + 1)) (SetTable.bits (hk w k))
theorem never_dummy (m : Nat) : ∀ (n : Nat) (p : SetTable.Probe), p.dummy = none → (nth m p n).dummy = none
  | 0, _, e => e
  | n + 1, p, e => never_dummy m n (adv m p) (by unfold adv; split <;> exact e)
/-- on from the c-th step of the way, K the first free one -/
theorem seek (R : RowsP w s.heap es t ps) (e : s.heap.get? a = some (sObj "set" (es, ep, t))) (X : Flat s.heap k x) (hu : A.units + 1 < cLine) {K : Nat} (hK : K < 10 * SetTable.turns t.mask)
    (free : way t.mask (hk w k) K ∉ t.place.toList) (full : ∀ c, c < K → way t.mask (hk w k) c ∈ t.place.toList) :
    ∀ (f c : Nat) (stand : Option SetTable.Probe), stand.getD (t.probeStart (hk w k)) = nth t.mask (from_ w t k) c → c ≤ K → K < f + c →
      (∀ (i : Nat) p, ps[i]? = some p → p.1 = k → ∃ c', c ≤ c' ∧ c' < K ∧ t.place.toList[i]? = some (way t.mask (hk w k) c')) →
      wpAny (model P w) A (setSearchFrom a (.ref x) (hk w k) true f stand) (fun r s' => s = s' ∧ (r = .there none ∧ k ∈ ps.map (·.1) ∨ r = .free (way t.mask (hk w k) K) false ∧ k ∉ ps.map (·.1))) E s
  | 0, c, _, _, _, _, _ => by omega
  | f + 1, c, stand, st, hc, hf, ahead => by
    have step : ∀ q, nth t.mask (nth t.mask (from_ w t k) c) q = nth t.mask (from_ w t k) (c + q) := fun q => (nth_add t.mask c _ q).symm
    have hashOf : ∀ (i : Nat) p, ps[i]? = some p → (es[i]?.map (·.1)).getD 0 = hk w p.1 := fun i p hp => by rw [R.at_ hp]; rfl
    rw [setSearchFrom_succ]
    refine wpAny_bind (wpAny_setState_of e rfl R.Tab.fits (wp_if_neg R.sound ?_))
    have sp := go_spec t R.tab.ris R.tab.dm (fun i => (es[i]?.map (·.1)).getD 0) (hk w k) (10 * SetTable.turns t.mask) (K - c) (nth t.mask (from_ w t k) c) (never_dummy _ _ _ rfl) (by omega)
      (fun q hq => by rw [step]; exact full _ (by omega)) (by rw [step, Nat.add_sub_cancel' hc]; exact free)
    have isP : t.probe (fun i => (es[i]?.map (·.1)).getD 0) (hk w k) (stand.getD (t.probeStart (hk w k))) = SetTable.probe.go t (fun i => (es[i]?.map (·.1)).getD 0) (hk w k) (10 * SetTable.turns t.mask) (nth t.mask (from_ w t k) c) := by rw [st]; rfl
    rw [isP]
    simp only [step] at sp
    rcases sp with ⟨q, i, hq, hi, hh, before, pr⟩ | ⟨before, pr⟩
    · rw [pr]
      have il : i < ps.length := by
        have := (List.getElem?_eq_some_iff.mp hi).1
        rw [Array.length_toList, R.place] at this
        exact this
      have hp : ps[i]? = some ps[i] := List.getElem?_eq_getElem il
      generalize ps[i] = p at hp
      have pm : p ∈ ps := List.mem_of_getElem? hp
      have met : wpAny (model P w) A (searchRest a (.ref x) (hk w k) true f es t (nth t.mask (from_ w t k) (c + q)).j i (nth t.mask (from_ w t k) (c + (q + 1))))
          (fun r s' => s = s' ∧ (r = .there none ∧ k ∈ ps.map (·.1) ∨ r = .free (way t.mask (hk w k) K) false ∧ k ∉ ps.map (·.1))) E s := by
        unfold searchRest
        rw [R.at_ hp]
        dsimp only [ent]
        refine wpAny_bind (wpAny_holding (wpAny_mono (eq_flat (R.flat p pm) X hu) ?_ fun _ _ z => z))
        rintro _ _ ⟨rfl, rfl⟩
        refine wpAny_bind (wpAny_setState_of e rfl R.Tab.fits ?_)
        by_cases hkk : p.1 = k
        · exact wp_if_pos (by simp [hkk]) (wpAny_pure ⟨rfl, .inl ⟨rfl, List.mem_map.mpr ⟨p, pm, hkk⟩⟩⟩)
        · refine wp_if_neg (by simp [hkk]) ?_
          have live := slot_live R.tab.ris hi
          rw [sameMem]
          simp only [if_true, live, R.at_ hp]
          dsimp only [ent]
          refine wpAny_bind (wpAny_isSame_ref_self (wpAny_bind (wpAny_pure ?_)))
          simp only [if_true]
          refine wp_if_neg (by simp [hkk]) (seek R e X hu hK free full f (c + (q + 1)) _ rfl (by omega) (by omega) fun i0 p0 h0 e0 => ?_)
          obtain ⟨c', a1, a2, a3⟩ := ahead i0 p0 h0 e0
          refine ⟨c', ?_, a2, a3⟩
          rcases Nat.lt_trichotomy c' (c + q) with z | z | z
          · refine absurd ((hashOf i0 p0 h0).trans (by rw [e0])) (before (c' - c) i0 (by omega) ?_)
            rw [Nat.add_sub_cancel' a1]
            exact a3
          · rw [z] at a3
            have := slot_live R.tab.ris a3
            rw [show way t.mask (hk w k) (c + q) = (nth t.mask (from_ w t k) (c + q)).j from rfl, live] at this
            injection this with this
            rw [← this, hp] at h0
            cases h0
            exact absurd e0 hkk
          · omega
      by_cases hl : t.led = true
      · exact wp_if_neg (by simp [hl]) met
      · refine wp_if_pos (by simp [hl]) (wpAny_bind (wpAny_mono (unseen X fun y hy => ?_) ?_ fun _ _ z => z))
        · obtain ⟨e1, h1, rfl⟩ := List.mem_map.mp hy
          have h2 : e1 ∈ es.toList := by
            have := Array.mem_filter.mp (Array.mem_toList_iff.mp h1)
            exact Array.mem_toList_iff.mpr this.1
          rw [R.rows] at h2
          obtain ⟨p2, h3, rfl⟩ := List.mem_map.mp h2
          exact ⟨_, _, rfl, R.flat p2 h3⟩
        · rintro _ _ ⟨rfl, rfl⟩
          exact wp_if_neg (by decide) met
    · rw [pr]
      rw [Nat.add_sub_cancel' hc]
      refine wpAny_pure ⟨rfl, .inr ⟨rfl, fun z => ?_⟩⟩
      obtain ⟨p0, h0, e0⟩ := List.mem_map.mp z
      obtain ⟨i0, hi0, e1⟩ := List.getElem_of_mem h0
      have h00 : ps[i0]? = some p0 := by rw [List.getElem?_eq_getElem hi0, e1]
      obtain ⟨c', a1, a2, a3⟩ := ahead i0 p0 h00 e0
      refine before (c' - c) i0 (by omega) ?_ ((hashOf i0 p0 h00).trans (by rw [e0]))
      rw [Nat.add_sub_cancel' a1]
      exact a3
end
end ZS
end
section
set_option maxHeartbeats 2000000
namespace ZS
open PySem PySem.Spec PyProof.Rows L2
open PySem.Froz (sObj SD)
section
variable {P : Program} {w : World} {A : Around} {E : Value → Shared → Prop} {s : Shared} {a x : Addr} {es : Array (Int × Value)} {ep : Nat} {t : SetTable} {ps : List Pr} {k : List Leaf}
theorem search (R : RowsP w s.heap es t ps) (e : s.heap.get? a = some (sObj "set" (es, ep, t))) (X : Flat s.heap k x) (hu : A.units + 1 < cLine) :
    wpAny (model P w) A (setSearch a (.ref x) (hk w k) true) (fun r s' => s = s' ∧ (r = .there none ∧ k ∈ ps.map (·.1) ∨ k ∉ ps.map (·.1) ∧ ∃ K, r = .free (way t.mask (hk w k) K) false ∧
      way t.mask (hk w k) K ∉ t.place.toList ∧ ∀ c, c < K → way t.mask (hk w k) c ∈ t.place.toList)) E s := by
  have room := R.room
  obtain ⟨K, hK, free, full⟩ := R.tab.first (by rw [List.length_map]; omega) (hk w k)
  have big : K < 100000 := by
    unfold SetTable.turns at hK
    rcases R.tab.mok with z | z | z <;> rw [z] at hK <;> omega
  refine wpAny_mono (seek R e X hu hK free full 100000 0 none rfl (Nat.zero_le _) (by omega) fun i p hp he => ?_) ?_ fun _ _ z => z
  · have h1 : (ps.map fun p => hk w p.1)[i]? = some (hk w k) := by rw [List.getElem?_map, hp, ← he]; rfl
    have il : i < t.place.toList.length := by rw [Array.length_toList, R.place]; exact (List.getElem?_eq_some_iff.mp hp).1
    obtain ⟨c, hc, z⟩ := R.tab.before free h1 (List.getElem?_eq_getElem il)
    exact ⟨c, Nat.zero_le _, hc, by rw [List.getElem?_eq_getElem il, z]⟩
  · rintro r s' ⟨rfl, z | z⟩
    · exact ⟨rfl, .inl z⟩
    · exact ⟨rfl, .inr ⟨z.2, K, z.1, free, full⟩⟩
theorem pick_map {α β : Type} (f : α → β) (ps : List α) (es : Array β) (e : es.toList = ps.map f) (os : Array Nat) : (os.filterMap (es[·]?)).toList = (os.toList.filterMap (ps[·]?)).map f := by
  have q : ∀ i, es[i]? = (ps[i]?).map f := fun i => by rw [← Array.getElem?_toList, e, List.getElem?_map]
  rw [Array.toList_filterMap, List.map_filterMap]
  exact congrArg (fun g => List.filterMap g os.toList) (funext q)
theorem pick_perm {α : Type} (ps : List α) {os : List Nat} (p : os.Perm (List.range ps.length)) : (os.filterMap (ps[·]?)).Perm ps := by
  refine (p.filterMap _).trans (List.Perm.of_eq ?_)
  have := PySem.W.krv_all ps.toArray
  simpa using this
theorem pick_hash (w : World) (ps : List Pr) (hs : Array Int) (e : hs.toList = ps.map fun p => hk w p.1) : ∀ os : List Nat, (∀ i ∈ os, i < ps.length) → (os.filterMap (ps[·]?)).map (fun p => hk w p.1) = os.map fun i => hs.getD i 0
  | [], _ => rfl
  | i :: os, h => by
    have il := h i List.mem_cons_self
    have h1 : hs[i]? = some (hk w ps[i].1) := by rw [← Array.getElem?_toList, e, List.getElem?_map, List.getElem?_eq_getElem il]; rfl
    rw [List.filterMap_cons_some (List.getElem?_eq_getElem il), List.map_cons, List.map_cons, pick_hash w ps hs e os fun j hj => h j (List.mem_cons_of_mem _ hj), Array.getD_eq_getD_getElem?, h1]
    rfl
/-- the set at a, its members as they stand -/
def RowsAt (w : World) (h : Heap) (a : Addr) (J : List Pr → Prop) : Prop := ∃ es ep t ps, h.get? a = some (sObj "set" (es, ep, t)) ∧ RowsP w h es t ps ∧ J ps
theorem other {h h' : Heap} {a : Addr} {D : SD} (e : h.get? a = some (sObj "set" D)) (sb : Heap.SameBut a h h') {ls : List Leaf} {b : Addr} (x : Flat h ls b) : Flat h' ls b := x.at fun o q => (sb.2 b (x.isnt e)).trans q
theorem relay (e : s.heap.get? a = some (sObj "set" (es, ep, t))) (rows : es.toList = ps.map (ent w)) (flat : ∀ p ∈ ps, Flat s.heap p.1 p.2) (nd : (ps.map (·.1)).Nodup) (T : Tab w t es.size) {n M : Nat}
    (hM : SetTable.sizeAbove n - 1 = M) (ok : MaskOk M) (small : SetTable.sizeAbove n ≤ 128) (room : ps.length * 5 < M * 3) :
    wpAny (model P w) A (setRelay a n) (fun _ => Only a (fun h => RowsAt w h a (·.Perm ps)) s) E s := by
  have sz : es.size = ps.length := by rw [← Array.length_toList, rows, List.length_map]
  have hs : (es.map (·.1)).toList = ps.map fun p => hk w p.1 := by
    rw [Array.toList_map, rows, List.map_map]
    rfl
  obtain ⟨t', os, re, pm, TO, em, el, _, _⟩ := relaid_ok t (hs := es.map (·.1)) (wanted := n) hM ok (by rw [Array.size_map, sz]; omega)
  rw [Array.size_map, sz] at pm
  rw [← pick_hash w ps _ hs _ fun i hi => List.mem_range.mp (pm.mem_iff.mp hi)] at TO
  have pp := pick_perm ps pm
  have rows' := pick_map (ent w) ps es rows os
  have sz' : (os.filterMap (es[·]?)).size = es.size := by rw [← Array.length_toList, rows', List.length_map, pp.length_eq, sz]
  rw [setRelay_eq]
  refine wpAny_bind (wpAny_setState_of e rfl T.fits (wp_if_neg (by rw [sizeLine_eq]; omega) ?_))
  rw [re]
  refine wpAny_bind (wp_if_neg (by rw [sz']; simp) (wpAny_pure (wpAny_storeSet_of e rfl ?_ ?_)))
  · have sb : Heap.SameBut a s.heap (s.heap.update a (Obj.putSet (os.filterMap (es[·]?)) t')) := .update ..
    refine ⟨_, s.toks, rfl, sb, _, _, t', os.toList.filterMap (ps[·]?), store_at e rfl, ⟨rows', fun p hp => other e sb (flat p (pp.mem_iff.mp hp)), (pp.map (·.1)).nodup_iff.mpr nd, TO, T.led.imp id fun z => el.trans z, ?_⟩, pp⟩
    rw [pp.length_eq, em]
    exact room
  · rw [sz', sz, sizeLine_eq]
    rcases ok with z | z | z <;> omega
end
end ZS
end
section
set_option maxHeartbeats 2000000
namespace ZS
open PySem PySem.Spec PyProof.Rows L2
open PySem.Froz (sObj SD)
section
variable {P : Program} {w : World} {A : Around} {E : Value → Shared → Prop} {s : Shared} {a x : Addr} {es : Array (Int × Value)} {ep : Nat} {t : SetTable} {ps : List Pr} {k : List Leaf}
/-- the set at a has just the members of L -/
def RowSet (w : World) (h : Heap) (a : Addr) (L : List Pr) : Prop := RowsAt w h a fun ps => (∀ p ∈ ps, p ∈ L) ∧ (∀ p ∈ L, p.1 ∈ ps.map (·.1)) ∧ ps.length ≤ L.length
theorem rowSet_bare {h : Heap} (e : h.get? a = some (bare w)) : RowSet w h a [] := by
  refine ⟨_, _, _, [], e, ⟨rfl, (fun _ z => nomatch z), .nil, ⟨.nil, rfl, rfl, .inl rfl, (fun _ z => nomatch z), (fun _ _ _ z => by simp at z)⟩, ?_, by show 0 * 5 < 7 * 3; decide⟩, (fun _ z => nomatch z), (fun _ z => nomatch z), Nat.le_refl _⟩
  show _ ∨ (!w.params.followText "set-order") = true
  cases w.params.followText "set-order"
  · exact .inr rfl
  · exact .inl rfl
theorem add_hashed (R : RowsP w s.heap es t ps) (e : s.heap.get? a = some (sObj "set" (es, ep, t))) (X : Flat s.heap k x) (hu : A.units + 1 < cLine) (few : ps.length + 1 < 64) :
    wpAny (model P w) A (setAddHashed a (.ref x) (hk w k)) (fun _ => Only a (fun h => RowsAt w h a fun qs => k ∈ ps.map (·.1) ∧ qs = ps ∨ k ∉ ps.map (·.1) ∧ qs.Perm ((k, x) :: ps)) s) E s := by
  have sz := R.size
  have room := R.room
  unfold setAddHashed
  rw [show (100000 : Nat) = 99999 + 1 from rfl]
  refine wpAny_holding ?_
  rw [setAddHashedIn_succ]
  refine wpAny_bind (wpAny_setState_of e rfl R.Tab.fits (wp_if_neg (by simp [byScan, Value.scannable]) ?_))
  refine wpAny_bind (wpAny_mono (search R e X hu) ?_ fun _ _ z => z)
  rintro r _ ⟨rfl, ⟨rfl, inn⟩ | ⟨out, K, rfl, free, full⟩⟩
  · exact wpAny_pure (only_refl ⟨es, ep, t, ps, e, R, .inl ⟨inn, rfl⟩⟩)
  · obtain ⟨q1, q2, q3, q4, q5, q6, _, _, q9⟩ := R.tab.put free full
    refine wpAny_bind (wpAny_setState_of e rfl R.Tab.fits ?_)
    dsimp only
    generalize t.put (way t.mask (hk w k) K) = T at q1 q3 q4 q5 q6 q9 ⊢
    obtain ⟨t1, p⟩ := T
    dsimp only at q1 q3 q4 q5 q6 q9 ⊢
    subst q1
    generalize SetTable.below t.place (way t.mask (hk w k) K) = p at q2 q3 ⊢
    -- how it was kept whether the table is plain
    have on : ∀ t2 : SetTable, t2.mask = t1.mask → t2.place = t1.place → t2.dummies = t1.dummies → t2.led = t1.led →
        wpAny (model P w) A (do
          storeSet a (SetTable.insertAt es p (hk w k, Value.ref x)) t2
          if (!false && t2.tooFull) = true then setRelay a (SetTable.grown (es.size + 1))
          return true) (fun _ => Only a (fun h => RowsAt w h a fun qs => k ∈ ps.map (·.1) ∧ qs = ps ∨ k ∉ ps.map (·.1) ∧ qs.Perm ((k, x) :: ps)) s) E s := by
      intro t2 m2 p2 d2 l2
      have pm : (ps.take p ++ (k, x) :: ps.drop p).Perm ((k, x) :: ps) := by
        have := List.perm_middle (a := (k, x)) (l₁ := ps.take p) (l₂ := ps.drop p)
        rw [List.take_append_drop] at this
        exact this
      have rows : (SetTable.insertAt es p (hk w k, Value.ref x)).toList = (ps.take p ++ (k, x) :: ps.drop p).map (ent w) := by
        rw [SetTable.toList_insertAt, R.rows, List.map_append, List.map_cons, List.map_take, List.map_drop]
        rfl
      have TO : TabOk t2 ((ps.take p ++ (k, x) :: ps.drop p).map fun p => hk w p.1) := by
        rw [List.map_append, List.map_cons, List.map_take, List.map_drop]
        refine ⟨by rw [p2]; exact q3.ris, d2.trans q3.dm, by rw [p2]; exact q3.sz, by rw [m2]; exact q3.mok, by rw [p2, m2]; exact q3.bd, by rw [p2, m2]; exact q3.reach⟩
      have nd : ((ps.take p ++ (k, x) :: ps.drop p).map (·.1)).Nodup := (pm.map (·.1)).nodup_iff.mpr (List.nodup_cons.mpr ⟨out, R.nd⟩)
      have sz1 : (SetTable.insertAt es p (hk w k, Value.ref x)).size = ps.length + 1 := by rw [← Array.length_toList, rows, List.length_map, pm.length_eq]; rfl
      have led : w.params.followText "set-order" = true ∨ t2.led = true := R.led.imp id fun z => (l2.trans q5).trans z
      have len := pm.length_eq
      rw [List.length_cons] at len
      generalize SetTable.insertAt es p (hk w k, Value.ref x) = es1 at rows sz1 ⊢
      generalize ps.take p ++ (k, x) :: ps.drop p = ps1 at pm rows TO nd len
      have sb : Heap.SameBut a s.heap (s.heap.update a (Obj.putSet es1 t2)) := .update ..
      have e1 : (s.heap.update a (Obj.putSet es1 t2)).get? a = some (sObj "set" (es1, ep + 1, t2)) := store_at e rfl
      have flat : ∀ p ∈ ps1, Flat (s.heap.update a (Obj.putSet es1 t2)) p.1 p.2 := fun p hp => other e sb (by
        rcases List.mem_cons.mp (pm.mem_iff.mp hp) with rfl | z
        · exact X
        · exact R.flat p z)
      have fill : t2.fill = ps.length + 1 := by
        have : t2.fill = t1.fill := by unfold SetTable.fill; rw [p2, d2]
        rw [this, q9, List.length_map]
      have mask : t2.mask = t.mask := m2.trans q4
      refine wpAny_bind (wpAny_storeSet_of e rfl ?_ (by rw [sz1, sizeLine_eq]; omega))
      by_cases full : t2.tooFull = true
      · have many : (ps.length + 1) * 5 ≥ t.mask * 3 := by
          unfold SetTable.tooFull at full
          rw [decide_eq_true_eq, fill, mask] at full
          exact full
        have big : ∃ M, SetTable.sizeAbove (SetTable.grown (es.size + 1)) - 1 = M ∧ MaskOk M ∧ SetTable.sizeAbove (SetTable.grown (es.size + 1)) ≤ 128 ∧ ps1.length * 5 < M * 3 := by
          rw [sz, len]
          rcases R.tab.mok with z | z | z <;> rw [z] at many room
          · have : ps.length = 4 := by omega
            exact ⟨31, by rw [this, size_20], .inr (.inl rfl), by rw [this, size_20]; decide, by omega⟩
          · have : ps.length = 18 := by omega
            exact ⟨127, by rw [this, size_76], .inr (.inr rfl), by rw [this, size_76]; decide, by omega⟩
          · omega
        obtain ⟨M, b1, b2, b3, b4⟩ := big
        have T1 : Tab w t2 es1.size := ⟨by
          unfold SetTable.fits
          rw [fill, sz1, Bool.and_eq_true, beq_iff_eq, decide_eq_true_eq]
          refine ⟨?_, ?_⟩
          · have := TO.sz
            rw [List.length_map, len] at this
            exact this
          · rcases R.tab.mok with z | z | z <;> rw [mask, z] <;> rw [z] at room <;> omega, TO.ris, led⟩
        refine wp_if_pos (by simp [full]) (wpAny_bind (wpAny_mono (relay (s := { s with heap := s.heap.update a (Obj.putSet es1 t2) }) e1 rows flat nd T1 b1 b2 b3 b4) ?_ fun _ _ z => z))
        rintro _ _ ⟨h', tk, rfl, sb2, es2, ep2, t3, ps2, e2, R2, pm2⟩
        exact wpAny_pure ⟨h', tk, rfl, sb.trans sb2, es2, ep2, t3, ps2, e2, R2, .inr ⟨out, pm2.trans pm⟩⟩
      · refine wp_if_neg (by simp [full]) (wpAny_pure ⟨_, s.toks, rfl, sb, es1, ep + 1, t2, ps1, e1, ⟨rows, flat, nd, TO, led, ?_⟩, .inr ⟨out, pm⟩⟩)
        unfold SetTable.tooFull at full
        rw [decide_eq_true_eq, fill] at full
        rw [len]
        omega
    by_cases pl : t1.plain = true
    · rw [if_pos pl]
      refine wpAny_bind (wpAny_mono (byValue_flat X) ?_ fun _ _ z => z)
      rintro b _ rfl
      cases b
      · exact on _ rfl rfl rfl rfl
      · exact on _ rfl rfl rfl rfl
    · rw [if_neg pl]
      exact wpAny_bind (wpAny_pure (on _ rfl rfl rfl rfl))
theorem add_row {L : List Pr} (R : RowSet w s.heap a L) (X : Flat s.heap k x) (hu : A.units + 1 < cLine) (few : L.length + 1 < 64) :
    wpAny (model P w) A (setAdd a (.ref x)) (fun _ => Only a (fun h => RowSet w h a (L ++ [(k, x)])) s) E s := by
  obtain ⟨es, ep, t, ps, e, R, sub, all, le⟩ := R
  unfold setAdd
  refine wpAny_holding (wpAny_bind (wpAny_mono (pyHash_flat X hu) ?_ fun _ _ z => z))
  rintro _ _ ⟨rfl, tk, rfl⟩
  refine wpAny_mono (add_hashed (s := { s with toks := tk }) R e X hu (by omega)) ?_ fun _ _ z => z
  rintro _ _ ⟨h', tk', rfl, sb, es', ep', t', qs, e', R', z⟩
  refine ⟨h', tk', rfl, sb, es', ep', t', qs, e', R', ?_⟩
  rcases z with ⟨inn, rfl⟩ | ⟨out, pm⟩
  · refine ⟨fun p hp => List.mem_append_left _ (sub p hp), fun p hp => ?_, Nat.le_trans le (by simp)⟩
    rcases List.mem_append.mp hp with z | z
    · exact all p z
    · rw [List.mem_singleton.mp z]; exact inn
  · refine ⟨fun p hp => ?_, fun p hp => (pm.map (·.1)).mem_iff.mpr ?_, by rw [pm.length_eq, List.length_append]; exact Nat.succ_le_succ le⟩
    · rcases List.mem_cons.mp (pm.mem_iff.mp hp) with z | z
      · rw [z]; exact List.mem_append_right _ (List.mem_singleton.mpr rfl)
      · exact List.mem_append_left _ (sub p z)
    · rcases List.mem_append.mp hp with z | z
      · exact List.mem_cons_of_mem _ (all p z)
      · rw [List.mem_singleton.mp z]; exact List.mem_cons_self
/-- set(xs), xs a list or tuple of such tuples -/
theorem call_rows {l : Addr} {us : Array Value} {L : List Pr} {Q : Value → Shared → Prop} (src : s.heap.IsList l us ∨ s.heap.IsTuple l us) (hh : A.handled = none) (few : L.length < 63) (hu : A.units + 8 < cLine)
    (is_ : us.toList = L.map fun p => Value.ref p.2) (flat : ∀ p ∈ L, Flat s.heap p.1 p.2)
    (q : ∀ h' tk, RowSet w h' s.heap.objs.size L → (∀ b o, s.heap.get? b = some o → h'.get? b = some o) → Q (.ref s.heap.objs.size) { s with heap := h', toks := tk }) :
    wpAny (model P w) A (call (.type "set") [.ref l]) Q E s := by
  have len : us.size = L.length := by rw [← Array.length_toList, is_, List.length_map]
  have isn : ∀ p ∈ L, p.2 ≠ s.heap.objs.size ∧ p.2 ≠ s.heap.objs.size + 1 := fun p hp => by
    obtain ⟨o, vs, n, e, _⟩ := (flat p hp).is_
    have := Heap.lt_size e
    exact ⟨Nat.ne_of_lt this, Nat.ne_of_lt (Nat.lt_succ_of_lt this)⟩
  have u3 : A.in1.in1.in1.units = A.units + 3 := by simp only [Around.in1_units]
  refine call_set (J := fun i h => RowSet w h s.heap.objs.size (L.take i) ∧ ∀ p ∈ L, Flat h p.1 p.2) src hh (fun h e k => ⟨rowSet_bare e, fun p hp => (flat p hp).at fun o => k _ o⟩)
    (fun i h h' ⟨⟨es, ep, t, ps, e, R, sub, r⟩, fl⟩ k => ?_) (fun i v s1 E pv ⟨R, fl⟩ => ?_) fun h' tk R k => q h' tk ?_ k
  · exact ⟨⟨es, ep, t, ps, k _ _ (Nat.ne_of_lt (Nat.lt_succ_self _)) e, R.keep fun p hp o eo => k _ o (isn p (List.mem_of_mem_take (sub p hp))).2 eo, sub, r⟩, fun p hp => (fl p hp).at fun o => k _ o (isn p hp).2⟩
  · have h1 : (L.map fun p => Value.ref p.2)[i]? = some v := by rw [← is_, Array.getElem?_toList]; exact pv
    rw [List.getElem?_map] at h1
    cases hp : L[i]? with
    | none => rw [hp] at h1; exact nomatch h1
    | some p =>
      rw [hp] at h1
      cases h1
      have il : i < L.length := (List.getElem?_eq_some_iff.mp hp).1
      have pm := List.mem_of_getElem? hp
      rw [List.take_add_one, hp]
      refine wpAny_mono (add_row R (fl p pm) (by omega) (by rw [List.length_take]; omega)) ?_ fun _ _ z => z
      rintro _ _ ⟨h', tk, rfl, sb, R'⟩
      exact ⟨h', tk, rfl, sb, R', fun p hp => (fl p hp).at fun o => (sb.2 _ (isn p hp).1).trans⟩
  · rw [len, List.take_length] at R
    exact R.1
end
end ZS
end
section
set_option maxHeartbeats 2000000
/-! set(rows), sorted(a set of rows) as words: a row is a text and two ints -/
namespace BK
open PySem PySem.Spec PyProof.Rows L2 ZS
open PySem.Froz (sObj SD)
abbrev Rw := Str × Int × Int
def leafV : Leaf → V
  | .none => .non
  | .num i => .int i
  | .text x => .str x
def rwL (r : Rw) : List Leaf := [.text r.1, .num r.2.1, .num r.2.2]
def rwV (r : Rw) : List V := [.str r.1, .int r.2.1, .int r.2.2]
def rwD (r : Rw) : PyData := .tuple [.str r.1, .int r.2.1, .int r.2.2]
theorem rwL_inj {a b : Rw} (h : rwL a = rwL b) : a = b := by
  obtain ⟨a, b, c⟩ := a
  unfold rwL at h
  simp only [List.cons.injEq, Leaf.text.injEq, Leaf.num.injEq, and_true] at h
  exact Prod.ext h.1 (Prod.ext h.2.1 h.2.2)
theorem leaves_of : ∀ {ls : List Leaf} {us : List Value}, Vals (ls.map leafV) us → LeavesAre us ls
  | [], _, .nil => .nil
  | l :: ls, _, .cons h r => by
    refine .cons ?_ (leaves_of r)
    cases l with
    | none => exact h
    | num i => exact h
    | text x => exact h
theorem flat_of {X : Cx} {pins : List (Addr × Obj)} {σ : L2.St} {H : Hp} {s : Shared} (I : L2.Inv X pins σ H s) {b : Addr} {ls : List Leaf} (h : SqT X.K H b (ls.map leafV)) : Flat s.heap ls b := by
  obtain ⟨its, rv, ⟨o, e, c, n, d⟩, _⟩ := I.tuple h
  exact ⟨⟨o, its.toArray, n, e, c, d, leaves_of rv⟩⟩
/-- a table of such members, apart from what they are -/
structure RowsQ (w : World) (es : Array (Int × Value)) (t : SetTable) (ps : List Pr) : Prop where
  rows : es.toList = ps.map (ent w)
  nd : (ps.map (·.1)).Nodup
  tab : TabOk t (ps.map fun p => hk w p.1)
  led : w.params.followText "set-order" = true ∨ t.led = true
  room : ps.length * 5 < t.mask * 3
def prs (L : List (Rw × Addr)) : List Pr := L.map fun p => (rwL p.1, p.2)
/-- the set at a has just the rows of L as its members -/
def SetR (w : World) (a : Addr) (L : List (Rw × Addr)) : HO := .ext fun h => ∃ es ep t ps, h.get? a = some (sObj "set" (es, ep, t)) ∧ RowsQ w es t ps ∧ (∀ p ∈ ps, p ∈ prs L) ∧ (∀ p ∈ prs L, p.1 ∈ ps.map (·.1)) ∧ ps.length ≤ L.length
theorem setR_new {P : Program} {w : World} {H : Hp} {h : Heap} {a : Addr} {L : List (Rw × Addr)} (R : RowSet w h a (prs L)) : ObjOk P w H h a (SetR w a L) := by
  obtain ⟨es, ep, t, ps, e, R, s1, s2, s3⟩ := R
  refine ⟨⟨es, ep, t, ps, e, ⟨R.rows, R.nd, R.tab, R.led, R.room⟩, s1, s2, by rwa [prs, List.length_map] at s3⟩, ⟨_, e⟩, ?_⟩
  rintro h1 h2 ⟨es, ep, t, ps, e, r⟩ k
  exact ⟨es, ep, t, ps, k _ e, r⟩
/-- the rows that stand at the addresses of L -/
def RwsAt (H : Hp) (K : PySem.W.Frag) (L : List (Rw × Addr)) : Prop := ∀ p ∈ L, SqT K H p.2 (rwV p.1)
section
variable {X : Cx}
theorem flats {pins : List (Addr × Obj)} {σ : L2.St} {H : Hp} {s : Shared} (I : L2.Inv X pins σ H s) {L : List (Rw × Addr)} (h : RwsAt H X.K L) : ∀ p ∈ prs L, Flat s.heap p.1 p.2 := fun p hp => by
  obtain ⟨q, hq, rfl⟩ := List.mem_map.mp hp
  exact flat_of I (h q hq)
def rSetR (K : PySem.W.Frag) (w : World) : List V → Hp → VK → Prop := fun xs H Q => ∃ (l : Addr) (L : List (Rw × Addr)), xs = [V.ref l] ∧ (SqL K H l (L.map fun p => V.ref p.2) ∨ SqT K H l (L.map fun p => V.ref p.2)) ∧ RwsAt H K L ∧ L.length < 63 ∧
  ∀ a, H a = none → Q (.ref a) (upd H a (SetR w a L))
theorem refs_vals {α : Type} {f : α → Addr} : ∀ {L : List α} {us : List Value}, Vals (L.map fun p => V.ref (f p)) us → us = L.map fun p => Value.ref (f p)
  | [], _, .nil => rfl
  | _ :: _, _, .cons h r => by rw [refs_vals r]; cases h; rfl
theorem cr_setR (hc : X.calm = true) (hu : X.A.units + 64 < cLine) : CallR X (.type "set") (rSetR X.K X.w) := by
  rintro pins s σ H _ us Q I r ⟨l, L, rfl, hl, hr, few, q⟩
  rw [Vals.ref1 r]
  have src : ∃ its, Vals (L.map fun p => V.ref p.2) its ∧ (s.heap.IsList l its.toArray ∨ s.heap.IsTuple l its.toArray) := by
    rcases hl with hl | hl
    · obtain ⟨its, rv, pl, _⟩ := I.list hl
      exact ⟨its, rv, .inl pl.isList⟩
    · obtain ⟨its, rv, pt, _⟩ := I.tuple hl
      exact ⟨its, rv, .inr pt⟩
  obtain ⟨its, rv, src⟩ := src
  refine call_rows (L := prs L) src (I.ok.hd hc) (by rw [prs, List.length_map]; exact few) (by omega) ?_ (flats I hr) fun h' tk R k => ?_
  · show its.toArray.toList = _
    rw [List.toList_toArray, refs_vals rv, prs, List.map_map]
    rfl
  · exact ⟨.ref s.heap.objs.size, _, I.laid (t' := tk) k (Nat.le_refl _) (setR_new R), rfl, q _ (I.hok.fresh (Nat.le_refl _))⟩
/-! ### the order of rows -/
def ltR (a b : Rw) : Bool := if a.1 = b.1 then (if a.2.1 = b.2.1 then decide (a.2.2 < b.2.2) else decide (a.2.1 < b.2.1)) else decide (a.1.cps.toList < b.1.cps.toList)
theorem dataLt_rw (a b : Rw) : PySem.W.dataLt (rwD a) (rwD b) = ltR a b := by
  unfold rwD
  rw [PySem.W.dataLt_tuple, PySem.W.dataLt_cons (by simp [PySem.W.alike]), PySem.W.dataLt_cons (by simp [PySem.W.alike]), PySem.W.dataLt_cons (by simp [PySem.W.alike]), PySem.W.dataLt_int, PySem.W.dataLt_int, PySem.W.dataLt_str]
  have e : PyProof.Rows.lexLt itemOrd (PySem.W.keyToksAll []) (PySem.W.keyToksAll []) = false := lex_irrefl _
  rw [e]
  unfold ltR
  simp only [PyData.eqv, beq_iff_eq]
  split
  · split
    · split
      · next h => rw [h]; simp
      · rfl
    · rfl
  · rfl
theorem ltR_total (a b : Rw) (h1 : ltR a b = false) (h2 : ltR b a = false) : a = b := by
  unfold ltR at h1 h2
  by_cases e1 : a.1 = b.1
  · rw [if_pos e1] at h1
    rw [if_pos e1.symm] at h2
    by_cases e2 : a.2.1 = b.2.1
    · rw [if_pos e2] at h1
      rw [if_pos e2.symm] at h2
      have := of_decide_eq_false h1
      have := of_decide_eq_false h2
      exact Prod.ext e1 (Prod.ext e2 (by omega))
    · rw [if_neg e2] at h1
      rw [if_neg (fun z => e2 z.symm)] at h2
      have := of_decide_eq_false h1
      have := of_decide_eq_false h2
      exact absurd (show a.2.1 = b.2.1 by omega) e2
  · rw [if_neg e1] at h1
    rw [if_neg (fun z => e1 z.symm)] at h2
    exact absurd (PySem.W.str_of_cps (List.le_antisymm (List.not_lt.mp (of_decide_eq_false h2)) (List.not_lt.mp (of_decide_eq_false h1)))) e1
theorem ltR_irr (a : Rw) : ltR a a = false := by
  unfold ltR
  rw [if_pos rfl, if_pos rfl]
  exact decide_eq_false (Int.lt_irrefl _)
theorem ltR_trans {a b c : Rw} (h1 : ltR b a = false) (h2 : ltR c b = false) : ltR c a = false := by
  unfold ltR at *
  by_cases e1 : b.1 = a.1
  · rw [if_pos e1] at h1
    by_cases e2 : c.1 = b.1
    · rw [if_pos e2] at h2
      rw [if_pos (e2.trans e1)]
      by_cases f1 : b.2.1 = a.2.1
      · rw [if_pos f1] at h1
        by_cases f2 : c.2.1 = b.2.1
        · rw [if_pos f2] at h2
          rw [if_pos (f2.trans f1)]
          have := of_decide_eq_false h1
          have := of_decide_eq_false h2
          exact decide_eq_false (by omega)
        · rw [if_neg f2] at h2
          have := of_decide_eq_false h2
          rw [if_neg (by omega)]
          exact decide_eq_false (by omega)
      · rw [if_neg f1] at h1
        have := of_decide_eq_false h1
        by_cases f2 : c.2.1 = b.2.1
        · rw [if_neg (by omega)]
          exact decide_eq_false (by omega)
        · rw [if_neg f2] at h2
          have := of_decide_eq_false h2
          rw [if_neg (by omega)]
          exact decide_eq_false (by omega)
    · rw [if_neg e2] at h2
      rw [← e1, if_neg e2]
      exact h2
  · rw [if_neg e1] at h1
    by_cases e2 : c.1 = b.1
    · rw [e2, if_neg e1]
      exact h1
    · rw [if_neg e2] at h2
      have h1 := List.not_lt.mp (of_decide_eq_false h1)
      have h2 := List.not_lt.mp (of_decide_eq_false h2)
      have h3 := List.le_trans h1 h2
      by_cases e3 : c.1 = a.1
      · rw [e3] at h2
        exact absurd (PySem.W.str_of_cps (List.le_antisymm h2 h1)) e1
      · rw [if_neg e3]
        exact decide_eq_false (List.not_lt.mpr h3)
theorem ltR_asymm {a b : Rw} (h1 : ltR b a = true) : ltR a b = false := Bool.eq_false_iff.mpr fun h2 => by
  unfold ltR at h1 h2
  by_cases e1 : a.1 = b.1
  · rw [if_pos e1.symm] at h1
    rw [if_pos e1] at h2
    by_cases e2 : a.2.1 = b.2.1
    · rw [if_pos e2.symm] at h1
      rw [if_pos e2] at h2
      have := of_decide_eq_true h1
      have := of_decide_eq_true h2
      omega
    · rw [if_neg (fun z => e2 z.symm)] at h1
      rw [if_neg e2] at h2
      have := of_decide_eq_true h1
      have := of_decide_eq_true h2
      omega
  · rw [if_neg (fun z => e1 z.symm)] at h1
    rw [if_neg e1] at h2
    exact List.lt_irrefl _ (List.lt_trans (of_decide_eq_true h1) (of_decide_eq_true h2))
/-- sorted(the set): its members, once each, rising -/
def IsSrt (L : List Rw) (ys : List Rw) : Prop := ys.Pairwise (fun a b => ltR b a = false) ∧ ys.Nodup ∧ ∀ r, r ∈ ys ↔ r ∈ L
def rSortedR (K : PySem.W.Frag) (w : World) : List V → Hp → VK → Prop := fun vs H Q => ∃ (a : Addr) (L : List (Rw × Addr)), vs = [V.ref a] ∧ H a = some (SetR w a L) ∧ RwsAt H K L ∧ L.length < 63 ∧
  ∀ (ps : List (Rw × Addr)) (p : Addr), (∀ q ∈ ps, q ∈ L) → IsSrt (L.map (·.1)) (ps.map (·.1)) → H p = none → Q (.ref p) (upd H p (.lst (ps.map fun q => V.ref q.2)))
theorem each_refs {α : Type} {f : α → Addr} {C : Value → α → Prop} : ∀ {ps : List α} {us : List Value}, PySem.W.EachIs (fun v p => v = Value.ref (f p) ∧ C v p) us ps → Vals (ps.map fun p => V.ref (f p)) us
  | _, _, .nil => .nil
  | _, _, .cons h r => .cons h.1 (each_refs r)
theorem cr_sortedR (hc : X.calm = true) (hu : X.A.units + 64 < cLine) : CallR X (.builtin "sorted") (rSortedR X.K X.w) := by
  rintro pins s σ H _ us Q I r ⟨a, L, rfl, ha, hr, few, q⟩
  rw [Vals.ref1 r]
  obtain ⟨es, ep, t, ps, e, RQ, sub, all, le⟩ := (I.hok a _ ha).1
  have fl := flats I hr
  have R : RowsP X.w s.heap es t ps := ⟨RQ.rows, fun p hp => fl p (sub p hp), RQ.nd, RQ.tab, RQ.led, RQ.room⟩
  have lt : es.size < scanBound := by
    rw [R.size]
    unfold scanBound
    omega
  have one : ∀ (v : Value) (b b' : Rw × Addr), (v = .ref b.2 ∧ (rwL b.1, b.2) ∈ ps) → (v = .ref b'.2 ∧ (rwL b'.1, b'.2) ∈ ps) → b = b' := by
    rintro v ⟨r1, a1⟩ ⟨r2, a2⟩ ⟨rfl, h1⟩ ⟨h3, h2⟩
    have e0 : a1 = a2 := by injection h3
    subst e0
    have k1 := key_one (NestedIs.inj (h := s.heap) _ _ (.ref a1) (R.flat _ h1).nested (R.flat _ h2).nested)
    exact Prod.ext (rwL_inj k1) rfl
  refine sorted_of (R := fun v b => v = Value.ref b.2 ∧ (rwL b.1, b.2) ∈ ps) (fun b : Rw × Addr => rwD b.1) e R.Tab lt (I.ok.hd hc) one ?_ ?_ (fun b b' => by simp [rwD, PySem.W.alike, PySem.W.alikeAll]) (fun bs => PySem.W.Sortable.tuples fun b => ⟨_, _, rfl⟩) (fun b => by simp [rwD, PyData.depth, PyData.depthAll]) (by omega) ?_
  · intro e1 he
    rw [R.rows] at he
    obtain ⟨p, hp, rfl⟩ := List.mem_map.mp he
    obtain ⟨q0, hq0, z⟩ := List.mem_map.mp (sub p hp)
    exact ⟨q0, by rw [← z]; rfl, by rw [z]; exact hp⟩
  · rintro e1 he b h' ⟨z, hb⟩ k
    rw [z]
    obtain ⟨o, vs, n, eo, c, d, lv⟩ := (R.flat _ hb).is_
    have rd : ReadsAll h' vs.toList [.str b.1.1, .int b.1.2.1, .int b.1.2.2] [] := by
      generalize vs.toList = us at lv
      cases lv with
      | cons h1 t1 =>
        cases t1 with
        | cons h2 t2 =>
          cases t2 with
          | cons h3 t3 =>
            cases t3
            obtain ⟨_, rfl⟩ := h1
            obtain ⟨_, rfl⟩ := h2
            obtain ⟨_, rfl⟩ := h3
            exact .cons (as := []) (.str _ _) (.cons (as := []) (.int _ _) (.cons (as := []) (.int _ _) .nil))
    exact .tuple (k _ _ eo) c d rd
  · intro s' p out c bs k g o hp hg er _ mem nd len
    have pm := List.mergeSort_perm bs (PySem.W.dataLe false fun b : Rw × Addr => rwD b.1)
    have ln : ((bs.mergeSort (PySem.W.dataLe false fun b : Rw × Addr => rwD b.1)).map fun q => V.ref q.2).length ≤ sizeLine := by
      rw [List.length_map, pm.length_eq, len, sizeLine_eq]
      unfold scanBound at lt
      dsimp only
      omega
    obtain ⟨free, J⟩ := inv_list I k g o hp hg (each_refs er) ln
    have bsin : ∀ b, b ∈ bs ↔ (rwL b.1, b.2) ∈ ps := fun b => by
      rw [mem b]
      constructor
      · rintro ⟨e1, he, z, hb⟩
        exact hb
      · intro hb
        exact ⟨ent X.w (rwL b.1, b.2), by show _ ∈ es.toList; rw [R.rows]; exact List.mem_map.mpr ⟨_, hb, rfl⟩, rfl, hb⟩
    have inL : ∀ b, (rwL b.1, b.2) ∈ ps → b ∈ L := fun b hb => by
      obtain ⟨q0, hq0, z⟩ := List.mem_map.mp (sub _ hb)
      have z1 := rwL_inj (congrArg Prod.fst z)
      have z2 : q0.2 = b.2 := congrArg (fun t : Pr => t.2) z
      rw [show b = q0 from Prod.ext z1.symm z2.symm]
      exact hq0
    refine ⟨.ref p, _, J, rfl, q _ p (fun q0 hq => inL _ ((bsin q0).mp (pm.mem_iff.mp hq))) ⟨?_, ?_, fun r0 => ?_⟩ free⟩
    · rw [List.pairwise_map]
      have le : (PySem.W.dataLe false fun b : Rw × Addr => rwD b.1) = fun a b : Rw × Addr => !ltR b.1 a.1 := by
        funext a b
        show (!PySem.W.dataLt (rwD b.1) (rwD a.1)) = _
        rw [dataLt_rw]
      rw [le]
      refine (List.pairwise_mergeSort (fun a b c h1 h2 => ?_) (fun a b => ?_) bs).imp fun h => by simpa using h
      · simp only [Bool.not_eq_true'] at h1 h2 ⊢
        exact ltR_trans h1 h2
      · simp only [Bool.or_eq_true, Bool.not_eq_true']
        cases h1 : ltR b.1 a.1
        · exact .inl rfl
        · right
          cases h2 : ltR a.1 b.1
          · rfl
          · exact absurd h2 (by rw [ltR_asymm h1]; decide)
    · have nd2 : (bs.map (·.1)).Nodup := by
        have nb : bs.Nodup := nd (by
          rw [R.rows]
          refine List.pairwise_map.mpr ((List.pairwise_map.mp R.nd).imp_of_mem fun {p1 p2} m1 m2 ne b y => ne ?_)
          obtain ⟨⟨y1, y2⟩, y3, y4⟩ := y
          have z1 : p1.2 = b.2 := by injection (y1 : Value.ref p1.2 = Value.ref b.2)
          have z2 : p2.2 = b.2 := by injection (y3 : Value.ref p2.2 = Value.ref b.2)
          have f1 := R.flat _ m1
          have f2 := R.flat _ m2
          rw [z1] at f1
          rw [z2] at f2
          exact key_one (NestedIs.inj (h := s.heap) _ _ (.ref b.2) f1.nested f2.nested))
        have two : ∀ {qs : List Pr} {x y : Pr}, (qs.map (·.1)).Nodup → x ∈ qs → y ∈ qs → x.1 = y.1 → x = y := by
          intro qs
          induction qs with
          | nil => intro x y _ h; exact nomatch h
          | cons z qs ih =>
            intro x y n hx hy e
            obtain ⟨n1, n2⟩ := List.nodup_cons.mp n
            rcases List.mem_cons.mp hx with hx1 | hx1
            · rcases List.mem_cons.mp hy with hy1 | hy1
              · rw [hx1, hy1]
              · exact absurd (show (fun p : Pr => p.1) z ∈ qs.map (fun p : Pr => p.1) from List.mem_map.mpr ⟨y, hy1, by rw [← hx1]; exact e.symm⟩) n1
            · rcases List.mem_cons.mp hy with hy1 | hy1
              · exact absurd (show (fun p : Pr => p.1) z ∈ qs.map (fun p : Pr => p.1) from List.mem_map.mpr ⟨x, hx1, by rw [← hy1]; exact e⟩) n1
              · exact ih n2 hx1 hy1 e
        refine List.pairwise_map.mpr (nb.imp_of_mem fun {b1 b2} m1 m2 ne e0 => ne ?_)
        have z := two R.nd ((bsin b1).mp m1) ((bsin b2).mp m2) (congrArg rwL e0)
        exact Prod.ext e0 (congrArg (fun t : Pr => t.2) z)
      exact (pm.map (·.1)).nodup_iff.mpr nd2
    · rw [List.mem_map, List.mem_map]
      constructor
      · rintro ⟨b, hb, rfl⟩
        exact ⟨b, inL b ((bsin b).mp (pm.mem_iff.mp hb)), rfl⟩
      · rintro ⟨b, hb, rfl⟩
        have h1 := all (rwL b.1, b.2) (List.mem_map.mpr ⟨b, hb, rfl⟩)
        obtain ⟨p0, hp0, z⟩ := List.mem_map.mp h1
        obtain ⟨q0, hq0, z0⟩ := List.mem_map.mp (sub p0 hp0)
        refine ⟨q0, pm.mem_iff.mpr ((bsin q0).mpr (by rw [z0]; exact hp0)), ?_⟩
        rw [← z0] at z
        exact rwL_inj z
end
end BK
end
section
set_option maxHeartbeats 4000000
namespace OW
open PySem PySem.Spec PyProof.Rows L2 Evl G
/-! ### data with dicts of texts and numbers in it -/
def kvV (kvs : List (Str × Int)) : List (Key × V) := kvs.map fun p => (Sum.inr p.1, V.int p.2)
def kvD (kvs : List (Str × Int)) : List (PyData × PyData) := kvs.map fun p => (PyData.str p.1, PyData.int p.2)
mutual
/-- v is the data d -/
inductive Dq (H : Hp) : V → PyData → Prop
  | non : Dq H .non .none
  | bl (b : Bool) : Dq H (.bl b) (.bool b)
  | int (i : Int) : Dq H (.int i) (.int i)
  | str (x : Str) : Dq H (.str x) (.str x)
  | lst {a : Addr} {xs : List V} {ds : List PyData} : H a = some (.lst xs) → DqAll H xs ds → Dq H (.ref a) (.list ds)
  | tup {a : Addr} {xs : List V} {ds : List PyData} : H a = some (.tup xs) → DqAll H xs ds → Dq H (.ref a) (.tuple ds)
  | dct {a : Addr} (kvs : List (Str × Int)) : H a = some (.dK (kvV kvs)) → Dq H (.ref a) (.dict (kvD kvs))
inductive DqAll (H : Hp) : List V → List PyData → Prop
  | nil : DqAll H [] []
  | cons {v : V} {vs : List V} {d : PyData} {ds : List PyData} : Dq H v d → DqAll H vs ds → DqAll H (v :: vs) (d :: ds)
end
mutual
theorem dq_mono {H H' : Hp} (e : Ex H H') : ∀ (d : PyData) {v : V}, Dq H v d → Dq H' v d
  | .none, _, h => by cases h; exact .non
  | .bool _, _, h => by cases h; exact .bl _
  | .int _, _, h => by cases h; exact .int _
  | .str _, _, h => by cases h; exact .str _
  | .list ds, _, h => by cases h with | lst a k => exact .lst (e _ _ a) (dqAll_mono e ds k)
  | .tuple ds, _, h => by cases h with | tup a k => exact .tup (e _ _ a) (dqAll_mono e ds k)
  | .dict kvs, _, h => by
    generalize hd : PyData.dict kvs = d at h
    cases h with
    | dct kv a => exact .dct kv (e _ _ a)
    | _ => cases hd
theorem dqAll_mono {H H' : Hp} (e : Ex H H') : ∀ (ds : List PyData) {vs : List V}, DqAll H vs ds → DqAll H' vs ds
  | [], _, h => by cases h; exact .nil
  | d :: ds, _, h => by cases h with | cons a k => exact .cons (dq_mono e d a) (dqAll_mono e ds k)
end
theorem Dq.mono {H H' : Hp} {v : V} {d : PyData} (h : Dq H v d) (e : Ex H H') : Dq H' v d := dq_mono e d h
theorem DqAll.mono {H H' : Hp} {vs : List V} {ds : List PyData} (h : DqAll H vs ds) (e : Ex H H') : DqAll H' vs ds := dqAll_mono e ds h
theorem DqAll.len {H : Hp} {vs : List V} {ds : List PyData} (h : DqAll H vs ds) : vs.length = ds.length := by
  induction vs generalizing ds with
  | nil => cases h; rfl
  | cons v vs ih => cases h with | cons a k => simp [ih k]
theorem DqAll.app {H : Hp} {vs us : List V} {ds es : List PyData} (h : DqAll H vs ds) (k : DqAll H us es) : DqAll H (vs ++ us) (ds ++ es) := by
  induction vs generalizing ds with
  | nil => cases h; exact k
  | cons v vs ih => cases h with | cons a t => exact .cons a (ih t)
theorem DqAll.get {H : Hp} {vs : List V} {ds : List PyData} (h : DqAll H vs ds) {i : Nat} {v : V} (hv : vs[i]? = some v) : ∃ d, ds[i]? = some d ∧ Dq H v d := by
  induction vs generalizing ds i with
  | nil => cases hv
  | cons u vs ih =>
    cases h with
    | cons a t =>
      cases i with
      | zero => cases hv; exact ⟨_, rfl, a⟩
      | succ i => exact ih t hv
theorem DqAll.take {H : Hp} {vs : List V} {ds : List PyData} (h : DqAll H vs ds) (n : Nat) : DqAll H (vs.take n) (ds.take n) := by
  induction vs generalizing ds n with
  | nil => cases h; simp; exact .nil
  | cons v vs ih =>
    cases h with
    | cons a t =>
      cases n with
      | zero => exact .nil
      | succ n => exact .cons a (ih t n)
theorem DqAll.drop {H : Hp} {vs : List V} {ds : List PyData} (h : DqAll H vs ds) (n : Nat) : DqAll H (vs.drop n) (ds.drop n) := by
  induction vs generalizing ds n with
  | nil => cases h; simp; exact .nil
  | cons v vs ih =>
    cases h with
    | cons a t =>
      cases n with
      | zero => exact .cons a t
      | succ n => exact ih t n
section
variable {X : Cx} {pins : List (Addr × Obj)} {σ : L2.St} {H : Hp} {s : Shared}
theorem dict_reads {h : Heap} {w : World} {P : Program} : ∀ {es : List DictEntry} {kvs : List (Str × Int)} {ws : List (Key × Value)}, KV (kvV kvs) ws → Pairs (mixKind P w) es ws → ReadsAll h (es.map (·.key)) ((kvD kvs).map (·.1)) [] ∧ ReadsAll h (es.map (·.val)) ((kvD kvs).map (·.2)) []
  | [], [], _, _, _ => ⟨.nil, .nil⟩
  | [], _ :: _, _, r, p => by
    cases r with
    | cons a t => cases p
  | e :: es, [], _, r, p => by
    cases r
    cases p
  | e :: es, kv :: kvs, _, r, p => by
    cases r with
    | cons a t =>
      cases p with
      | cons hk hv tp =>
        obtain ⟨q1, q2⟩ := dict_reads (h := h) t tp
        obtain ⟨e1, t2, e2⟩ := a
        have hk' : keyIs (Sum.inr kv.1) e.key = true := by
          have e1' : (Sum.inr kv.1 : Key) = _ := e1
          rw [e1']
          exact hk
        obtain ⟨x, tk, ek, ev⟩ : ∃ x tk, (Sum.inr kv.1 : Key) = Sum.inr x ∧ e.key = Value.str x tk := by
          rcases keyIs_shape hk' with ⟨i, tk, z, _⟩ | ⟨x, tk, z, z2⟩
          · cases z
          · exact ⟨x, tk, z, z2⟩
        have hx : x = kv.1 := (Sum.inr.inj ek).symm
        subst hx
        refine ⟨?_, ?_⟩
        · show ReadsAll h (e.key :: es.map (·.key)) (PyData.str kv.1 :: (kvD kvs).map (·.1)) []
          rw [ev]
          exact .cons (as := []) (.str _ _) q1
        · show ReadsAll h (e.val :: es.map (·.val)) (PyData.int kv.2 :: (kvD kvs).map (·.2)) []
          rw [hv, e2]
          exact .cons (as := []) (.int _ _) q2
mutual
theorem Dq.reads (I : Inv X pins σ H s) : ∀ (d : PyData) (v : V) (u : Value), Dq H v d → RelV v u → ∃ as, Reads s.heap u d as
  | .none, _, _, h, r => by cases h; cases r; exact ⟨_, Reads.none⟩
  | .bool b, _, _, h, r => by cases h; cases r; exact ⟨_, Reads.bool b⟩
  | .int i, _, _, h, r => by cases h; obtain ⟨t, rfl⟩ := r; exact ⟨_, Reads.int i t⟩
  | .str x, _, _, h, r => by cases h; obtain ⟨t, rfl⟩ := r; exact ⟨_, Reads.str x t⟩
  | .list ds, _, _, h, r => by
    cases h with
    | lst ha hk =>
      cases r
      obtain ⟨_, its, n, rv, ho⟩ := I.hok _ _ ha
      obtain ⟨as, hr⟩ := DqAll.reads I ds _ its hk rv
      exact ⟨_, Reads.list ho rfl rfl (by simpa using hr)⟩
  | .tuple ds, _, _, h, r => by
    cases h with
    | tup ha hk =>
      cases r
      obtain ⟨its, rv, ⟨o, ho, hc, n, hd⟩, _⟩ := I.tuple (st_of ha : SqT X.K H _ _)
      obtain ⟨as, hr⟩ := DqAll.reads I ds _ its hk rv
      exact ⟨_, Reads.tuple ho hc hd hr⟩
  | .dict kvs, v, u, h, r => by
    generalize hd : PyData.dict kvs = d at h
    cases h with
    | dct kv a =>
      cases hd
      cases r
      obtain ⟨_, hn, vs, rel, o, es, ep, ho, ex, hd, _, hp, _⟩ := I.hok _ _ a
      obtain ⟨q1, q2⟩ := dict_reads (h := s.heap) rel hp
      exact ⟨_, Reads.dict ho ex.1 hd q1 q2⟩
    | _ => cases hd
theorem DqAll.reads (I : Inv X pins σ H s) : ∀ (ds : List PyData) (vs : List V) (us : List Value), DqAll H vs ds → Vals vs us → ∃ as, ReadsAll s.heap us ds as
  | [], _, _, h, r => by cases h; cases r; exact ⟨_, ReadsAll.nil⟩
  | d :: ds, _, _, h, r => by
    cases h with
    | cons h1 h2 =>
      cases r with
      | cons r1 r2 =>
        obtain ⟨as, q1⟩ := Dq.reads I d _ _ h1 r1
        obtain ⟨bs, q2⟩ := DqAll.reads I ds _ _ h2 r2
        exact ⟨_, ReadsAll.cons q1 q2⟩
end
/-- a dict stands apart from the dict of modules -/
theorem Dq.readsD (I : Inv X pins σ H s) {v : V} {u : Value} (h : Dq H v (.dict [])) (r : RelV v u) : ∃ as, Reads s.heap u (.dict []) as ∧ sysModules ∉ as := by
  generalize hd : PyData.dict [] = d at h
  cases h with
  | dct kv a =>
    cases r
    obtain ⟨_, hn, vs, rel, o, es, ep, ho, ex, hd2, _, hp, _⟩ := I.hok _ _ a
    obtain ⟨q1, q2⟩ := dict_reads (h := s.heap) rel hp
    exact ⟨_, Reads.dict ho ex.1 hd2 q1 q2, by simpa using fun z : sysModules = _ => by rw [← z] at hn; simp at hn⟩
  | _ => cases hd
end
/-! ### repr -/
def rReprQ : List V → Hp → VK → Prop := fun xs H Q => ∃ (v : V) (d : PyData), xs = [v] ∧ Dq H v d ∧ d.showable = true ∧ d.depth ≤ 60 ∧ d.shown.length ≤ sizeLine ∧ (d.hasDict = false ∨ d = .dict []) ∧ Q (.str d.shown) H
theorem call_reprQ {X : Cx} (hgd : X.A.guards = some []) (hu : X.A.units + 64 < cLine) : CallR X (.builtin "repr") rReprQ := by
  intro pins s σ H xs us Q I r h
  obtain ⟨v, d, rfl, hd, hs, hdp, hz, hw, q⟩ := h
  obtain ⟨u, rfl, ru⟩ := vals1 r
  have ref : ∀ a : Addr, v = .ref a → wpAny (model X.prog X.w) X.A (call (.builtin "repr") [u]) (fun w s' => ∃ y H', Inv X pins σ H' s' ∧ RelV y w ∧ Q y H') X.xe s := by
    rintro a rfl
    obtain rfl : u = Value.ref a := ru
    obtain ⟨as, hr, hn⟩ : ∃ as, Reads s.heap (Value.ref a) d as ∧ (d.hasDict = true → sysModules ∉ as) := by
      rcases hw with hw | hw
      · obtain ⟨as, hr⟩ := Dq.reads I d _ _ hd rfl
        exact ⟨as, hr, fun z => by rw [hw] at z; cases z⟩
      · subst hw
        obtain ⟨as, hr, hn⟩ := Dq.readsD I hd rfl
        exact ⟨as, hr, fun _ => hn⟩
    exact repr_of_reads' hr hs hn hgd (by omega) (fun _ _ e => e) (fun h' u tk hk => ⟨.str d.shown, H, I.kept hk, ⟨_, rfl⟩, q⟩) hz
  cases v with
  | ref a => exact ref a rfl
  | non =>
    cases hd
    obtain rfl : u = Value.none := ru
    exact P.repr_of_none ⟨.str "None", H, I.tok _, ⟨_, rfl⟩, q⟩
  | bl b =>
    cases hd
    obtain rfl : u = Value.bool b := ru
    exact P.repr_of_bool ⟨.str (if b then "True" else "False"), H, I.tok _, ⟨_, rfl⟩, q⟩
  | int i =>
    cases hd
    obtain ⟨t, rfl⟩ := ru
    refine P.repr_of_int (of_decide_eq_true hs) ⟨.str (toString i), H, I.tok _, ⟨_, rfl⟩, q⟩
  | str x =>
    cases hd
    obtain ⟨t, rfl⟩ := ru
    exact P.repr_of_str ⟨.str (reprText x), H, I.tok _, ⟨_, rfl⟩, q⟩ hz
  | _ => cases hd
/-! ### what evaluates to data -/
def EvQ (te : TE) (σ : L2.St) (H : Hp) (d : PyData) : Prop := ∀ H1, Ex H H1 → ∀ Q : VK, (∀ v H2, Ex H1 H2 → Dq H2 v d → Q v H2) → te σ H1 Q
def EvAQ (tA : TA) (σ : L2.St) (H : Hp) (ds : List PyData) : Prop := ∀ H1, Ex H H1 → ∀ Q : List V → Hp → Prop, (∀ vs H2, Ex H1 H2 → DqAll H2 vs ds → Q vs H2) → tA σ H1 Q
def EvLq (te : TE) (σ : L2.St) (H : Hp) (ds : List PyData) : Prop := ∀ H1, Ex H H1 → ∀ Q : VK, (∀ p vs H2, H1 p = none → Ex H1 H2 → H2 p = some (.lst vs) → DqAll H2 vs ds → Q (.ref p) H2) → te σ H1 Q
def RetQ (d : PyData) (H : Hp) (Q : VK) : Prop := ∀ v H2, Ex H H2 → Dq H2 v d → Q v H2
section
variable {K : PySem.W.Frag} {σ : L2.St} {H : Hp} {te ta tb : TE} {tA : TA} {v : V} {d : PyData} {ds es : List PyData} {D : Ends} {tz : TS} {i : Nat}
theorem EvQ.mono {H' : Hp} (h : EvQ te σ H d) (e : Ex H H') : EvQ te σ H' d := fun H1 e1 => h H1 (e.trans e1)
theorem eq_of (h : Ev te σ H v) (hd : ∀ H1, Ex H H1 → Dq H1 v d) : EvQ te σ H d := fun H1 e Q q => h H1 e Q fun H2 e2 => q v H2 e2 (hd H2 (e.trans e2))
theorem eq_ref (h : Ev te σ H v) (hd : Dq H v d) : EvQ te σ H d := eq_of h fun _ e => hd.mono e
theorem eq_non : EvQ (tC .non) σ H .none := eq_of ev_c fun _ _ => .non
theorem eq_bl {b : Bool} : EvQ (tC (.bl b)) σ H (.bool b) := eq_of ev_c fun _ _ => .bl b
theorem eq_int {i : Int} : EvQ (tC (.int i)) σ H (.int i) := eq_of ev_c fun _ _ => .int i
theorem eq_str {x : Str} : EvQ (tC (.str x)) σ H (.str x) := eq_of ev_c fun _ _ => .str x
theorem aq_nil : EvAQ tNil σ H [] := fun H1 _ Q q => q [] H1 (Ex.refl _) .nil
theorem aq_cons (h : EvQ te σ H d) (t : EvAQ tA σ H ds) : EvAQ (tCons te tA) σ H (d :: ds) := fun H1 e Q q =>
  h H1 e _ fun v H2 e2 a => t H2 (e.trans e2) _ fun vs H3 e3 k => q (v :: vs) H3 (e2.trans e3) (.cons (a.mono e3) k)
theorem eq_tup (h : EvAQ tA σ H ds) (hl : ds.length ≤ 100000) : EvQ (tTup tA) σ H (.tuple ds) := fun H1 e Q q =>
  h H1 e _ fun vs H2 e2 k => ⟨sz_of (by rw [k.len]; exact hl), fun p hp => q _ _ (e2.trans (Ex.new hp)) (.tup upd_same (k.mono (Ex.new hp)))⟩
theorem lq_lst (h : EvAQ tA σ H ds) (hl : ds.length ≤ 100000) : EvLq (tLst tA) σ H ds := fun H1 e Q q =>
  h H1 e _ fun vs H2 e2 k => ⟨sz_of (by rw [k.len]; exact hl), fun p hp => q p vs _ (fresh_back e2 hp) (e2.trans (Ex.new hp)) upd_same (k.mono (Ex.new hp))⟩
theorem EvLq.eq (h : EvLq te σ H ds) : EvQ te σ H (.list ds) := fun H1 e Q q => h H1 e Q fun p vs H2 hp e2 h2 k => q _ H2 e2 (.lst h2 k)
theorem eq_lst (h : EvAQ tA σ H ds) (hl : ds.length ≤ 100000) : EvQ (tLst tA) σ H (.list ds) := (lq_lst h hl).eq
theorem eq_dnew : EvQ tDNewK σ H (.dict []) := fun H1 e Q q p hp => q _ _ (Ex.new hp) (.dct [] upd_same)
theorem eq_done {x : Str} {i : Int} : EvQ (tDisp [(tC (.str x), tC (.int i))]) σ H (.dict [(.str x, .int i)]) := fun H1 e Q q p hp => by
  refine ⟨upd_same, [(Sum.inr x, V.int i)], rfl, by show 1 ≤ 15; decide, ?_⟩
  rw [upd_upd]
  exact q _ _ (Ex.new hp) (.dct [(x, i)] upd_same)
theorem lq_cat (ha : EvLq ta σ H ds) (hb : EvLq tb σ H es) (hz : ds.length + es.length ≤ 100000) : EvLq (tOp rCat ta tb) σ H (ds ++ es) := fun H1 e Q q =>
  ha H1 e _ fun p xs H2 hp e2 h2 k2 => hb H2 (e.trans e2) _ fun r ys H3 hr e3 h3 k3 =>
    ⟨p, r, xs, ys, rfl, rfl, e3 p _ h2, h3, sz_of (by rw [k2.len, k3.len]; exact hz), fun u hu => q u _ _ (fresh_back (e2.trans e3) hu) ((e2.trans e3).trans (Ex.new hu)) upd_same ((k2.mono (e3.trans (Ex.new hu))).app (k3.mono (Ex.new hu)))⟩
theorem lq_ref {p : Addr} {vs : List V} (h : Ev te σ H (.ref p)) (hp : H p = some (.lst vs)) (k : DqAll H vs ds) (Q : VK) (H1 : Hp) (e : Ex H H1) (q : ∀ H2, Ex H1 H2 → H2 p = some (.lst vs) → DqAll H2 vs ds → Q (.ref p) H2) : te σ H1 Q := h H1 e Q fun H2 e2 => q H2 e2 ((e.trans e2) p _ hp) (k.mono (e.trans e2))
/-- x = e -/
theorem q_eq (h : EvQ te σ H d) (k : ∀ v H1, Ex H H1 → Dq H1 v d → tz D (σ.set i (some v)) H1) : tSeq (tAsg te (gName i)) tz D σ H := h H (Ex.refl _) _ k
theorem s_rq (h : EvQ te σ H d) (k : RetQ d H D.rt) : tRet te D σ H := h H (Ex.refl _) _ k
theorem q_lq (h : EvLq te σ H ds) (k : ∀ p vs H1, H p = none → Ex H H1 → H1 p = some (.lst vs) → DqAll H1 vs ds → tz D (σ.set i (some (.ref p))) H1) : tSeq (tAsg te (gName i)) tz D σ H := h H (Ex.refl _) _ k
theorem ev_callQ {sp : Sp} {dvs : List V} {E : XK} {z : V} (h : EvQ te σ H d) (hs : ∀ v H1, Ex H H1 → Dq H1 v d → SpV sp ([v] ++ dvs) H1 z) : Ev (tCall sp dvs E (tCons te tNil)) σ H z := fun H1 e Q q =>
  h H1 e _ fun v H2 e2 a => hs v H2 (e.trans e2) a H2 (Ex.refl _) Q (fun H3 e3 => q H3 (e2.trans e3)) _
end
/-- its type, for isinstance -/
def tyD : PyData → String
  | .none => "NoneType"
  | .bool _ => "bool"
  | .int _ => "int"
  | .str _ => "str"
  | .list _ => "list"
  | .tuple _ => "tuple"
  | .dict _ => "dict"
theorem ty_of {K : PySem.W.Frag} {H : Hp} {v : V} {d : PyData} (h : Dq H v d) : TyOf K H v (.type (tyD d)) := by
  cases h with
  | non => exact .non
  | bl b => exact .bl b
  | int i => exact .int i
  | str x => exact .str x
  | lst a _ => exact .lst a
  | tup a _ => exact .tup a
  | dct _ a => exact .dK a
end OW
end
section
set_option maxHeartbeats 2000000
/-! a < b for lists, alike or parted by their first numbers; sorted(rows) -/
namespace BK
open PySem PySem.Spec PyProof.Rows L2 ZS
section
open PySem.SeqAt AutoSeq1 MeetsSeq MeetsSeq2 MeetsSeq3 SeqRoads2
variable {prog : Program} {w : World} {A : Around} {E : Value → Shared → Prop} {s : Shared}
/-- two lists whose first items are unlike numbers -/
theorem lt_heads {l b : Addr} {i j : Int} {t u : Tok} {us ws : Array Value} {Q : Value → Shared → Prop} (hl : s.heap.IsList l us) (hb : s.heap.IsList b ws) (e1 : us[((0 : Int)).toNat]? = some (Value.int i t)) (e2 : ws[((0 : Int)).toNat]? = some (Value.int j u)) (ne : i ≠ j) (hu : A.units < cLine)
    (q : Q (.bool (decide (i < j))) s) : wpAny (model prog w) A (richCompare .Lt (.ref l) (.ref b)) Q E s := by
  obtain ⟨⟨cls, dd, data, sl⟩, ho, hc, n, hd⟩ := id hl
  obtain ⟨⟨cls2, dd2, data2, sl2⟩, ho2, hc2, n2, hd2⟩ := id hb
  simp only at hc hd hc2 hd2
  subst hc hd hc2 hd2
  have mt : Meets (Builtin.«list.__lt__» ⟨[.ref l, .ref b], []⟩) (fun A R s => s.heap.get? l = some { cls := .type "list", dict := dd, data := .seq us n, slots := sl } ∧ s.heap.get? b = some { cls := .type "list", dict := dd2, data := .seq ws n2, slots := sl2 } ∧ R (.ok (.ret (.bool (decide (i < j))))) s) := by
    intro prog w A R s h
    obtain ⟨hp, g, d, tk, os⟩ := s
    obtain ⟨k1, k2, r⟩ := h
    have f3 := AutoSeq1.sub_list_list
    wp_walk using wpAny_loadPart' k1, wpAny_loadPart' k2
    refine ⟨plainId_quiet plain_eq_loop _, codeAny_builtin entry_eq_loop ?_⟩
    rw [Around.under_plainId plain_eq_loop _]
    wp_walk using wpAny_loadPart' k1, wpAny_loadPart' k2
    rw [e1, e2]
    refine wpAny_bind (EqAt.int_int i t j u prog w _ _ ?_)
    rw [if_neg (by simpa using ne)]
    wp_walk using wpAny_loadPart' k1, wpAny_loadPart' k2
    rw [e1, e2]
    refine wpAny_bind (P.lt_int ?_)
    wp_walk
    exact r
  exact richCompare_meets_room (op := .Lt) ⟨_, ho, rfl⟩ ⟨_, ho2, rfl⟩ F.slot_list_lt F.entry_list_lt (F.args_list_lt_2 _ _) mt ⟨ho, ho2, show Value.bool (decide (i < j)) ≠ Value.notImplemented ∧ Q (.bool (decide (i < j))) s from ⟨(fun x => nomatch x), q⟩⟩ hu
end
/-- a < b, both lists of data: alike, or parted at once by their first numbers -/
def rLtK : R2 := fun x y H Q => ∃ ds es : List PyData, OW.Dq H x (.list ds) ∧ OW.Dq H y (.list es) ∧
  ((∃ i j us ws, ds = .int i :: us ∧ es = .int j :: ws ∧ i ≠ j ∧ Q (.bl (decide (i < j))) H) ∨ (PySem.W.alikeAll ds es = true ∧ PyData.depthAll ds ≤ 60 ∧ Q (.bl (PySem.W.dataLt (.list ds) (.list es))) H))
variable {X : Cx}
theorem op_ltK (hu : X.A.units + 64 < cLine) : OpR X (compareOp .Lt) rLtK := by
  intro pins s σ H x y v u Q I rx ry h
  obtain ⟨ds, es, hx, hy, h⟩ := h
  show wpAny _ _ (richCompare .Lt v u) _ _ s
  rcases h with ⟨i, j, us, ws, rfl, rfl, ne, q⟩ | ⟨al, dp, q⟩
  · cases hx with
    | @lst a xs _ ha ka =>
      cases hy with
      | @lst b ys _ hb kb =>
        cases rx
        cases ry
        obtain ⟨_, its, n, ra, oa⟩ := I.hok _ _ ha
        obtain ⟨_, its2, n2, rb, ob⟩ := I.hok _ _ hb
        cases ka with
        | cons k1 _ =>
          cases kb with
          | cons k2 _ =>
            cases k1
            cases k2
            cases ra with
            | cons r1 _ =>
              cases rb with
              | cons r2 _ =>
                obtain ⟨t, rfl⟩ := r1
                obtain ⟨t2, rfl⟩ := r2
                exact lt_heads ⟨_, oa, rfl, _, rfl⟩ ⟨_, ob, rfl, _, rfl⟩ (by simp; rfl) (by simp; rfl) ne (by omega) ⟨.bl (decide (i < j)), H, I, rfl, q⟩
  · obtain ⟨as, r1⟩ := OW.Dq.reads I _ _ _ hx rx
    obtain ⟨bs, r2⟩ := OW.Dq.reads I _ _ _ hy ry
    have d1 : (PyData.list ds).depth ≤ 61 := by
      rw [PyData.depth]
      omega
    exact PySem.W.rcLt_alike _ _ _ _ _ _ _ _ r1 r2 (by rw [PySem.W.alike]; exact al) (fun z => nomatch z) (by omega) _ _ _ _ ⟨.bl _, H, I, rfl, q⟩
/-! ### sorted(rows) -/
def rSortRw (K : PySem.W.Frag) : List V → Hp → VK → Prop := fun vs H Q => ∃ (a : Addr) (L : List (Rw × Addr)), vs = [V.ref a] ∧ SqL K H a (L.map fun p => V.ref p.2) ∧ RwsAt H K L ∧
  ∀ (ps : List (Rw × Addr)) (p : Addr), ps.Perm L → (ps.map (·.1)).Pairwise (fun a b => ltR b a = false) → H p = none → Q (.ref p) (upd H p (.lst (ps.map fun q => V.ref q.2)))
theorem reads_rw {pins : List (Addr × Obj)} {σ : L2.St} {H : Hp} {s : Shared} (I : L2.Inv X pins σ H s) {b : Addr} {r : Rw} (h : SqT X.K H b (rwV r)) : Reads s.heap (.ref b) (rwD r) [] := by
  obtain ⟨its, rv, ⟨o, e, c, n, d⟩, _⟩ := I.tuple h
  refine .tuple e c d ?_
  show ReadsAll s.heap its.toArray.toList _ _
  rw [List.toList_toArray]
  cases rv with
  | cons h1 t1 =>
    cases t1 with
    | cons h2 t2 =>
      cases t2 with
      | cons h3 t3 =>
        cases t3
        obtain ⟨_, rfl⟩ := h1
        obtain ⟨_, rfl⟩ := h2
        obtain ⟨_, rfl⟩ := h3
        exact .cons (as := []) (.str _ _) (.cons (as := []) (.int _ _) (.cons (as := []) (.int _ _) .nil))
theorem each_self {α : Type} {f : α → Addr} {C : Value → α → Prop} : ∀ {L : List α} {us : List Value}, Vals (L.map fun p => V.ref (f p)) us → (∀ p ∈ L, C (.ref (f p)) p) → PySem.W.EachIs C us L
  | [], _, .nil, _ => .nil
  | p :: L, _, .cons h r, k => by
    cases h
    exact .cons (k p List.mem_cons_self) (each_self r fun q hq => k q (List.mem_cons_of_mem _ hq))
theorem srt_rw (L : List (Rw × Addr)) : ((L.mergeSort (PySem.W.dataLe false fun b : Rw × Addr => rwD b.1)).map (·.1)).Pairwise (fun a b => ltR b a = false) := by
  rw [List.pairwise_map]
  have le : (PySem.W.dataLe false fun b : Rw × Addr => rwD b.1) = fun a b : Rw × Addr => !ltR b.1 a.1 := by
    funext a b
    show (!PySem.W.dataLt (rwD b.1) (rwD a.1)) = _
    rw [dataLt_rw]
  rw [le]
  refine (List.pairwise_mergeSort (fun a b c h1 h2 => ?_) (fun a b => ?_) L).imp fun h => by simpa using h
  · simp only [Bool.not_eq_true'] at h1 h2 ⊢
    exact ltR_trans h1 h2
  · simp only [Bool.or_eq_true, Bool.not_eq_true']
    cases h1 : ltR b.1 a.1
    · exact .inl rfl
    · exact .inr (Bool.eq_false_iff.mpr fun h2 => by
        have := ltR_asymm h1
        rw [h2] at this
        cases this)
theorem cr_sortRw (hu : X.A.units + 64 < cLine) : CallR X (.builtin "sorted") (rSortRw X.K) := by
  rintro pins s σ H _ us Q I r ⟨a, L, rfl, ha, hr, q⟩
  rw [Vals.ref1 r]
  obtain ⟨its, rv, pl, hz⟩ := I.list ha
  have er : PySem.W.EachIs (fun v (b : Rw × Addr) => v = Value.ref b.2 ∧ True) its L := each_self rv fun p _ => ⟨rfl, trivial⟩
  rw [List.length_map] at hz
  have al : PySem.W.AllAlike (L.map fun b : Rw × Addr => rwD b.1) := PySem.W.AllAlike.of fun b b' => by simp [rwD, PySem.W.alike, PySem.W.alikeAll]
  have so : PySem.W.Sortable (L.map fun b : Rw × Addr => rwD b.1) := PySem.W.Sortable.tuples fun b => ⟨_, _, rfl⟩
  refine PySem.W.sorted_data (enc := fun b : Rw × Addr => rwD b.1) pl.isList er (each_self rv fun p hp => ⟨[], reads_rw I (hr p hp)⟩) al so hz (fun b _ => by simp [rwD, PyData.depth, PyData.depthAll]; omega) fun out lo eo => ?_
  obtain ⟨c, hc⟩ := PyProof.Rows.sortedAll_at s.heap its out.toArray
  have pm := List.mergeSort_perm L (PySem.W.dataLe false fun b : Rw × Addr => rwD b.1)
  exact ⟨.ref (s.heap.objs.size + 1), upd H (s.heap.objs.size + 1) (.lst ((L.mergeSort (PySem.W.dataLe false fun b : Rw × Addr => rwD b.1)).map fun q => V.ref q.2)), I.laid (t' := s.toks) (fun _ _ => PyProof.Rows.sortedAll_old) (Nat.le_succ _) ⟨by rw [List.length_map, pm.length_eq]; exact hz, out, c, each_refs (f := fun b : Rw × Addr => b.2) (C := fun _ _ => True) eo, hc⟩, rfl, q _ _ pm (srt_rw L) (I.hok.fresh (Nat.le_succ _))⟩
end BK
end
section
set_option maxHeartbeats 2000000
/-! {x: True for x in promises}: a dict whose keys are promises, tuples of texts, numbers, None -/
namespace BK
open PySem PySem.Spec PyProof.Rows L2 ZS
inductive Vow where
  | quick (a b : Str)
  | lead (r : Str) (lo hi : Option Int)
deriving DecidableEq
def oL : Option Int → Leaf
  | none => .none
  | some i => .num i
def oV : Option Int → V
  | none => .non
  | some i => .int i
def oD : Option Int → PyData
  | none => .none
  | some i => .int i
def vwL : Vow → List Leaf
  | .quick a b => [.text "quick", .text a, .text b]
  | .lead r lo hi => [.text "lead", .text r, oL lo, oL hi]
def vwV : Vow → List V
  | .quick a b => [.str "quick", .str a, .str b]
  | .lead r lo hi => [.str "lead", .str r, oV lo, oV hi]
def vwD : Vow → PyData
  | .quick a b => .tuple [.str "quick", .str a, .str b]
  | .lead r lo hi => .tuple [.str "lead", .str r, oD lo, oD hi]
theorem oL_inj : ∀ {a b : Option Int}, oL a = oL b → a = b
  | none, none, _ => rfl
  | some i, some j, h => by
    have : i = j := by injection h
    rw [this]
  | none, some _, h => by injection h
  | some _, none, h => by injection h
theorem vwL_inj {a b : Vow} (h : vwL a = vwL b) : a = b := by
  cases a <;> cases b <;> simp only [vwL, List.cons.injEq, Leaf.text.injEq, and_true, true_and] at h
  · rw [h.1, h.2]
  · exact absurd h.2.2 (by simp)
  · exact absurd h.2.2 (by simp)
  · rw [h.1, oL_inj h.2.1, oL_inj h.2.2]
theorem vwL_V (v : Vow) : (vwL v).map leafV = vwV v := by
  cases v with
  | quick a b => rfl
  | lead r lo hi => cases lo <;> cases hi <;> rfl
abbrev kndV (P : Program) (w : World) : HeapKind P w (List Leaf) := tupleKind (PySem.leafKind P w)
/-- a promise once more: the first that was like it stands -/
def addV (L : List (Vow × Addr)) (p : Vow × Addr) : List (Vow × Addr) := if p.1 ∈ L.map (·.1) then L else L ++ [p]
def onceV (L : List (Vow × Addr)) : List (Vow × Addr) := L.foldl addV []
def entV (p : Vow × Addr) : List Leaf × Addr × Value := (vwL p.1, p.2, .bool true)
theorem atKey_entV {L : List (Vow × Addr)} {v : Vow} : (atKey (L.map entV) (vwL v)).isSome = decide (v ∈ L.map (·.1)) := by
  induction L with
  | nil => rfl
  | cons p L ih =>
    unfold atKey at ih ⊢
    rw [List.map_cons, List.find?_cons]
    by_cases e : p.1 = v
    · subst e
      simp [entV]
    · have e' : ¬ vwL p.1 = vwL v := fun z => e (vwL_inj z)
      rw [show decide ((entV p).1 = vwL v) = false from decide_eq_false e']
      dsimp only
      rw [ih, List.map_cons]
      exact decide_eq_decide.mpr ⟨List.mem_cons_of_mem _, fun z => by
        rcases List.mem_cons.mp z with z | z
        · exact absurd z.symm e
        · exact z⟩
theorem stored_entV (L : List (Vow × Addr)) (p : Vow × Addr) : storedH (L.map entV) (vwL p.1) p.2 (.bool true) = (addV L p).map entV := by
  have a := atKey_entV (L := L) (v := p.1)
  unfold addV
  cases h : atKey (L.map entV) (vwL p.1) with
  | none =>
    rw [h] at a
    have n : ¬ p.1 ∈ L.map (·.1) := of_decide_eq_false a.symm
    rw [storedH_new h, if_neg n, List.map_append]
    rfl
  | some q =>
    rw [h] at a
    have n : p.1 ∈ L.map (·.1) := of_decide_eq_true a.symm
    rw [storedH_old h, if_pos n, List.map_map]
    refine List.map_congr_left fun x _ => ?_
    show putAt (vwL p.1) (.bool true) (entV x) = entV x
    unfold putAt entV
    split <;> rfl
theorem sub_once : ∀ (L A : List (Vow × Addr)) (q : Vow × Addr), q ∈ L.foldl addV A → q ∈ A ∨ q ∈ L
  | [], _, _, h => .inl h
  | p :: L, A, q, h => by
    rcases sub_once L (addV A p) q h with z | z
    · unfold addV at z
      split at z
      · exact .inl z
      · rcases List.mem_append.mp z with z | z
        · exact .inl z
        · exact .inr (List.mem_cons.mpr (.inl (List.mem_singleton.mp z)))
    · exact .inr (List.mem_cons_of_mem _ z)
theorem mem_once {L : List (Vow × Addr)} {q : Vow × Addr} (h : q ∈ onceV L) : q ∈ L := (sub_once L [] q h).elim (fun z => nomatch z) id
theorem len_add (A : List (Vow × Addr)) (p : Vow × Addr) : (addV A p).length ≤ A.length + 1 := by
  unfold addV
  split
  · exact Nat.le_succ _
  · rw [List.length_append]; exact Nat.le_refl _
theorem len_once : ∀ (L A : List (Vow × Addr)), (L.foldl addV A).length ≤ A.length + L.length
  | [], _ => Nat.le_refl _
  | p :: L, A => by
    have := len_once L (addV A p)
    have := len_add A p
    rw [List.foldl_cons, List.length_cons]
    omega
theorem once_take (L : List (Vow × Addr)) {i : Nat} {p : Vow × Addr} (h : L[i]? = some p) : onceV (L.take (i + 1)) = addV (onceV (L.take i)) p := by
  unfold onceV
  rw [List.take_add_one, h, List.foldl_append]
  rfl
theorem nd_add {A : List (Vow × Addr)} {p : Vow × Addr} (n : (A.map (·.1)).Nodup) : ((addV A p).map (·.1)).Nodup := by
  unfold addV
  split
  · exact n
  · next h =>
    rw [List.map_append, List.nodup_append]
    exact ⟨n, by simp, fun x hx y hy e => h (by rw [List.map_singleton, List.mem_singleton] at hy; rw [← hy, ← e]; exact hx)⟩
theorem nd_once : ∀ (L A : List (Vow × Addr)), (A.map (·.1)).Nodup → ((L.foldl addV A).map (·.1)).Nodup
  | [], _, n => n
  | p :: L, A, n => nd_once L (addV A p) (nd_add n)
theorem all_add {A : List (Vow × Addr)} {p : Vow × Addr} (v : Vow) : v ∈ (addV A p).map (·.1) ↔ v ∈ A.map (·.1) ∨ v = p.1 := by
  unfold addV
  split
  · next h => exact ⟨.inl, fun z => z.elim id fun e => e ▸ h⟩
  · rw [List.map_append, List.mem_append, List.map_singleton, List.mem_singleton]
theorem all_once (v : Vow) : ∀ (L A : List (Vow × Addr)), v ∈ (L.foldl addV A).map (·.1) ↔ v ∈ A.map (·.1) ∨ v ∈ L.map (·.1)
  | [], _ => by simp
  | p :: L, A => by rw [List.foldl_cons, all_once v L, all_add, List.map_cons, List.mem_cons, or_assoc]
/-- the dict at D: its keys are the promises of L in this sequence, all led to True -/
def DctV (P : Program) (w : World) (D : Addr) (L : List (Vow × Addr)) : HO := .ext fun h => ∃ o es ep, h.get? D = some o ∧ o.ExactDict ∧ o.data = .dict es ep ∧ es.toList = (L.map entV).map (entryOfKey (kndV P w))
theorem dctV_new {P : Program} {w : World} {H : Hp} {h : Heap} {D : Addr} {L : List (Vow × Addr)} (x : h.DictOfH (kndV P w) D (L.map entV)) : ObjOk P w H h D (DctV P w D L) := by
  obtain ⟨o, es, ep, ho, hx, hd, he, _⟩ := x
  refine ⟨⟨o, es, ep, ho, hx, hd, he⟩, ⟨_, ho⟩, ?_⟩
  rintro h1 h2 ⟨o, es, ep, ho, r⟩ k
  exact ⟨o, es, ep, k _ ho, r⟩
section
variable {prog : Program} {w : World} {A : Around} {E : Value → Shared → Prop} {env : Env} {s : Shared}
/-- the promises that stand at the addresses of L -/
def VwsIn (P : Program) (w : World) (h : Heap) (L : List (Vow × Addr)) : Prop := ∀ p ∈ L, (kndV P w).is h (vwL p.1) p.2
theorem VwsIn.up {P : Program} {h h' : Heap} {L : List (Vow × Addr)} (x : VwsIn P w h L) (k : ∀ b o, h.get? b = some o → h'.get? b = some o) : VwsIn P w h' L := fun p hp => by
  obtain ⟨o, us, n, e, r⟩ := x p hp
  exact ⟨o, us, n, k _ _ e, r⟩
theorem turn_at {h' : Heap} {D : Addr} {L : List (Vow × Addr)} {i : Nat} {p : Vow × Addr} {tk : Nat} {Q : Unit → Shared → Prop} (V : VwsIn prog w h' L) (hp : L[i]? = some p) (dd : h'.DictOfH (kndV prog w) D ((onceV (L.take i)).map entV)) (few : L.length ≤ sizeLine) (hu : A.units < cLine)
    (q : ∀ h2 t2, h2.DictOfH (kndV prog w) D ((onceV (L.take (i + 1))).map entV) → Heap.SameBut D h' h2 → Q () { s with heap := h2, toks := t2 }) : wpAny (model prog w) A (dictSet D (.ref p.2) (.bool true)) Q E { s with heap := h', toks := tk } := by
  refine wpAny_dictSet_heap (s := { s with heap := h', toks := tk }) (knd := kndV prog w) (k := vwL p.1) (xs := (onceV (L.take i)).map entV) hu (V p (List.mem_of_getElem? hp)) dd (fun h2 d2 sb => ?_) ?_
  · rw [stored_entV, ← once_take L hp] at d2
    exact q h2 _ d2 sb
  · have := len_once (L.take i) []
    have := List.length_take_le i L
    rw [List.length_map]
    unfold onceV
    simp only [List.length_nil] at *
    have : (L.take i).length ≤ L.length := by rw [List.length_take]; exact Nat.min_le_right _ _
    omega
theorem dict_walk {scope : Scope} {cl : List (Str × Addr)} {l I : Addr} {oI : Obj} {L : List (Vow × Addr)} {us : Array Value} {x : Str} {px pk : Pos} {j : Nat} {pv : Pos} {St : Nat → Heap → Prop} {Q : Value → Shared → Prop}
    (hkind : scope.kind = .function) (hx : scope.names.lookup x = some .local) (nx : (x == ("__debug__" : Str)) = false) (hu : A.units < cLine) (W : Goes prog w A (.Name x px) I [I, l] [I] us.size (fun i v _ => us[i]? = some v) St) (hst : St 0 s.heap)
    (hus : us.toList = L.map fun p => Value.ref p.2) (V : VwsIn prog w s.heap L) (few : L.length ≤ sizeLine) (hI : I < s.heap.objs.size) (hl : l < s.heap.objs.size) (free : ∀ p ∈ L, p.2 ≠ I)
    (q : ∀ D h' tk, s.heap.objs.size ≤ D → h'.DictOfH (kndV prog w) D ((onceV L).map entV) → (∀ b o, b ≠ I → s.heap.get? b = some o → h'.get? b = some o) → Q (.ref D) { s with heap := h', toks := tk }) :
    DcGoes prog w A E env scope cl (.Name x px) [] (.Name x pk) (.Constant (.bool true) j pv) none Q (.ref I) s := by
  have len : us.size = L.length := by rw [← Array.length_toList, hus, List.length_map]
  refine ⟨I, _, _, _, _, _, rfl, W, hst, fun D C s3 B hD0 => ?_⟩
  obtain ⟨⟨h3, tk3, rfl⟩, old, nD, nC, hDC, hnm⟩ := B
  have kx : (compEnvC scope cl C env).kindOf x = some .local := lookup_relabel_local hx
  have hp : ((compEnvC scope cl C env).scope.kind == .class || ((compEnvC scope cl C env).scope.kind == .module && (compEnvC scope cl C env).locals != (compEnvC scope cl C env).globals)) = false := by
    show (scope.kind == .class || (scope.kind == .module && _)) = false
    rw [hkind]
    rfl
  have IC : I ≠ C := fun z => Nat.lt_irrefl _ (Nat.lt_of_lt_of_le (z ▸ hI) nC)
  have ID : I ≠ D := fun z => Nat.lt_irrefl _ (Nat.lt_of_lt_of_le (z ▸ hI) nD)
  have lC : l ≠ C := fun z => Nat.lt_irrefl _ (Nat.lt_of_lt_of_le (z ▸ hl) nC)
  have lD : l ≠ D := fun z => Nat.lt_irrefl _ (Nat.lt_of_lt_of_le (z ▸ hl) nD)
  -- what stands of the heap behind each turn
  refine ⟨fun i s1 => ∃ h' tk m, s1 = { s with heap := h', toks := tk } ∧ h'.Ns C m ∧ (∃ es ep, ∃ o : Obj, h'.get? D = some o ∧ o.ExactDict ∧ o.data = .dict es ep ∧ es.toList = ((onceV (L.take i)).map entV).map (entryOfKey (kndV prog w))) ∧ ∀ b o, b ≠ I → s.heap.get? b = some o → h'.get? b = some o,
    ⟨h3, tk3, _, rfl, hnm, ⟨#[], 0, _, hD0, ⟨rfl, rfl, rfl⟩, rfl, by rw [List.take_zero]; rfl⟩, fun b o _ => old b o⟩, ?_, ?_, ?_⟩
  · rintro i s1 h2 tk ⟨h', tk', m, rfl, n, ⟨es, ep, o, e, r⟩, k⟩ up _
    exact ⟨h2, tk, m, rfl, n.at' fun o e => up _ o (fun z => IC (List.mem_singleton.mp z).symm) e, ⟨es, ep, o, up _ _ (fun z => ID (List.mem_singleton.mp z).symm) e, r⟩, fun b o hb e => up b o (fun z => hb (List.mem_singleton.mp z)) (k b o hb e)⟩
  · rintro i v s1 hi hv st ⟨h', tk', m, rfl, n, ⟨es, ep, o, e, ex, dt, he⟩, k⟩
    have h1 : (L.map fun p => Value.ref p.2)[i]? = some v := by rw [← hus, Array.getElem?_toList]; exact hv
    rw [List.getElem?_map] at h1
    obtain ⟨p, hpi, rfl⟩ := Option.map_eq_some_iff.mp h1
    have V1 : VwsIn prog w h' L := fun p hp => by
      obtain ⟨o, us, n, e, r⟩ := V p hp
      exact ⟨o, us, n, k _ _ (free p hp) e, r⟩
    have dd : h'.DictOfH (kndV prog w) D ((onceV (L.take i)).map entV) := ⟨o, es, ep, e, ex, dt, he, fun y hy => by
      obtain ⟨z, hz, rfl⟩ := List.mem_map.mp hy
      exact V1 z (List.mem_of_mem_take (mem_once hz)), by
      rw [List.map_map]
      have := nd_once (L.take i) [] .nil
      exact List.pairwise_map.mpr ((List.pairwise_map.mp this).imp fun ne z => ne (vwL_inj z))⟩
    refine wpAny_assign_Name (wpAny_storeName_local kx n (fun h4 n4 s4 => ?_) hp)
    refine wpAny_tests_nil ?_
    show wpAny _ _ _ _ _ _
    rw [eval_Name _ _ _ nx]
    refine wpAny_bind (wpAny_standAt (wpAny_loadName_local hkind kx n4 (v := .ref p.2) (if_pos rfl) ?_))
    refine Constant_bool ?_
    have offC : ∀ {b : Addr} {o : Obj}, s.heap.get? b = some o → b ≠ C := fun e z => Nat.lt_irrefl _ (Nat.lt_of_lt_of_le (z ▸ Heap.lt_size e) nC)
    have up4 : ∀ b o, b ≠ C → h'.get? b = some o → h4.get? b = some o := fun b o hb e => s4.extBut _ _ hb e
    have V4 : VwsIn prog w h4 L := fun p hp => by
      obtain ⟨o, us, n, e, r⟩ := V1 p hp
      obtain ⟨o', _, _, e', _⟩ := V p hp
      exact ⟨o, us, n, up4 _ _ (offC e') e, r⟩
    refine turn_at (L := L) V4 hpi ⟨o, es, ep, up4 _ _ hDC e, ex, dt, he, fun y hy => by
      obtain ⟨z, hz, rfl⟩ := List.mem_map.mp hy
      exact V4 z (List.mem_of_mem_take (mem_once hz)), dd.nodup⟩ few hu fun h5 t5 d5 s5 => ?_
    obtain ⟨o5, es5, ep5, e5, ex5, dt5, he5, _⟩ := d5
    refine ⟨⟨h5, t5, _, rfl, n4.at' fun o e => (s5.2 _ (fun z => hDC z.symm)).trans e, ⟨es5, ep5, o5, e5, ex5, dt5, he5⟩, fun b o hb e => ?_⟩, ?_⟩
    · have lt := Heap.lt_size e
      have bC : b ≠ C := fun z => Nat.lt_irrefl _ (Nat.lt_of_lt_of_le (z ▸ lt) nC)
      have bD : b ≠ D := fun z => Nat.lt_irrefl _ (Nat.lt_of_lt_of_le (z ▸ lt) nD)
      exact (s5.2 b bD).trans (up4 b o bC (k b o hb e))
    · refine W.frame _ _ _ st fun b hb o e => ?_
      have bC : b ≠ C := by rcases List.mem_cons.mp hb with z | z; exact z ▸ IC; exact (List.mem_singleton.mp z) ▸ lC
      have bD : b ≠ D := by rcases List.mem_cons.mp hb with z | z; exact z ▸ ID; exact (List.mem_singleton.mp z) ▸ lD
      exact (s5.2 b bD).trans (up4 b o bC e)
  · rintro s1 ⟨h', tk', m, rfl, n, ⟨es, ep, o, e, ex, dt, he⟩, k⟩
    rw [len, List.take_length] at he
    refine ⟨m, n, fun h2 s2 => q D h2 tk' nD ⟨o, es, ep, s2.extBut _ _ hDC e, ex, dt, he, fun y hy => ?_, ?_⟩ fun b o hb e => ?_⟩
    · obtain ⟨z, hz, rfl⟩ := List.mem_map.mp hy
      have hz := mem_once hz
      obtain ⟨o', us', n', e', r⟩ := V z hz
      have off : ∀ {b : Addr} {o : Obj}, s.heap.get? b = some o → b ≠ C := fun e z => Nat.lt_irrefl _ (Nat.lt_of_lt_of_le (z ▸ Heap.lt_size e) nC)
      exact ⟨o', us', n', s2.extBut _ _ (off e') (k _ _ (free z hz) e'), r⟩
    · rw [List.map_map]
      have := nd_once L [] .nil
      exact List.pairwise_map.mpr ((List.pairwise_map.mp this).imp fun ne z => ne (vwL_inj z))
    · exact s2.extBut _ _ (show b ≠ C from fun z => Nat.lt_irrefl _ (Nat.lt_of_lt_of_le (z ▸ Heap.lt_size e) nC)) (k b o hb e)
end
end BK
end
section
set_option maxHeartbeats 2000000
/-! keys that are tuples of numbers and texts, parted before they are unlike: their order, and that they can be sorted by it -/
namespace BK
open PySem PySem.Spec PyProof.Rows L2 ZS
def bnd : Option Int → List PyData
  | none => [.int 0, .int 0]
  | some i => [.int 1, .int i]
/-- the key of a promise -/
def pkey : Vow → PyData
  | .quick a b => .tuple [.int 1, .str a, .str b]
  | .lead r lo hi => .tuple ([.int 0, .str r] ++ bnd lo ++ bnd hi)
def pkL : Vow → List PyData
  | .quick a b => [.int 1, .str a, .str b]
  | .lead r lo hi => [.int 0, .str r] ++ bnd lo ++ bnd hi
theorem pkey_eq (v : Vow) : pkey v = .tuple (pkL v) := by cases v <;> rfl
/-- numbers and texts -/
def atom : PyData → Bool
  | .int _ => true
  | .str _ => true
  | _ => false
/-- they can be compared: alike as far as the first place that parts them -/
def cmb : List PyData → List PyData → Bool
  | x :: xs, y :: ys => PySem.W.alike x y && (!PyData.eqv x y || cmb xs ys)
  | _, _ => true
theorem reads_atom {h : Heap} : ∀ {x y : PyData} {v : Value} {as bs : List Addr}, atom x = true → atom y = true → Reads h v x as → Reads h v y bs → x = y
  | .int _, .int _, _, _, _, _, _, r1, r2 => by cases r1; cases r2; rfl
  | .str _, .str _, _, _, _, _, _, r1, r2 => by cases r1; cases r2; rfl
  | .int _, .str _, _, _, _, _, _, r1, r2 => by cases r1; cases r2
  | .str _, .int _, _, _, _, _, _, r1, r2 => by cases r1; cases r2
  | .none, _, _, _, _, h, _, _, _ => absurd h Bool.false_ne_true
  | .bool _, _, _, _, _, h, _, _, _ => absurd h Bool.false_ne_true
  | .list _, _, _, _, _, h, _, _, _ => absurd h Bool.false_ne_true
  | .tuple _, _, _, _, _, h, _, _, _ => absurd h Bool.false_ne_true
  | .dict _, _, _, _, _, h, _, _, _ => absurd h Bool.false_ne_true
  | .int _, .none, _, _, _, _, h, _, _ => absurd h Bool.false_ne_true
  | .int _, .bool _, _, _, _, _, h, _, _ => absurd h Bool.false_ne_true
  | .int _, .list _, _, _, _, _, h, _, _ => absurd h Bool.false_ne_true
  | .int _, .tuple _, _, _, _, _, h, _, _ => absurd h Bool.false_ne_true
  | .int _, .dict _, _, _, _, _, h, _, _ => absurd h Bool.false_ne_true
  | .str _, .none, _, _, _, _, h, _, _ => absurd h Bool.false_ne_true
  | .str _, .bool _, _, _, _, _, h, _, _ => absurd h Bool.false_ne_true
  | .str _, .list _, _, _, _, _, h, _, _ => absurd h Bool.false_ne_true
  | .str _, .tuple _, _, _, _, _, h, _, _ => absurd h Bool.false_ne_true
  | .str _, .dict _, _, _, _, _, h, _, _ => absurd h Bool.false_ne_true
theorem reads_atoms {h : Heap} : ∀ {xs ys : List PyData} {vs : List Value} {as bs : List Addr}, xs.all atom = true → ys.all atom = true → ReadsAll h vs xs as → ReadsAll h vs ys bs → xs = ys
  | [], _, _, _, _, _, _, r1, r2 => by cases r1; cases r2; rfl
  | x :: xs, [], _, _, _, _, _, r1, r2 => by cases r2; cases r1
  | x :: xs, y :: ys, _, _, _, h1, h2, r1, r2 => by
    rw [List.all_cons, Bool.and_eq_true] at h1 h2
    cases r1 with
    | cons a1 b1 =>
      cases r2 with
      | cons a2 b2 => rw [reads_atom h1.1 h2.1 a1 a2, reads_atoms h1.2 h2.2 b1 b2]
theorem reads_keys {h : Heap} {xs ys : List PyData} {v : Value} {as bs : List Addr} (h1 : xs.all atom = true) (h2 : ys.all atom = true) (r1 : Reads h v (.tuple xs) as) (r2 : Reads h v (.tuple ys) bs) : xs = ys := by
  cases r1 with
  | tuple a1 a2 a3 a4 =>
    cases r2 with
    | tuple b1 b2 b3 b4 =>
      rw [a1] at b1
      cases b1
      rw [a3] at b3
      injection b3 with b3
      subst b3
      exact reads_atoms h1 h2 a4 b4
section
open PySem.W
variable {prog : Program} {w : World} {A : Around} {s : Shared}
theorem lex_cmb {b fin : Bool} {Q : Bool → Shared → Prop} : ∀ (xs ys : List PyData) (i : Nat) (vs ws : List Value) (as bs : List Addr), xs.all atom = true → ReadsAll s.heap vs xs as → ReadsAll s.heap ws ys bs → cmb xs ys = true → A.units + 1 < cLine →
    fin = decide (xs.length < ys.length) → Q (PyProof.Rows.lexLt itemOrd (keyToksAll xs) (keyToksAll ys)) s → KatLex prog w A b fin Q (vs.zip ws) i s
  | [], ys, i, _, ws, _, _, _, ra, rb, _, _, hf, hq => by
    cases ra
    rw [List.zip_nil_left]
    refine kat_nil ?_
    cases ys with
    | nil =>
      rw [hf]
      rw [lex_irrefl] at hq
      exact hq
    | cons y ys =>
      rw [toks_all_cons, keyToksAll, lex_diff (O := itemOrd) (by simp)] at hq
      rw [hf]
      simpa [itemLt] using hq
  | x :: xs, [], i, _, _, _, _, _, ra, rb, _, _, hf, hq => by
    cases rb
    rw [List.zip_nil_right]
    refine kat_nil ?_
    rw [toks_all_cons, keyToksAll, lex_diff (O := itemOrd) (by simp)] at hq
    rw [hf]
    simpa [itemLt] using hq
  | x :: xs, y :: ys, i, _, _, _, _, hx, ra, rb, hc, hu, hf, hq => by
    rw [List.all_cons, Bool.and_eq_true] at hx
    rw [cmb, Bool.and_eq_true, Bool.or_eq_true, Bool.not_eq_true'] at hc
    obtain ⟨al, nx⟩ := hc
    have flat : x.depth = 0 := by cases x <;> first | (simp [PyData.depth]; done) | (exact absurd hx.1 Bool.false_ne_true)
    cases ra with
    | cons r rs =>
      cases rb with
      | cons r' rs' =>
        rw [List.zip_cons_cons]
        refine kat_cons (eqAt_alike x y A s _ _ _ _ r r' al (by omega) prog w _ _ ?_)
        rcases nx with ne | on
        · rw [ne]
          rw [dataLt_all_no al ne] at hq
          exact kat_no (oneLt_alike (fun _ t z => by rw [z] at hx; exact absurd hx.1 Bool.false_ne_true) r r' al (ne_none_of al ne) (by omega) hq)
        · cases e : PyData.eqv x y with
          | true =>
            rw [dataLt_all_yes al e] at hq
            refine kat_yes (lex_cmb xs ys (i + 1) _ _ _ _ hx.2 rs rs' on hu ?_ hq)
            rw [hf]
            simp only [List.length_cons, Nat.add_lt_add_iff_right]
          | false =>
            rw [dataLt_all_no al e] at hq
            exact kat_no (oneLt_alike (fun _ t z => by rw [z] at hx; exact absurd hx.1 Bool.false_ne_true) r r' al (ne_none_of al e) (by omega) hq)
/-- a row of such keys, each begins with a number -/
structure KeysOk (kz : List (List PyData)) : Prop where
  atoms : ∀ k ∈ kz, k.all atom = true
  heads : ∀ k ∈ kz, ∃ i r, k = .int i :: r
  cmbs : ∀ k ∈ kz, ∀ l ∈ kz, cmb k l = true
abbrev kdat (kz : List (List PyData)) : List PyData := kz.map PyData.tuple
theorem kind_one {kz : List (List PyData)} (O : KeysOk kz) {v : Value} {k : List PyData} {as : List Addr} (hk : k ∈ kz) (r : Reads s.heap v (.tuple k) as) : (dataKind s.heap (kdat kz)).keyOf v = some (keyToks (.tuple k)) := by
  have q : ∃ d, d ∈ kdat kz ∧ ∃ as, Reads s.heap v d as := ⟨_, List.mem_map.mpr ⟨k, hk, rfl⟩, as, r⟩
  have e : (dataKind s.heap (kdat kz)).keyOf v = some (keyToks q.choose) := by
    unfold dataKind
    exact dif_pos q
  obtain ⟨h1, as', h2⟩ := q.choose_spec
  obtain ⟨l, hl, el⟩ := List.mem_map.mp h1
  rw [e]
  generalize q.choose = d at h2 el
  subst el
  rw [reads_keys (O.atoms l hl) (O.atoms k hk) h2 r]
theorem kind_back {kz : List (List PyData)} {v : Value} {t : List (Int ⊕ List Nat)} (e : (dataKind s.heap (kdat kz)).keyOf v = some t) : ∃ k ∈ kz, ∃ as, Reads s.heap v (.tuple k) as ∧ t = keyToks (.tuple k) := by
  obtain ⟨d, as, hd, r, rfl⟩ := dataKind_inv e
  obtain ⟨k, hk, rfl⟩ := List.mem_map.mp hd
  exact ⟨k, hk, as, r, rfl⟩
theorem sorts_at {vs : List Value} {kz : List (List PyData)} (O : KeysOk kz) (e : EachIs (fun v k => ∃ as, Reads s.heap v (.tuple k) as) vs kz) (hu : A.units + 1 < cLine) : SortsAt prog w A s (dataKind s.heap (kdat kz)) vs := by
  refine ⟨fun v hv => ?_, tuples' true, ?_, fun h2 E Q hq => ?_⟩
  · obtain ⟨k, hk, as, r⟩ := e.left v hv
    exact ⟨_, kind_one O hk r⟩
  · intro E x y a b Q ha hb hq
    obtain ⟨k, hk, as, ra, rfl⟩ := kind_back ha
    obtain ⟨l, hl, bs, rb, rfl⟩ := kind_back hb
    have hq' : Q (dataLt (.tuple k) (.tuple l)) s := hq
    rw [dataLt_tuple] at hq'
    cases ra with
    | @tuple p o xs n _ _ h1 h2 h3 h4 =>
      cases rb with
      | @tuple p' o' xs' n' _ _ k1 k2 k3 k4 =>
        have n1 : xs.size = k.length := by simpa using SeqAt.ReadsAll.length _ _ _ h4
        have n2 : xs'.size = l.length := by simpa using SeqAt.ReadsAll.length _ _ _ k4
        exact kat_lt h1 h3 k1 k3 (lex_cmb k l 0 _ _ _ _ (O.atoms k hk) h4 k4 (O.cmbs k hk l hl) hu (by rw [n1, n2]) hq')
  · have t : ∃ fs, KatTups s.heap vs fs ∧ fs.length = vs.length ∧ ∀ f ∈ fs, ∃ i t, f = Value.int i t := by
      clear h2 hq
      induction e with
      | nil => exact ⟨[], .nil, rfl, fun f hf => nomatch hf⟩
      | @cons v k vs kz h1 _ ih =>
        obtain ⟨fs, a1, a2, a3⟩ := ih ⟨fun q hq => O.atoms q (List.mem_cons_of_mem _ hq), fun q hq => O.heads q (List.mem_cons_of_mem _ hq), fun q hq l hl => O.cmbs q (List.mem_cons_of_mem _ hq) l (List.mem_cons_of_mem _ hl)⟩
        obtain ⟨i, r, rfl⟩ := O.heads k List.mem_cons_self
        obtain ⟨as, rd⟩ := h1
        cases rd with
        | @tuple p o xs n _ _ h1 h2 h3 h4 =>
          generalize ex : xs.toList = us at h4
          cases h4 with
          | @cons f us d ds as1 as2 r1 r2 =>
            cases r1
            exact ⟨_, .cons h1 h2 h3 (by rw [← Array.getElem?_toList, ex]; rfl) a1, by rw [List.length_cons, List.length_cons, a2], fun g hg => by
              rcases List.mem_cons.mp hg with rfl | hg
              · exact ⟨_, _, rfl⟩
              · exact a3 g hg⟩
    obtain ⟨fs, t1, t2, t3⟩ := t
    refine kat_kind (T := .type "int") t1 (by omega) (fun f hf => ?_) (beq_self_eq_true _) (show Q (tuples' (Value.type "int" != Value.type "tuple")) s from ?_)
    · obtain ⟨i, t, rfl⟩ := t3 f hf
      exact Looks.of_pure rfl
    · exact hq
end
/-! ### the order of promises -/
def ltO : Option Int → Option Int → Bool
  | none, none => false
  | none, some _ => true
  | some _, none => false
  | some i, some j => decide (i < j)
def ltV : Vow → Vow → Bool
  | .quick a b, .quick c d => if a = c then decide (b.cps.toList < d.cps.toList) else decide (a.cps.toList < c.cps.toList)
  | .quick .., .lead .. => false
  | .lead .., .quick .. => true
  | .lead r lo hi, .lead q lo' hi' => if r = q then (if lo = lo' then ltO hi hi' else ltO lo lo') else decide (r.cps.toList < q.cps.toList)
theorem ltV_q (a b c d : Str) : ltV (.quick a b) (.quick c d) = if a = c then decide (b.cps.toList < d.cps.toList) else decide (a.cps.toList < c.cps.toList) := rfl
theorem ltV_l (r q : Str) (lo hi lo' hi' : Option Int) : ltV (.lead r lo hi) (.lead q lo' hi') = if r = q then (if lo = lo' then ltO hi hi' else ltO lo lo') else decide (r.cps.toList < q.cps.toList) := rfl
theorem ltO_irr (a : Option Int) : ltO a a = false := by cases a <;> simp [ltO]
theorem nil_nil : PyProof.Rows.lexLt itemOrd (PySem.W.keyToksAll []) (PySem.W.keyToksAll []) = false := lex_irrefl _
/-- the first place of a row by which two such rows are parted -/
theorem row_cons {x y : PyData} (h : PySem.W.alike x y = true) (xs ys : List PyData) : PySem.W.rowLt (x :: xs) (y :: ys) = if PyData.eqv x y = true then PySem.W.rowLt xs ys else PySem.W.dataLt x y := PySem.W.dataLt_cons h xs ys
theorem row_str (a b : Str) (xs ys : List PyData) : PySem.W.rowLt (.str a :: xs) (.str b :: ys) = if a = b then PySem.W.rowLt xs ys else decide (a.cps.toList < b.cps.toList) := by
  rw [row_cons (by simp [PySem.W.alike]), PySem.W.dataLt_str]
  simp only [PyData.eqv, beq_iff_eq]
theorem row_int (a b : Int) (xs ys : List PyData) : PySem.W.rowLt (.int a :: xs) (.int b :: ys) = if a = b then PySem.W.rowLt xs ys else decide (a < b) := by
  rw [row_cons (by simp [PySem.W.alike]), PySem.W.dataLt_int]
  simp only [PyData.eqv, beq_iff_eq]
theorem row_nil : PySem.W.rowLt [] [] = false := lex_irrefl _
theorem row_bnd (a b : Option Int) (xs ys : List PyData) : PySem.W.rowLt (bnd a ++ xs) (bnd b ++ ys) = if a = b then PySem.W.rowLt xs ys else ltO a b := by
  cases a with
  | none =>
    cases b with
    | none => simp [bnd, row_int]
    | some j => simp [bnd, row_int, ltO]
  | some i =>
    cases b with
    | none => simp [bnd, row_int, ltO]
    | some j => simp [bnd, row_int, ltO]
theorem lt_pkey (v w : Vow) : PySem.W.dataLt (pkey v) (pkey w) = ltV v w := by
  rw [pkey_eq, pkey_eq, PySem.W.dataLt_tuple]
  show PySem.W.rowLt (pkL v) (pkL w) = _
  cases v with
  | quick a b =>
    cases w with
    | quick c d =>
      simp only [pkL, row_int, row_str, row_nil, ltV, if_true]
      split
      · split
        · next h => rw [h]; simp
        · rfl
      · rfl
    | lead r lo hi =>
      show PySem.W.rowLt (.int 1 :: _) (.int 0 :: _) = _
      rw [row_int]
      rfl
  | lead r lo hi =>
    cases w with
    | quick c d =>
      show PySem.W.rowLt (.int 0 :: _) (.int 1 :: _) = _
      rw [row_int]
      rfl
    | lead q lo' hi' =>
      have e : ∀ r (lo hi : Option Int), pkL (.lead r lo hi) = .int 0 :: .str r :: (bnd lo ++ (bnd hi ++ [])) := fun r lo hi => by simp [pkL]
      rw [e, e, row_int, if_pos rfl, row_str, row_bnd, row_bnd, row_nil]
      show _ = if r = q then (if lo = lo' then ltO hi hi' else ltO lo lo') else decide (r.cps.toList < q.cps.toList)
      split
      · split
        · split
          · next h => rw [h, ltO_irr]
          · rfl
        · rfl
      · rfl
/-! ### the key of a promise that the law makes -/
def oLst : Option Int → PyData
  | none => .list []
  | some i => .list [.int i]
def lkL : Vow → List PyData
  | .quick a b => [.int 1, .str a, .str b]
  | .lead r lo hi => [.int 0, .str r, oLst lo, oLst hi]
theorem oLst_alike (a b : Option Int) : PySem.W.alike (oLst a) (oLst b) = true := by cases a <;> cases b <;> simp [oLst, PySem.W.alike, PySem.W.alikeAll]
theorem row_oLst (a b : Option Int) (xs ys : List PyData) : PySem.W.rowLt (oLst a :: xs) (oLst b :: ys) = if a = b then PySem.W.rowLt xs ys else ltO a b := by
  rw [row_cons (oLst_alike a b)]
  cases a with
  | none =>
    cases b with
    | none => simp [oLst, PyData.eqv, PyData.eqvAll]
    | some j =>
      have e : PySem.W.dataLt (.list []) (.list [.int j]) = true := by
        rw [PySem.W.dataLt_list, PySem.W.toks_all_cons, PySem.W.keyToksAll, lex_diff (O := itemOrd) (by simp)]
        rfl
      simp [oLst, PyData.eqv, PyData.eqvAll, ltO, e]
  | some i =>
    cases b with
    | none =>
      have e : PySem.W.dataLt (.list [.int i]) (.list []) = false := by
        rw [PySem.W.dataLt_list, PySem.W.toks_all_cons, PySem.W.keyToksAll, lex_diff (O := itemOrd) (by simp)]
        rfl
      simp [oLst, PyData.eqv, PyData.eqvAll, ltO, e]
    | some j =>
      have e : PySem.W.dataLt (.list [.int i]) (.list [.int j]) = decide (i < j) := by
        rw [PySem.W.dataLt_list]
        show PySem.W.rowLt [.int i] [.int j] = _
        rw [row_int, row_nil]
        split
        · next h => rw [h]; simp
        · rfl
      simp [oLst, PyData.eqv, PyData.eqvAll, ltO, e]
theorem lt_lkey_quick (a b c d : Str) : PySem.W.dataLt (.list (lkL (.quick a b))) (.list (lkL (.quick c d))) = ltV (.quick a b) (.quick c d) := by
  rw [PySem.W.dataLt_list]
  show PySem.W.rowLt _ _ = _
  simp only [lkL, row_int, row_str, row_nil, ltV, if_true]
  split
  · split
    · next h => rw [h]; simp
    · rfl
  · rfl
theorem lt_lkey_lead (r q : Str) (lo hi lo' hi' : Option Int) : PySem.W.dataLt (.list (lkL (.lead r lo hi))) (.list (lkL (.lead q lo' hi'))) = ltV (.lead r lo hi) (.lead q lo' hi') := by
  rw [PySem.W.dataLt_list]
  show PySem.W.rowLt (.int 0 :: .str r :: oLst lo :: oLst hi :: []) (.int 0 :: .str q :: oLst lo' :: oLst hi' :: []) = if r = q then (if lo = lo' then ltO hi hi' else ltO lo lo') else decide (r.cps.toList < q.cps.toList)
  rw [row_int, if_pos rfl, row_str, row_oLst, row_oLst, row_nil]
  split
  · split
    · split
      · next h => rw [h, ltO_irr]
      · rfl
    · rfl
  · rfl
/-! ### an order that parts all -/
structure Ord {α : Type} (lt : α → α → Bool) : Prop where
  tot : ∀ a b, lt a b = false → lt b a = false → a = b
  asym : ∀ a b, lt b a = true → lt a b = false
  trans : ∀ a b c, lt b a = false → lt c b = false → lt c a = false
theorem ordR : Ord ltR := ⟨ltR_total, fun _ _ => ltR_asymm, fun _ _ _ => ltR_trans⟩
theorem ltO_tot : ∀ {a b : Option Int}, ltO a b = false → ltO b a = false → a = b
  | none, none, _, _ => rfl
  | some i, some j, h1, h2 => by
    have := of_decide_eq_false h1
    have := of_decide_eq_false h2
    rw [show i = j by omega]
  | none, some _, h, _ => by cases h
  | some _, none, _, h => by cases h
theorem ltO_asym : ∀ {a b : Option Int}, ltO b a = true → ltO a b = false
  | none, none, h => by cases h
  | some i, some j, h => decide_eq_false (by have := of_decide_eq_true h; omega)
  | none, some _, h => by cases h
  | some _, none, _ => rfl
theorem ltO_trans : ∀ {a b c : Option Int}, ltO b a = false → ltO c b = false → ltO c a = false
  | none, none, none, _, _ => rfl
  | none, none, some _, _, _ => rfl
  | none, some _, some _, _, _ => rfl
  | none, some _, none, _, h => by cases h
  | some _, none, _, h, _ => by cases h
  | some _, some _, none, _, h => by cases h
  | some i, some j, some k, h1, h2 => decide_eq_false (by
    have := of_decide_eq_false h1
    have := of_decide_eq_false h2
    omega)
theorem str_tot {a b : Str} (h1 : ¬ a.cps.toList < b.cps.toList) (h2 : ¬ b.cps.toList < a.cps.toList) : a = b := PySem.W.str_of_cps (List.le_antisymm (List.not_lt.mp h2) (List.not_lt.mp h1))
theorem ltV_tot : ∀ {v w : Vow}, ltV v w = false → ltV w v = false → v = w
  | .quick a b, .quick c d, h1, h2 => by
    rw [ltV_q] at h1 h2
    by_cases e : a = c
    · rw [if_pos e] at h1
      rw [if_pos e.symm] at h2
      rw [e, str_tot (of_decide_eq_false h1) (of_decide_eq_false h2)]
    · rw [if_neg e] at h1
      rw [if_neg fun z => e z.symm] at h2
      exact absurd (str_tot (of_decide_eq_false h1) (of_decide_eq_false h2)) e
  | .quick .., .lead .., _, h => by cases h
  | .lead .., .quick .., h, _ => by cases h
  | .lead r lo hi, .lead q lo' hi', h1, h2 => by
    rw [ltV_l] at h1 h2
    by_cases e : r = q
    · rw [if_pos e] at h1
      rw [if_pos e.symm] at h2
      by_cases e2 : lo = lo'
      · rw [if_pos e2] at h1
        rw [if_pos e2.symm] at h2
        rw [e, e2, ltO_tot h1 h2]
      · rw [if_neg e2] at h1
        rw [if_neg fun z => e2 z.symm] at h2
        exact absurd (ltO_tot h1 h2) e2
    · rw [if_neg e] at h1
      rw [if_neg fun z => e z.symm] at h2
      exact absurd (str_tot (of_decide_eq_false h1) (of_decide_eq_false h2)) e
theorem ltV_asym : ∀ {v w : Vow}, ltV w v = true → ltV v w = false
  | .quick a b, .quick c d, h => by
    rw [ltV_q] at h ⊢
    by_cases e : a = c
    · rw [if_pos e.symm] at h
      rw [if_pos e]
      exact decide_eq_false fun z => List.lt_irrefl _ (List.lt_trans (of_decide_eq_true h) z)
    · rw [if_neg fun z => e z.symm] at h
      rw [if_neg e]
      exact decide_eq_false fun z => List.lt_irrefl _ (List.lt_trans (of_decide_eq_true h) z)
  | .quick .., .lead .., _ => rfl
  | .lead .., .quick .., h => by cases h
  | .lead r lo hi, .lead q lo' hi', h => by
    rw [ltV_l] at h ⊢
    by_cases e : r = q
    · rw [if_pos e.symm] at h
      rw [if_pos e]
      by_cases e2 : lo = lo'
      · rw [if_pos e2.symm] at h
        rw [if_pos e2]
        exact ltO_asym h
      · rw [if_neg fun z => e2 z.symm] at h
        rw [if_neg e2]
        exact ltO_asym h
    · rw [if_neg fun z => e z.symm] at h
      rw [if_neg e]
      exact decide_eq_false fun z => List.lt_irrefl _ (List.lt_trans (of_decide_eq_true h) z)
/-- two places of an order one behind the other -/
theorem lex_trans {α : Type} {f : α → α → Bool} {e12 e23 : Prop} [Decidable e12] [Decidable e23] {x y z : α} {p q r : Bool} (eq : (e12 ↔ y = x) ∧ (e23 ↔ z = y)) [DecidableEq α] (T : ∀ a b c, f b a = false → f c b = false → f c a = false) (A : ∀ a b, f a b = false → f b a = false → a = b)
    (h1 : (if y = x then p else f y x) = false) (h2 : (if z = y then q else f z y) = false) (k : y = x → z = y → p = false → q = false → r = false) : (if z = x then r else f z x) = false := by
  by_cases e1 : y = x
  · by_cases e2 : z = y
    · rw [if_pos e1] at h1
      rw [if_pos e2] at h2
      rw [if_pos (e2.trans e1)]
      exact k e1 e2 h1 h2
    · rw [if_neg e2] at h2
      rw [if_neg (fun w => e2 (w.trans e1.symm)), ← e1]
      exact h2
  · rw [if_neg e1] at h1
    by_cases e2 : z = y
    · rw [if_neg (fun w => e1 (e2.symm.trans w)), e2]
      exact h1
    · rw [if_neg e2] at h2
      have h3 := T x y z h1 h2
      by_cases e3 : z = x
      · subst e3
        exact absurd (A _ _ h1 h2) e1
      · rw [if_neg e3]
        exact h3
def sLt (a b : Str) : Bool := decide (a.cps.toList < b.cps.toList)
theorem sLt_trans (a b c : Str) (h1 : sLt b a = false) (h2 : sLt c b = false) : sLt c a = false := decide_eq_false (List.not_lt.mpr (List.le_trans (List.not_lt.mp (of_decide_eq_false h1)) (List.not_lt.mp (of_decide_eq_false h2))))
theorem sLt_tot (a b : Str) (h1 : sLt a b = false) (h2 : sLt b a = false) : a = b := str_tot (of_decide_eq_false h1) (of_decide_eq_false h2)
theorem ltV_trans : ∀ {u v w : Vow}, ltV v u = false → ltV w v = false → ltV w u = false
  | .quick a b, .quick c d, .quick e f, h1, h2 => lex_trans (f := sLt) (e12 := c = a) (e23 := e = c) ⟨Iff.rfl, Iff.rfl⟩ sLt_trans sLt_tot h1 h2 fun _ _ p q => sLt_trans b d f p q
  | .quick .., .lead .., _, h, _ => by cases h
  | .quick .., .quick .., .lead .., _, h => by cases h
  | .lead .., .quick .., .lead .., _, h => by cases h
  | .lead .., .quick .., .quick .., _, _ => rfl
  | .lead .., .lead .., .quick .., _, _ => rfl
  | .lead r lo hi, .lead q lo' hi', .lead t l2 h2', h1, h2 => lex_trans (f := sLt) (e12 := q = r) (e23 := t = q) ⟨Iff.rfl, Iff.rfl⟩ sLt_trans sLt_tot h1 h2 fun _ _ p q2 =>
    lex_trans (f := ltO) (e12 := lo' = lo) (e23 := l2 = lo') ⟨Iff.rfl, Iff.rfl⟩ (fun _ _ _ => ltO_trans) (fun _ _ => ltO_tot) p q2 fun _ _ a b => ltO_trans a b
theorem ordV : Ord ltV := ⟨fun _ _ => ltV_tot, fun _ _ => ltV_asym, fun _ _ _ => ltV_trans⟩
/-- rising lists without doubles, of the same members, are the same -/
theorem Ord.one {α : Type} {lt : α → α → Bool} (O : Ord lt) : ∀ {ys zs : List α}, ys.Pairwise (fun a b => lt b a = false) → ys.Nodup → zs.Pairwise (fun a b => lt b a = false) → zs.Nodup → (∀ x, x ∈ ys ↔ x ∈ zs) → ys = zs
  | [], [], _, _, _, _, _ => rfl
  | [], z :: zs, _, _, _, _, h => nomatch (h z).mpr List.mem_cons_self
  | y :: ys, [], _, _, _, _, h => nomatch (h y).mp List.mem_cons_self
  | y :: ys, z :: zs, p1, n1, p2, n2, h => by
    obtain ⟨a1, a2⟩ := List.pairwise_cons.mp p1
    obtain ⟨b1, b2⟩ := List.pairwise_cons.mp p2
    obtain ⟨m1, m2⟩ := List.nodup_cons.mp n1
    obtain ⟨k1, k2⟩ := List.nodup_cons.mp n2
    have e : y = z := by
      rcases List.mem_cons.mp ((h y).mp List.mem_cons_self) with e | hy
      · exact e
      · rcases List.mem_cons.mp ((h z).mpr List.mem_cons_self) with e | hz
        · exact e.symm
        · exact O.tot _ _ (b1 y hy) (a1 z hz)
    subst e
    rw [O.one a2 m2 b2 k2 fun x => ⟨fun hx => ((List.mem_cons.mp ((h x).mp (List.mem_cons_of_mem _ hx))).resolve_left fun e => m1 (e ▸ hx)), fun hx => ((List.mem_cons.mp ((h x).mpr (List.mem_cons_of_mem _ hx))).resolve_left fun e => k1 (e ▸ hx))⟩]
end BK
end
section
set_option maxHeartbeats 2000000
/-! sorted(a dict of promises, key=a def) -/
namespace BK
open PySem PySem.Spec PyProof.Rows L2 ZS Evl
/-- an object that nobody told of is told of from here on -/
theorem track {X : Cx} {pins : List (Addr × Obj)} {σ : L2.St} {H : Hp} {s : Shared} {a : Addr} {o : HO} (I : L2.Inv X pins σ H s) (n : H a = none) (f1 : a ≠ X.env.locals) (f3 : a ∈ X.ex ∨ X.s_0.heap.objs.size ≤ a) (f4 : ∀ x c, X.env.cells.lookup x = some c → c ≠ a) (f5 : ∀ p ∈ X.pn ++ pins, p.1 ≠ a)
    (new : ObjOk X.prog X.w (upd H a o) s.heap a o) : L2.Inv X pins σ (upd H a o) s := by
  have off : ∀ {b : Addr} {u : HO}, H b = some u → upd H a o b = some u := fun e => by rw [upd_ne (ne_of_none e n)]; exact e
  refine ⟨I.ok, I.os, I.bare, ⟨I.base.keep, I.base.slot, fun b ob e q hx => ?_, I.base.there, fun b xs q => off (I.base.tups b xs q), fun b ob u q => off (I.base.frzs b ob u q), fun b ps q => ?_⟩, I.loc, I.cell, ?_, fun x c e => ?_, fun p hp => ?_, fun b u e => ?_, I.len⟩
  · have z := I.base.free b ob e q hx
    by_cases hb : b = a
    · subst hb
      rcases f3 with k | k
      · exact absurd k hx
      · exact absurd (Heap.lt_size e) (Nat.not_lt.mpr k)
    · rw [upd_ne hb]; exact z
  · obtain ⟨more, z⟩ := I.base.tbls b ps q
    exact ⟨more, off z⟩
  · rw [upd_ne (fun z => f1 z.symm)]; exact I.free
  · rw [upd_ne (f4 x c e)]; exact I.freeC x c e
  · obtain ⟨p1, p2, p3⟩ := I.pin p hp
    exact ⟨p1, by rw [upd_ne (f5 p hp)]; exact p2, p3⟩
  · by_cases hb : b = a
    · subst hb; rw [upd_same] at e; cases e; exact new
    · rw [upd_ne hb] at e
      exact (I.hok b u e).stay (fun _ _ _ q => q) (fun c q => off q) fun c xs q => off q
/-- the promises that stand at the addresses of L -/
def VwsAt (H : Hp) (K : PySem.W.Frag) (L : List (Vow × Addr)) : Prop := ∀ p ∈ L, SqT K H p.2 (vwV p.1)
def sp_place (K : PySem.W.Frag) : Sp := fun vs H Q _ => ∃ (p : Addr) (v : Vow), vs = [.ref p] ∧ SqT K H p (vwV v) ∧ OW.RetQ (pkey v) H Q
def rSortV (K : PySem.W.Frag) (P : Program) (w : World) (f : Addr) : List V → List V → Hp → VK → Prop := fun vs zs H Q => ∃ (D : Addr) (L : List (Vow × Addr)), vs = [V.ref D] ∧ zs = [V.ref f] ∧ H D = some (DctV P w D L) ∧ (D == sysModules) = false ∧ VwsAt H K L ∧ L.length ≤ 1000 ∧
  ∀ (ps : List (Vow × Addr)) (l : Addr) (H' : Hp), Ex H H' → H' l = none → ps.Perm L → (ps.map (·.1)).Pairwise (fun a b => ltV b a = false) → Q (.ref l) (upd H' l (.lst (ps.map fun q => V.ref q.2)))
theorem keys_ok (vs : List Vow) : KeysOk (vs.map pkL) where
  atoms := fun k hk => by
    obtain ⟨v, _, rfl⟩ := List.mem_map.mp hk
    cases v with
    | quick a b => rfl
    | lead r lo hi => cases lo <;> cases hi <;> rfl
  heads := fun k hk => by
    obtain ⟨v, _, rfl⟩ := List.mem_map.mp hk
    cases v with
    | quick a b => exact ⟨_, _, rfl⟩
    | lead r lo hi => exact ⟨_, _, rfl⟩
  cmbs := fun k hk l hl => by
    obtain ⟨v, _, rfl⟩ := List.mem_map.mp hk
    obtain ⟨w, _, rfl⟩ := List.mem_map.mp hl
    cases v with
    | quick a b =>
      cases w with
      | quick c d => simp [pkL, cmb, PySem.W.alike]
      | lead r lo hi => simp [pkL, cmb, PySem.W.alike, PyData.eqv]
    | lead r lo hi =>
      cases w with
      | quick c d => simp [pkL, cmb, PySem.W.alike, PyData.eqv]
      | lead q lo' hi' => cases lo <;> cases hi <;> cases lo' <;> cases hi' <;> simp [pkL, bnd, cmb, PySem.W.alike]
section
variable {X : Cx} {CX : CXT} {k : Nat} {f : Addr} {fd : FuncData} {ps : List Str}
/-- what stands while the keys are made: a the list that is sorted (empty meanwhile), kS the keys so far -/
structure Mid (X : Cx) (pins : List (Addr × Obj)) (σ : L2.St) (H : Hp) (a kS : Addr) (e1 : Nat) (L : List (Vow × Addr)) (i : Nat) (s' : Shared) : Prop where
  is_ : ∃ H' kA ec ys, L2.Inv X pins σ H' s' ∧ Ex H H' ∧ H' a = none ∧ H' kS = none ∧ s'.heap.get? a = some (seqObj "list" #[] e1) ∧ s'.heap.get? kS = some (seqObj "list" kA ec) ∧ Vals ys kA.toList ∧ OW.DqAll H' ys ((L.take i).map fun p => pkey p.1)
theorem turn_key {pins : List (Addr × Obj)} {σ : L2.St} {H : Hp} {s' : Shared} {a kS : Addr} {e1 i : Nat} {L : List (Vow × Addr)} {p : Vow × Addr} {Q : Value → Shared → Prop} {E : Value → Shared → Prop}
    (FF : FnOk X.prog X.w X.K X.mg X.base CX0 k f fd ps (sp_place X.K)) (hb : Binds X.K fd ps []) (hr : Room (k + 2) X.A) (V : VwsAt H X.K L) (hp : L[i]? = some p) (M : Mid X pins σ H a kS e1 L i s')
    (fa : ∀ b, b = a ∨ b = kS → b ≠ X.env.locals ∧ b ∉ X.fs ∧ (b ∈ X.ex ∨ X.s_0.heap.objs.size ≤ b) ∧ (∀ x c, X.env.cells.lookup x = some c → c ≠ b) ∧ ∀ p ∈ X.pn ++ pins, p.1 ≠ b)
    (q : ∀ u s2, (∃ H' kA ec ys y, L2.Inv X pins σ H' s2 ∧ Ex H H' ∧ H' a = none ∧ H' kS = none ∧ s2.heap.get? a = some (seqObj "list" #[] e1) ∧ s2.heap.get? kS = some (seqObj "list" kA ec) ∧ Vals ys kA.toList ∧ OW.DqAll H' ys ((L.take i).map fun p => pkey p.1) ∧ RelV y u ∧ OW.Dq H' y (pkey p.1)) → Q u s2) :
    wpAny (model X.prog X.w) X.A.in1.in1 (call (.ref f) [.ref p.2]) Q E s' := by
  obtain ⟨H', kA, ec, ys, I, ex, na, nk, ha, hk, rv, dq⟩ := M.is_
  have st : ∀ b ∈ [a, kS], FpOk X pins H' b := fun b hb => by
    rcases List.mem_cons.mp hb with rfl | hb
    · exact ⟨na, fa _ (.inl rfl)⟩
    · rw [List.mem_singleton.mp hb]; exact ⟨nk, fa _ (.inr rfl)⟩
  have ob : ∀ b ∈ [a, kS], ∃ o, s'.heap.get? b = some o ∧ ∀ v, o.data ≠ .cell v := fun b hb => by
    rcases List.mem_cons.mp hb with rfl | hb
    · exact ⟨_, ha, fun v z => nomatch z⟩
    · rw [List.mem_singleton.mp hb]; exact ⟨_, hk, fun v z => nomatch z⟩
  have Ip := I.pinned st ob
  have sp : sp_place X.K [.ref p.2] H' (fun y H2 => Ex H' H2 ∧ OW.Dq H2 y (pkey p.1)) E0 := ⟨p.2, p.1, rfl, ex_t ex (V p (List.mem_of_getElem? hp)), fun v H2 e d => ⟨e, d⟩⟩
  have hl : ([Value.ref p.2] ++ []).length = ps.length := by
    rw [← FF.len _ _ _ _ sp] <;> rfl
  refine wpAny_call (codeAny_mono (FF.run X.A.in1.in1 X.stack s' H' ⟨[.ref p.2], []⟩ [.ref p.2] [.ref p.2] _ E0 hr.in1.in1 Ip.env0.in1.in1 (hb _ [.ref p.2] Ip.kIn hl) (.cons rfl .nil) sp) fun r s2 hq => ?_)
  cases r with
  | error er => exact (show False from hq).elim
  | ok fl =>
    cases fl with
    | ret u =>
      obtain ⟨y, H2, I2, ry, e2, d2⟩ := Ip.after hq
      have pa := I2.pin (a, _) (List.mem_append_right _ (List.mem_append_right _ (mem_pinsAt (fp := [a, kS]) (by simp) ha)))
      have pk := I2.pin (kS, _) (List.mem_append_right _ (List.mem_append_right _ (mem_pinsAt (fp := [a, kS]) (by simp) hk)))
      exact q u s2 ⟨H2, kA, ec, ys, y, I2.unpinned, ex.trans e2, pa.2.1, pk.2.1, pa.1, pk.1, rv, dq.mono e2, ry, d2⟩
    | next => exact False.elim hq
    | brk => exact False.elim hq
    | cont => exact False.elim hq
theorem gone (h : Heap) (b : Addr) : ∃ g : Heap, g.get? b = none ∧ ∀ c, c ≠ b → g.get? c = h.get? c := by
  refine ⟨h.update b fun _ => { cls := .none, data := .freed }, ?_, fun c hc => Heap.get?_update_other _ _ (Ne.symm hc)⟩
  obtain ⟨objs, l⟩ := h
  show Heap.get? ⟨objs.modify b _, l⟩ b = none
  unfold Heap.get?
  simp only [Array.getElem?_modify, if_true]
  cases objs[b]? <;> rfl
theorem each_own : ∀ L : List (Vow × Addr), PySem.W.EachIs (fun v (b : Vow × Addr) => v = Value.ref b.2 ∧ True) (L.map fun p => Value.ref p.2) L
  | [] => .nil
  | _ :: L => .cons ⟨rfl, trivial⟩ (each_own L)
theorem each_keys {X : Cx} {pins : List (Addr × Obj)} {σ : L2.St} {H : Hp} {s : Shared} (I : L2.Inv X pins σ H s) : ∀ {L : List (Vow × Addr)} {ys : List V} {us : List Value}, Vals ys us → OW.DqAll H ys (L.map fun p => pkey p.1) → PySem.W.EachIs (fun v k => ∃ as, Reads s.heap v (.tuple k) as) us (L.map fun p => pkL p.1)
  | [], _, _, r, d => by
    cases d
    cases r
    exact .nil
  | p :: L, _, _, r, d => by
    cases d with
    | cons d1 d2 =>
      cases r with
      | cons r1 r2 =>
        have d1 : OW.Dq H _ (pkey p.1) := d1
        rw [pkey_eq] at d1
        exact .cons (OW.Dq.reads I _ _ _ d1 r1) (each_keys I r2 d2)
theorem srt_V (L : List (Vow × Addr)) : ((L.mergeSort (PySem.W.dataLe false fun b : Vow × Addr => pkey b.1)).map (·.1)).Pairwise (fun a b => ltV b a = false) := by
  rw [List.pairwise_map]
  have le : (PySem.W.dataLe false fun b : Vow × Addr => pkey b.1) = fun a b : Vow × Addr => !ltV b.1 a.1 := by
    funext a b
    show (!PySem.W.dataLt (pkey b.1) (pkey a.1)) = _
    rw [lt_pkey]
  rw [le]
  refine (List.pairwise_mergeSort (fun a b c h1 h2 => ?_) (fun a b => ?_) L).imp fun h => by simpa using h
  · simp only [Bool.not_eq_true'] at h1 h2 ⊢
    exact ltV_trans h1 h2
  · simp only [Bool.or_eq_true, Bool.not_eq_true']
    cases h1 : ltV b.1 a.1
    · exact .inl rfl
    · exact .inr (ltV_asym h1)
theorem call_sortV (FF : FnOk X.prog X.w X.K X.mg X.base CX0 k f fd ps (sp_place X.K)) (hb : Binds X.K fd ps []) (hr : Room (k + 2) X.A) (hc : X.calm = true) : CallRK X (.builtin "sorted") [Str.ofString "key"] (rSortV X.K X.prog X.w f) := by
  intro pins s σ H vs zs us ws Q I r rz h
  obtain ⟨D, L, rfl, rfl, hD, hsys, V, few, q⟩ := h
  obtain rfl := Vals.ref1 r
  obtain ⟨w1, rfl, ew⟩ := vals1 rz
  obtain rfl : w1 = Value.ref f := ew
  obtain ⟨o, es, ep, ho, hx, hdat, he⟩ := (I.hok D _ hD).1
  have hh : X.A.handled = none := I.ok.hd hc
  have esz : es.size = L.length := by rw [← Array.length_toList, he, List.length_map, List.length_map]
  have hu := hr.units
  refine PyProof.Rows.call_function_entry_kw kind_sorted plain_sorted entry_sorted (ksk_s1 _ _) ?_
  unfold Builtin.«sorted»
  refine wpAny_bind (m := checkCount "sorted" 1 1 _) (wpAny_pure ?_)
  refine wpAny_bind (PySem.W.kdu_collect (A := X.A.in1) (n := es.size) (PySem.KdlSrc.rawDict (es := es) (ep := ep) hsys) hh ⟨o, ho, hx, hdat⟩ (by rw [esz, sizeLine_eq]; omega) fun h1 t1 acc k1 it => ?_)
  have evs : acc.toList = L.map fun p => Value.ref p.2 := by
    refine List.ext_getElem? fun j => ?_
    rw [List.getElem?_map]
    by_cases hj : j < L.length
    · have h2 : j < acc.size := by rw [it.1, esz]; exact hj
      have h3 := it.2 j acc[j] (Array.getElem?_eq_getElem h2)
      obtain ⟨hi, e3⟩ := h3
      rw [Array.getElem?_toList, Array.getElem?_eq_getElem h2, List.getElem?_eq_getElem hj, e3]
      have e4 : es[j]? = some (entryOfKey (kndV X.prog X.w) (entV L[j])) := by
        rw [← Array.getElem?_toList, he, List.getElem?_map, List.getElem?_map, List.getElem?_eq_getElem hj]
        rfl
      rw [Array.getElem?_eq_getElem hi] at e4
      rw [Option.some.inj e4]
      rfl
    · rw [List.getElem?_eq_none (by rw [Array.length_toList, it.1, esz]; omega), List.getElem?_eq_none (by omega)]
      rfl
  generalize acc.toList = us at evs
  have lus : us.length = L.length := by rw [evs, List.length_map]
  have sz : us.length ≤ sizeLine := by rw [lus, sizeLine_eq]; omega
  refine wpAny_bind (wpAny_newList ?_ sz)
  have I1 := I.kept (t' := t1) k1
  generalize ha : h1.objs.size = a
  have nA : H a = none := I1.hok.fresh (Nat.le_of_eq ha)
  have fA := I1.fpOk (b := a) (Nat.le_of_eq ha) nA
  have new : (h1.push (seqObj "list" us.toArray 0)).get? a = some (seqObj "list" us.toArray 0) := by rw [← ha]; exact Heap.get?_push_size _ rfl
  have szA : (h1.push (seqObj "list" us.toArray 0)).objs.size = a + 1 := by rw [Heap.size_push, ha]
  have k2 : ∀ b o, h1.get? b = some o → (h1.push (seqObj "list" us.toArray 0)).get? b = some o := fun b o e => Heap.get?_push_of_some _ e
  refine wpAny_bind (wpAny_holding (PyProof.Rows.wpAny_call_entry_kw slot_list_sort ⟨_, new, rfl⟩ entry_list_sort ?body (ksk_l1 _ _)))
  show wpAny _ _ (Builtin.«list.sort» ⟨[.ref a], [(Str.ofString "key", .ref f)]⟩) _ _ _
  rw [ksk_t1]
  unfold ksk_tree
  refine wpAny_bind (listItems_at new rfl ?_)
  refine wpAny_bind (listUpdate_at new rfl ?_ (by rw [List.size_toArray]; exact sz) (Nat.zero_le _))
  generalize hh2 : h1.push (seqObj "list" us.toArray 0) = h2 at new szA k2
  obtain ⟨e1, ho1⟩ : ∃ e1, (h2.update a (Obj.mapSeq fun _ => #[])).get? a = some (seqObj "list" #[] e1) := ⟨_, PyProof.Rows.get?_update_seq new fun _ => #[]⟩
  have k3 : ∀ b o, h1.get? b = some o → (h2.update a (Obj.mapSeq fun _ => #[])).get? b = some o := fun b o e => (Heap.get?_update_other _ _ (fun z => by
    have := Heap.lt_size e
    rw [← z, ← ha] at this
    exact Nat.lt_irrefl _ this)).trans (k2 b o e)
  have sz3 : (h2.update a (Obj.mapSeq fun _ => #[])).objs.size = a + 1 := by rw [Heap.size_update, szA]
  show wpAny _ _ (seqEpoch a >>= _) _ _ { s with heap := h2.update a (Obj.mapSeq fun _ => #[]), toks := t1 }
  generalize h2.update a (Obj.mapSeq fun _ => #[]) = h3 at ho1 k3 sz3
  refine wpAny_bind (seqEpoch_at ho1 rfl ?_)
  refine wpAny_bind (wpAny_newTuple ?_ (by show us.toArray.size ≤ _; rw [List.size_toArray]; exact sz))
  refine wpAny_bind (wpAny_newList ?_ (Nat.zero_le _))
  refine wpAny_holding ?_
  dsimp only
  generalize hk : (h3.push (seqObj "tuple" us.toArray 0)).objs.size = kS
  have ekS : kS = a + 2 := by rw [← hk, Heap.size_push, sz3]
  have k4 : ∀ b o, h1.get? b = some o → ((h3.push (seqObj "tuple" us.toArray 0)).push (seqObj "list" #[] 0)).get? b = some o := fun b o e => Heap.get?_push_of_some _ (Heap.get?_push_of_some _ (k3 b o e))
  have aA : ((h3.push (seqObj "tuple" us.toArray 0)).push (seqObj "list" #[] 0)).get? a = some (seqObj "list" #[] e1) := Heap.get?_push_of_some _ (Heap.get?_push_of_some _ ho1)
  have aK : ((h3.push (seqObj "tuple" us.toArray 0)).push (seqObj "list" #[] 0)).get? kS = some (seqObj "list" #[] 0) := by rw [← hk]; exact Heap.get?_push_size _ rfl
  show wpAny _ _ _ _ _ { s with heap := (h3.push (seqObj "tuple" us.toArray 0)).push (seqObj "list" #[] 0), toks := t1 }
  generalize (h3.push (seqObj "tuple" us.toArray 0)).push (seqObj "list" #[] 0) = h4 at k4 aA aK
  have leK : h1.objs.size ≤ kS := by
    have e1 : (h1.objs.size : Nat) = a := ha
    have e2 : (kS : Nat) = a + 2 := ekS
    omega
  have nK : H kS = none := I1.hok.fresh leK
  have fK := I1.fpOk leK nK
  have hka : kS ≠ a := by
    rw [ekS]
    exact Nat.ne_of_gt (Nat.lt_add_of_pos_right (by decide))
  have I4 : L2.Inv X pins σ H { s with heap := h4, toks := t1 } := I1.kept (t' := t1) k4
  have fa : ∀ b, b = a ∨ b = kS → b ≠ X.env.locals ∧ b ∉ X.fs ∧ (b ∈ X.ex ∨ X.s_0.heap.objs.size ≤ b) ∧ (∀ x c, X.env.cells.lookup x = some c → c ≠ b) ∧ ∀ p ∈ X.pn ++ pins, p.1 ≠ b := fun b hb => by
    rcases hb with rfl | rfl
    · exact fA.2
    · exact fK.2
  unfold ksk_rest
  refine wpAny_bind (wpAny_rule ?_)
  rw [List.forIn_toArray]
  refine wpAny_bind (ksk_fold (fun i s' => Mid X pins σ H a kS e1 L i s') us 0 _ ⟨H, #[], 0, [], I4, Ex.refl H, nA, nK, aA, aK, .nil, by rw [List.take_zero]; exact .nil⟩ ?step ?done)
  case step =>
    rintro j x s' hx M
    simp only [Nat.zero_add] at M ⊢
    rw [evs, List.getElem?_map] at hx
    obtain ⟨p, hp, rfl⟩ := Option.map_eq_some_iff.mp hx
    refine wpAny_bind (wpAny_attempt (turn_key FF hb hr V hp M fa fun u s2 w2 => ?_))
    obtain ⟨H2, kA, ec, ys, y, I2, ex, na, nk, ga, gk, rv, dq, ry, dy⟩ := w2
    dsimp only
    have lk : kA.size ≤ L.length := by
      have l1 := rv.length
      have l2 := dq.len
      have l3 : kA.toList.length = kA.size := Array.length_toList
      rw [List.length_map, List.length_take] at l2
      omega
    have s3 := Heap.SameBut.update s2.heap kS (Obj.mapSeq (·.push u))
    obtain ⟨c2, hc2⟩ : ∃ c2, (s2.heap.update kS (Obj.mapSeq (·.push u))).get? kS = some (seqObj "list" (kA.push u) c2) := ⟨_, PyProof.Rows.get?_update_seq gk (·.push u)⟩
    refine wpAny_bind (listUpdate_at gk rfl ?_ (by rw [sizeLine_eq]; omega) (by rw [Array.size_push, sizeLine_eq]; omega))
    refine wpAny_pure ⟨rfl, H2, kA.push u, c2, ys ++ [y], ?_, ex, na, nk, (s3.2 a (Ne.symm hka)).trans ga, hc2, by rw [Array.toList_push]; exact rv.append (.cons ry .nil), ?_⟩
    · obtain ⟨f1, f2, f3, f4, f5⟩ := fa kS (.inr rfl)
      exact I2.turned (t' := s2.toks) (fun b o hb e => (s3.2 b hb).trans e) nk f1 f3 f4 f5
    · rw [List.take_add_one, hp, List.map_append]
      exact dq.app (.cons dy .nil)
  case done =>
    rintro s' ⟨H3, kA, ec, ys, I3, ex, na, nk, ga, gk, rv, dq⟩
    have all : L.take (0 + us.length) = L := by rw [Nat.zero_add, lus, List.take_length]
    rw [all] at dq
    have lk : kA.size = us.length := by
      have l1 := rv.length
      have l2 := dq.len
      have l3 : kA.toList.length = kA.size := Array.length_toList
      rw [List.length_map] at l2
      omega
    have ek := each_keys I3 rv dq
    obtain ⟨g, g1, g2⟩ := gone s'.heap kS
    obtain ⟨f1, f2, f3, f4, f5⟩ := fa kS (.inr rfl)
    obtain ⟨a1, a2, a3, a4, a5⟩ := fa a (.inl rfl)
    have Ig := I3.turned (h' := g) (t' := s'.toks) (fun b o hb e => (g2 b hb).trans e) nk f1 f3 f4 f5
    refine wpAny_bind (listItems_at gk rfl ?_)
    have O : KeysOk (L.map fun p => pkL p.1) := by
      have := keys_ok (L.map (·.1))
      rw [List.map_map] at this
      exact this
    have kd : PySem.W.EachIs (fun v (b : Vow × Addr) => (PySem.W.dataKind s'.heap (kdat (L.map fun p => pkL p.1))).keyOf v = some (PySem.W.keyToks (pkey b.1))) kA.toList L := by
      have key : ∀ {M : List (Vow × Addr)} {vs : List Value}, (∀ p ∈ M, p ∈ L) → PySem.W.EachIs (fun v k => ∃ as, Reads s'.heap v (.tuple k) as) vs (M.map fun p => pkL p.1) → PySem.W.EachIs (fun v (b : Vow × Addr) => (PySem.W.dataKind s'.heap (kdat (L.map fun p => pkL p.1))).keyOf v = some (PySem.W.keyToks (pkey b.1))) vs M := by
        intro M
        induction M with
        | nil => intro vs _ e; cases e; exact .nil
        | cons p M ih =>
          intro vs hM e
          cases e with
          | cons e1 e2 =>
            obtain ⟨as, r⟩ := e1
            refine .cons ?_ (ih (fun q hq => hM q (List.mem_cons_of_mem _ hq)) e2)
            rw [pkey_eq]
            exact kind_one O (List.mem_map.mpr ⟨p, hM p List.mem_cons_self, rfl⟩) r
      exact key (fun p hp => hp) ek
    have er : PySem.W.EachIs (fun v (b : Vow × Addr) => v = Value.ref b.2 ∧ True) us L := evs ▸ each_own L
    refine PySem.W.keyH_end (b := false) (vs := us) (h₁ := g) (fun b o hb e => ?kp) g1 gk ga hka (sorts_at O ek (by show X.A.in1.in1.units + 1 < cLine; simp only [Around.in1_units]; omega)) lk sz fun h' tk c kp hA => ?fin
    case kp =>
      by_cases hbk : b = kS
      · rw [hbk, g1] at e; cases e
      · rw [← g2 b hbk]; exact e
    case fin =>
      have es := PySem.W.sortVals_each (κ := PySem.W.dataKind s'.heap (kdat (L.map fun p => pkL p.1))) (rev := false) (k := fun b : Vow × Addr => PySem.W.keyToks (pkey b.1)) er kd
      have pm := List.mergeSort_perm L (PySem.W.dataLe false fun b : Vow × Addr => pkey b.1)
      have Ih := Ig.turned (h' := h') (t' := tk) (fun b o hb e => kp b o hb e) na a1 a3 a4 a5
      have ln : ((L.mergeSort (PySem.W.dataLe false fun b : Vow × Addr => pkey b.1)).map fun q => L2.V.ref q.2).length ≤ sizeLine := by
        rw [List.length_map, pm.length_eq, ← lus]
        exact sz
      have It := track (o := .lst ((L.mergeSort (PySem.W.dataLe false fun b : Vow × Addr => pkey b.1)).map fun q => L2.V.ref q.2)) Ih na a1 a3 a4 a5 ⟨ln, _, c, each_refs (f := fun b : Vow × Addr => b.2) (C := fun _ _ => True) es, hA⟩
      exact ⟨.none, rfl, wpAny_pure ⟨_, rfl, .ref a, _, It, rfl, q _ a H3 ex na pm (srt_V L)⟩⟩
end
end BK
end
section
set_option maxHeartbeats 2000000
/-! {x: True for x in promises} as a word -/
namespace BK
open PySem PySem.Spec PyProof.Rows L2 ZS Evl
def tDcV (K : PySem.W.Frag) (P : Program) (w : World) (ti : TE) : TE := fun σ H Q => ti σ H fun y H1 => ∃ (l : Addr) (L : List (Vow × Addr)), y = .ref l ∧ (SqL K H1 l (L.map fun p => V.ref p.2) ∨ SqT K H1 l (L.map fun p => V.ref p.2)) ∧ VwsAt H1 K L ∧ L.length ≤ 1000 ∧
  ∀ D, H1 D = none → (D == sysModules) = false → Q (.ref D) (upd H1 D (DctV P w D (onceV L)))
theorem items_of {P : Program} {w : World} : ∀ {ls : List Leaf} {us : List Value}, Vals (ls.map leafV) us → ItemsAre (PySem.leafKind P w) ls us
  | [], _, .nil => .nil
  | l :: ls, _, .cons h r => by
    refine .cons ?_ (items_of r)
    cases l with
    | none => cases h; rfl
    | num i => obtain ⟨t, rfl⟩ := h; exact decide_eq_true rfl
    | text x => obtain ⟨t, rfl⟩ := h; exact strKind_is P w x t
variable {X : Cx}
theorem vws_in {pins : List (Addr × Obj)} {σ : L2.St} {H : Hp} {s : Shared} (I : L2.Inv X pins σ H s) {L : List (Vow × Addr)} (V : VwsAt H X.K L) : VwsIn X.prog X.w s.heap L := fun p hp => by
  have h := V p hp
  rw [← vwL_V] at h
  obtain ⟨its, rv, ⟨o, e, c, n, d⟩, _⟩ := I.tuple h
  exact ⟨o, its.toArray, n, e, c, d, items_of rv⟩
theorem pe_dcV {iter : Expr} {ti : TE} {scope : Scope} {cl : List (Str × Addr)} {x : Str} {px pk pv pos : Pos} {j : Nat} (hc : X.calm = true) (hu : X.A.units + 64 < cLine) (hi : PE X iter ti) (hclos : closureFor scope X.env = pure cl) (hcell : ∀ y ∈ scope.names, y.2 ≠ .cell) (hkind : scope.kind = .function)
    (hnames : ∀ y ∈ scope.names, y.2 = .local → scope.names.lookup y.1 = some .local) (hx : scope.names.lookup x = some .local) (nx : (x == ("__debug__" : Str)) = false) (hs : ∀ x, foldedSetIterable iter X.env x = pure x := by intro _; rfl) :
    PE X (.DictComp (.Name x pk) (.Constant (.bool true) j pv) [⟨.Name x px, iter, [], 0⟩] scope pos) (tDcV X.K X.prog X.w ti) := by
  refine ⟨fun pins s σ H Q I h => DictComp_goes hclos hcell hkind hnames (thn (hi.run pins s σ H _ I h) fun v s1 ⟨y, H1, I1, r1, l, L, ey, hl, V, few, q⟩ => ?_) hs⟩
  subst ey
  obtain rfl : v = Value.ref l := r1
  have hh : X.A.handled = none := I1.ok.hd hc
  have fin : ∀ (D : Addr) (h' : Heap) (tk : Nat) (s2 : Shared), (∃ o : Obj, s2 = { s1 with heap := s1.heap.push o }) → s2.heap.objs.size ≤ D → h'.DictOfH (kndV X.prog X.w) D ((onceV L).map entV) → (∀ b o, b ≠ s1.heap.objs.size → s2.heap.get? b = some o → h'.get? b = some o) → EP X pins σ Q (.ref D) { s2 with heap := h', toks := tk } := by
    rintro D h' tk s2 ⟨o, rfl⟩ le dd k
    have up : ∀ b u, s1.heap.get? b = some u → h'.get? b = some u := fun b u e => k b u (Nat.ne_of_lt (Heap.lt_size e)) (Heap.get?_push_of_some _ e)
    have le1 : s1.heap.objs.size ≤ D := by
      have : (s1.heap.push o).objs.size ≤ D := le
      rw [Heap.size_push] at this
      exact Nat.le_of_succ_le this
    refine ⟨.ref D, _, I1.laid (t' := tk) up le1 (dctV_new dd), rfl, q D (I1.hok.fresh le1) ?_⟩
    have := I1.big
    exact beq_eq_false_iff_ne.mpr fun z => Nat.lt_irrefl _ (Nat.lt_of_lt_of_le this (z ▸ le1))
  have few' : L.length ≤ sizeLine := by rw [sizeLine_eq]; omega
  rcases hl with hl | hl
  · obtain ⟨its, rv, pl, _⟩ := I1.list hl
    have il := pl.isList
    obtain ⟨o, ho, _⟩ := id il
    have lt := Heap.lt_size ho
    refine wpAny_pyIter_list il ?_
    refine dict_walk (s := { s1 with heap := s1.heap.push { cls := .type "list_iterator", data := .fields #[.ref l, .int 0 0] } }) (l := l) (us := its.toArray) (oI := default) hkind hx nx (by omega) (Goes.list hh _ l (Nat.ne_of_lt lt) its.toArray) ⟨⟨_, Heap.get?_push_size _ rfl, rfl, rfl⟩, il.at fun o e => Heap.get?_push_of_some _ e⟩
      (by rw [List.toList_toArray, refs_vals rv]) ((vws_in I1 V).up fun b o e => Heap.get?_push_of_some _ e) few' ?_ ?_ (fun p hp z => ?_) fun D h' tk le dd k => fin D h' tk _ ⟨_, rfl⟩ le dd k
    · show _ < (s1.heap.push _).objs.size
      rw [Heap.size_push]; exact Nat.lt_succ_self _
    · show l < (s1.heap.push _).objs.size
      rw [Heap.size_push]; exact Nat.lt_succ_of_lt lt
    · obtain ⟨o, _, _, e, _⟩ := vws_in I1 V p hp
      exact Nat.lt_irrefl _ (z ▸ Heap.lt_size e)
  · obtain ⟨its, rv, pt, _⟩ := I1.tuple hl
    have il : s1.heap.IsTuple l its.toArray := let ⟨o, e, c, n, d⟩ := pt; ⟨o, e, c, n, d⟩
    obtain ⟨o, ho, _⟩ := id il
    have lt := Heap.lt_size ho
    refine wpAny_pyIter_tuple il ?_
    refine dict_walk (s := { s1 with heap := s1.heap.push { cls := .type "tuple_iterator", data := .fields #[.ref l, .int 0 0] } }) (l := l) (us := its.toArray) (oI := default) hkind hx nx (by omega) (Goes.tuple hh _ l (Nat.ne_of_lt lt) its.toArray) ⟨⟨_, Heap.get?_push_size _ rfl, rfl, rfl⟩, il.at fun o e => Heap.get?_push_of_some _ e⟩
      (by rw [List.toList_toArray, refs_vals rv]) ((vws_in I1 V).up fun b o e => Heap.get?_push_of_some _ e) few' ?_ ?_ (fun p hp z => ?_) fun D h' tk le dd k => fin D h' tk _ ⟨_, rfl⟩ le dd k
    · show _ < (s1.heap.push _).objs.size
      rw [Heap.size_push]; exact Nat.lt_succ_self _
    · show l < (s1.heap.push _).objs.size
      rw [Heap.size_push]; exact Nat.lt_succ_of_lt lt
    · obtain ⟨o, _, _, e, _⟩ := vws_in I1 V p hp
      exact Nat.lt_irrefl _ (z ▸ Heap.lt_size e)
/-- the same, what is asked of its names told at once -/
theorem pe_dcv {iter : Expr} {ti : TE} {scope : Scope} {x : Str} {px pk pv pos : Pos} {j : Nat} (hc : X.calm = true) (hu : X.A.units + 64 < cLine) (hi : PE X iter ti)
    (ok : (decide (scope.kind = .function) && scope.names.all (fun y => decide (y.2 = .local) && decide (scope.names.lookup y.1 = some .local)) && decide (scope.names.lookup x = some .local) && !(x == ("__debug__" : Str))) = true) (hs : ∀ x, foldedSetIterable iter X.env x = pure x := by intro _; rfl) :
    PE X (.DictComp (.Name x pk) (.Constant (.bool true) j pv) [⟨.Name x px, iter, [], 0⟩] scope pos) (tDcV X.K X.prog X.w ti) := by
  simp only [Bool.and_eq_true, List.all_eq_true, decide_eq_true_eq, Bool.not_eq_true'] at ok
  obtain ⟨⟨⟨o1, o2⟩, o3⟩, o4⟩ := ok
  exact pe_dcV hc hu hi (closure_ok fun y hy e => absurd ((o2 y hy).1.symm.trans e) (by decide)) (fun y hy e => absurd ((o2 y hy).1.symm.trans e) (by decide)) o1 (fun y hy _ => (o2 y hy).2) o3 o4 hs
end BK
end
section
set_option maxHeartbeats 2000000
/-! an own instance == data -/
namespace BK
open PySem PySem.Spec PyProof.Rows L2 Evl G
section
variable {X : Cx} {CX : CXT} {k : Nat} {f C : Addr} {fd : FuncData} {ps : List Str} {sp : Sp} {E : XK}
def rEqA (C : Addr) (sp : Sp) (E : XK) : R2 := fun x y H Q => ∃ a dx fs d, x = .ref a ∧ H a = some (.ins C dx fs) ∧ OW.Dq H y d ∧ sp [.ref a, y] H (fun v H' => (∃ c, v = .bl c) ∧ Q v H') E
theorem op_eqA (F : FnOk X.prog X.w X.K X.mg X.base CX k f fd ps sp) (hs : PySem.W.findIn X.K (.ref C) "__eq__" = some (some (.ref f))) (hf : PySem.W.isFn X.K (.ref f) = true) (hb : Binds X.K fd ps []) (hx : Passes CX X E) (hr : Room k X.A) (nf : ∀ d, PySem.W.notFirst X.K C (PySem.W.dataType d) = true) :
    OpR X (compareOp .Eq) (rEqA C sp E) := by
  intro pins s σ H x y u v Q I rx ry h
  obtain ⟨a, dx, fs, d, rfl, ha, hd, h⟩ := h
  cases rx
  obtain ⟨mA, J, _⟩ := ins_get I.hok ha
  obtain ⟨od, J, _⟩ := J.look
  obtain ⟨as, rd⟩ := OW.Dq.reads I d y v hd ry
  obtain ⟨m, hF⟩ := I.fr
  have r2 : Vals [V.ref a, y] [Value.ref a, v] := .cons rfl (.cons ry .nil)
  have hl := F.len _ _ _ _ h
  refine PySem.W.cmp_ofEq (PySem.W.cmp_K (op := .Eq) (tb := PySem.W.dataType d) hr.units0 hF I.ok.mod.kin J (PySem.W.looks_reads rd) (nf d) hs hf ?_)
  refine wpAny_call (codeAny_mono (F.run X.A X.stack s H ⟨[.ref a, v], []⟩ [.ref a, v] [.ref a, y] _ E hr I.env0 (by simpa using hb s [.ref a, v] I.kIn (by simpa using hl)) r2 h) fun r s' hq => ?_)
  match r, hq with
  | .error e, hq => exact hx pins σ H s e s' I hq
  | .ok (.ret u), hq =>
    obtain ⟨z, H', I', rz, ⟨c, rfl⟩, q⟩ := I.after hq
    cases rz
    exact ⟨.bl c, H', I', rfl, q⟩
  | .ok .next, hq => exact hq.elim
  | .ok .brk, hq => exact hq.elim
  | .ok .cont, hq => exact hq.elim
end
end BK
end
section
/-! lists without doubles, rising: mathematics -/
namespace BK
section
variable {α : Type} [DecidableEq α]
/-- each member once, where it stands first -/
def once : List α → List α
  | [] => []
  | x :: xs => x :: (once xs).filter fun y => !decide (y = x)
theorem mem_once' {x : α} : ∀ {xs : List α}, x ∈ once xs ↔ x ∈ xs
  | [] => Iff.rfl
  | y :: ys => by
    rw [once, List.mem_cons, List.mem_filter, mem_once' (xs := ys), List.mem_cons]
    by_cases e : x = y
    · simp [e]
    · simp [e]
theorem once_nodup : ∀ xs : List α, (once xs).Nodup
  | [] => .nil
  | y :: ys => by
    rw [once, List.nodup_cons]
    exact ⟨fun h => by simp at h, (once_nodup ys).filter _⟩
theorem once_len : ∀ xs : List α, (once xs).length ≤ xs.length
  | [] => Nat.le_refl _
  | y :: ys => Nat.succ_le_succ (Nat.le_trans (List.length_filter_le _ _) (once_len ys))
theorem once_of_nodup : ∀ {xs : List α}, xs.Nodup → once xs = xs
  | [], _ => rfl
  | y :: ys, h => by
    obtain ⟨h1, h2⟩ := List.nodup_cons.mp h
    rw [once, once_of_nodup h2, List.filter_eq_self.mpr]
    exact fun a ha => by
      have : a ≠ y := fun z => h1 (z ▸ ha)
      simp [this]
/-- by places: what does not stand ahead of itself -/
def firsts (xs : List α) : List α := (xs.zipIdx.filter fun p => !decide (p.1 ∈ xs.take p.2)).map (·.1)
theorem firsts_go : ∀ (ys pre : List α), ((ys.zipIdx pre.length).filter fun p => !decide (p.1 ∈ (pre ++ ys).take p.2)).map (·.1) = (once ys).filter fun y => !decide (y ∈ pre)
  | [], pre => rfl
  | y :: ys, pre => by
    have ih := firsts_go ys (pre ++ [y])
    rw [List.length_append, List.length_singleton, List.append_assoc, List.singleton_append] at ih
    rw [List.zipIdx_cons, List.filter_cons]
    have e : (pre ++ y :: ys).take pre.length = pre := by simp
    dsimp only
    rw [e]
    have tail : (once ys).filter (fun z => !decide (z ∈ pre ++ [y])) = ((once ys).filter fun z => !decide (z = y)).filter fun z => !decide (z ∈ pre) := by
      rw [List.filter_filter]
      refine List.filter_congr fun a _ => ?_
      by_cases h1 : a ∈ pre <;> by_cases h2 : a = y <;> simp [h1, h2]
    by_cases h : y ∈ pre
    · rw [if_neg (by simp [h]), ih, once, List.filter_cons, if_neg (by simp [h]), tail]
    · rw [if_pos (by simp [h]), List.map_cons, ih, once, List.filter_cons, if_pos (by simp [h]), tail]
theorem firsts_eq (xs : List α) : firsts xs = once xs := by
  have := firsts_go xs []
  rw [List.nil_append, List.length_nil] at this
  unfold firsts
  rw [this]
  exact List.filter_eq_self.mpr fun a _ => by simp
theorem once_app (xs ys : List α) : once (xs ++ ys) = once xs ++ (once ys).filter fun y => !decide (y ∈ xs) := by
  induction xs with
  | nil => rw [List.nil_append, once, List.nil_append, List.filter_eq_self.mpr]; exact fun a _ => by simp
  | cons x xs ih =>
    rw [List.cons_append, once, ih, List.filter_append, once, List.cons_append, List.filter_filter]
    congr 2
    refine List.filter_congr fun a _ => ?_
    by_cases h1 : a ∈ xs <;> by_cases h2 : a = x <;> simp [h1, h2]
variable {lt : α → α → Bool}
/-- the members of xs, once each, rising -/
def srt (lt : α → α → Bool) (xs : List α) : List α := (once xs).mergeSort fun a b => !lt b a
theorem srt_perm (xs : List α) : (srt lt xs).Perm (once xs) := List.mergeSort_perm ..
theorem srt_nodup (xs : List α) : (srt lt xs).Nodup := (srt_perm xs).nodup_iff.mpr (once_nodup xs)
theorem mem_srt {x : α} {xs : List α} : x ∈ srt lt xs ↔ x ∈ xs := (srt_perm xs).mem_iff.trans mem_once'
theorem srt_len (xs : List α) : (srt lt xs).length = (once xs).length := (srt_perm xs).length_eq
theorem srt_up (O : Ord lt) (xs : List α) : (srt lt xs).Pairwise fun a b => lt b a = false := by
  refine (List.pairwise_mergeSort (fun a b c h1 h2 => ?_) (fun a b => ?_) (once xs)).imp fun h => by simpa using h
  · simp only [Bool.not_eq_true'] at h1 h2 ⊢
    exact O.trans a b c h1 h2
  · simp only [Bool.or_eq_true, Bool.not_eq_true']
    cases h1 : lt b a
    · exact .inl rfl
    · exact .inr (O.asym _ _ h1)
theorem srt_one (O : Ord lt) {ys xs : List α} (h1 : ys.Pairwise fun a b => lt b a = false) (h2 : ys.Nodup) (h3 : ∀ x, x ∈ ys ↔ x ∈ xs) : ys = srt lt xs := O.one h1 h2 (srt_up O xs) (srt_nodup xs) fun x => (h3 x).trans mem_srt.symm
theorem srt_same (O : Ord lt) {xs ys : List α} (h : ∀ x, x ∈ xs ↔ x ∈ ys) : srt lt xs = srt lt ys := srt_one O (srt_up O xs) (srt_nodup xs) fun x => mem_srt.trans (h x)
theorem srt_iff (O : Ord lt) {xs ys : List α} : srt lt xs = srt lt ys ↔ ∀ x, x ∈ xs ↔ x ∈ ys := ⟨fun h x => by rw [← mem_srt (lt := lt), h, mem_srt], srt_same O⟩
theorem srt_id (O : Ord lt) {ys : List α} (h1 : ys.Pairwise fun a b => lt b a = false) (h2 : ys.Nodup) : srt lt ys = ys := (srt_one O h1 h2 fun _ => Iff.rfl).symm
theorem srt_srt (O : Ord lt) (xs : List α) : srt lt (srt lt xs) = srt lt xs := srt_id O (srt_up O xs) (srt_nodup xs)
theorem sub_len {xs ys : List α} (n : xs.Nodup) (h : ∀ x ∈ xs, x ∈ ys) : xs.length ≤ ys.length := by
  induction xs generalizing ys with
  | nil => exact Nat.zero_le _
  | cons x xs ih =>
    obtain ⟨n1, n2⟩ := List.nodup_cons.mp n
    have hx := h x List.mem_cons_self
    have := ih (ys := ys.erase x) n2 fun z hz => (List.mem_erase_of_ne (show z ≠ x from fun e => n1 (e ▸ hz))).mpr (h z (List.mem_cons_of_mem _ hz))
    rw [List.length_erase_of_mem hx] at this
    have : 0 < ys.length := List.length_pos_of_mem hx
    rw [List.length_cons]
    omega
theorem srt_le {xs ys : List α} (h : ∀ x ∈ xs, x ∈ ys) : (srt lt xs).length ≤ ys.length := sub_len (srt_nodup xs) fun x hx => h x (mem_srt.mp hx)
end
end BK
end
section
set_option maxHeartbeats 2000000
namespace K32
open PySem L2
def top (i : Nat) : Stmt := PySem.Challenge.pw_leadrules_k32_chains_of_promises.main.body.getD i (.Pass ⟨0, 0, 0, 0⟩)
abbrev s__wall : Stmt := (top 0)
abbrev s_is_day : Stmt := (top 2)
theorem sc_is_day : FnScope ["value"] ["value"] (defScope s_is_day) := ⟨rfl, rfl, rfl, by decide +kernel, rfl, by decide +kernel, by decide +kernel⟩
abbrev s_is_rule : Stmt := (top 3)
theorem sc_is_rule : FnScope ["value"] ["value"] (defScope s_is_rule) := ⟨rfl, rfl, rfl, by decide +kernel, rfl, by decide +kernel, by decide +kernel⟩
abbrev s_InvalidRule___init__ : Stmt := (inClass (top 6) 0)
abbrev s_InvalidPromise___init__ : Stmt := (inClass (top 7) 0)
abbrev s_InvalidRow___init__ : Stmt := (inClass (top 8) 0)
abbrev s_TooMany___init__ : Stmt := (inClass (top 10) 0)
abbrev s_need_rule : Stmt := (top 12)
theorem sc_need_rule : FnScope ["value"] ["value"] (defScope s_need_rule) := ⟨rfl, rfl, rfl, by decide +kernel, rfl, by decide +kernel, by decide +kernel⟩
abbrev s_is_list : Stmt := (top 13)
theorem sc_is_list : FnScope ["value"] ["value"] (defScope s_is_list) := ⟨rfl, rfl, rfl, by decide +kernel, rfl, by decide +kernel, by decide +kernel⟩
abbrev s_beneath : Stmt := (top 15)
theorem sc_beneath : FnScope ["book", "rule"] ["book", "rule"] (defScope s_beneath) := ⟨rfl, rfl, rfl, by decide +kernel, rfl, by decide +kernel, by decide +kernel⟩
abbrev s_above : Stmt := (top 16)
theorem sc_above : FnScope ["book", "rule", "first", "other"] ["book", "rule"] (defScope s_above) := ⟨rfl, rfl, rfl, by decide +kernel, rfl, by decide +kernel, by decide +kernel⟩
abbrev s_low : Stmt := (top 17)
theorem sc_low : FnScope ["book", "rule", "under", "lead"] ["book", "rule"] (defScope s_low) := ⟨rfl, rfl, rfl, by decide +kernel, rfl, by decide +kernel, by decide +kernel⟩
abbrev s_high : Stmt := (top 18)
theorem sc_high : FnScope ["book", "rule", "over", "lead"] ["book", "rule"] (defScope s_high) := ⟨rfl, rfl, rfl, by decide +kernel, rfl, by decide +kernel, by decide +kernel⟩
abbrev s_low_chain : Stmt := (top 19)
theorem sc_low_chain : FnScope ["book", "rule", "least", "lead"] ["book", "rule"] (defScope s_low_chain) := ⟨rfl, rfl, rfl, by decide +kernel, rfl, by decide +kernel, by decide +kernel⟩
abbrev s_high_chain : Stmt := (top 20)
theorem sc_high_chain : FnScope ["book", "rule", "most", "lead"] ["book", "rule"] (defScope s_high_chain) := ⟨rfl, rfl, rfl, by decide +kernel, rfl, by decide +kernel, by decide +kernel⟩
abbrev s_torn : Stmt := (top 21)
theorem sc_torn : FnScope ["book", "rule"] ["book"] (defScope s_torn) := ⟨rfl, rfl, rfl, by decide +kernel, rfl, by decide +kernel, by decide +kernel⟩
abbrev s_quick_pairs : Stmt := (top 22)
theorem sc_quick_pairs : FnScope ["book", "rule", "other"] ["book"] (defScope s_quick_pairs) := ⟨rfl, rfl, rfl, by decide +kernel, rfl, by decide +kernel, by decide +kernel⟩
abbrev s__quick : Stmt := (top 23)
theorem sc__quick : FnScope ["book", "promise"] ["book"] (defScope s__quick) := ⟨rfl, rfl, rfl, by decide +kernel, rfl, by decide +kernel, by decide +kernel⟩
abbrev s__leads : Stmt := (top 24)
theorem sc__leads : FnScope ["book", "promise"] ["book"] (defScope s__leads) := ⟨rfl, rfl, rfl, by decide +kernel, rfl, by decide +kernel, by decide +kernel⟩
abbrev s__is_torn : Stmt := (top 25)
theorem sc__is_torn : FnScope ["book", "rule", "least", "most"] ["book", "rule"] (defScope s__is_torn) := ⟨rfl, rfl, rfl, by decide +kernel, rfl, by decide +kernel, by decide +kernel⟩
abbrev s__steps_to : Stmt := (top 26)
theorem sc__steps_to : FnScope ["goals", "quick", "steps", "reached", "goal", "rule", "other"] ["goals", "quick"] (defScope s__steps_to) := ⟨rfl, rfl, rfl, by decide +kernel, rfl, by decide +kernel, by decide +kernel⟩
abbrev s__shortest_chain : Stmt := (top 27)
theorem sc__shortest_chain : FnScope ["book", "starts", "goals", "steps", "rule", "chain", "start", "first", "other"] ["book", "starts", "goals"] (defScope s__shortest_chain) := ⟨rfl, rfl, rfl, by decide +kernel, rfl, by decide +kernel, by decide +kernel⟩
abbrev s_Book___init__ : Stmt := (inClass (top 29) 2)
theorem sc_Book___init__ : FnScope ["self", "log", "promises"] ["self", "log", "promises"] (defScope s_Book___init__) := ⟨rfl, rfl, rfl, by decide +kernel, rfl, by decide +kernel, by decide +kernel⟩
abbrev s_Book_log : Stmt := (inClass (top 29) 3)
theorem sc_Book_log : FnScope ["self"] ["self"] (defScope s_Book_log) := ⟨rfl, rfl, rfl, by decide +kernel, rfl, by decide +kernel, by decide +kernel⟩
abbrev s_Book_promises : Stmt := (inClass (top 29) 4)
theorem sc_Book_promises : FnScope ["self"] ["self"] (defScope s_Book_promises) := ⟨rfl, rfl, rfl, by decide +kernel, rfl, by decide +kernel, by decide +kernel⟩
abbrev s_Book_rules : Stmt := (inClass (top 29) 5)
theorem sc_Book_rules : FnScope ["self", "named", "others", "row", "promise"] ["self"] (defScope s_Book_rules) := ⟨rfl, rfl, rfl, by decide +kernel, rfl, by decide +kernel, by decide +kernel⟩
abbrev s_Book___eq__ : Stmt := (inClass (top 29) 6)
abbrev s_Book_with_row : Stmt := (inClass (top 29) 7)
abbrev s_Book_without_row : Stmt := (inClass (top 29) 8)
abbrev s_Book_with_promise : Stmt := (inClass (top 29) 9)
abbrev s_Book_without_promise : Stmt := (inClass (top 29) 10)
abbrev s_Book_joined : Stmt := (inClass (top 29) 11)
abbrev s_Book_rows_of : Stmt := (inClass (top 29) 12)
abbrev s_is_row : Stmt := (top 30)
theorem sc_is_row : FnScope ["value"] ["value"] (defScope s_is_row) := ⟨rfl, rfl, rfl, by decide +kernel, rfl, by decide +kernel, by decide +kernel⟩
abbrev s_need_row : Stmt := (top 31)
theorem sc_need_row : FnScope ["value"] ["value"] (defScope s_need_row) := ⟨rfl, rfl, rfl, by decide +kernel, rfl, by decide +kernel, by decide +kernel⟩
abbrev s_is_promise : Stmt := (top 32)
theorem sc_is_promise : FnScope ["value"] ["value"] (defScope s_is_promise) := ⟨rfl, rfl, rfl, by decide +kernel, rfl, by decide +kernel, by decide +kernel⟩
abbrev s_need_promise : Stmt := (top 33)
theorem sc_need_promise : FnScope ["value"] ["value"] (defScope s_need_promise) := ⟨rfl, rfl, rfl, by decide +kernel, rfl, by decide +kernel, by decide +kernel⟩
abbrev s_promise_place : Stmt := (top 34)
theorem sc_promise_place : FnScope ["promise"] ["promise"] (defScope s_promise_place) := ⟨rfl, rfl, rfl, by decide +kernel, rfl, by decide +kernel, by decide +kernel⟩
abbrev s__bound_place : Stmt := (top 35)
theorem sc__bound_place : FnScope ["bound"] ["bound"] (defScope s__bound_place) := ⟨rfl, rfl, rfl, by decide +kernel, rfl, by decide +kernel, by decide +kernel⟩
abbrev s__are_bounds : Stmt := (top 36)
theorem sc__are_bounds : FnScope ["least", "most"] ["least", "most"] (defScope s__are_bounds) := ⟨rfl, rfl, rfl, by decide +kernel, rfl, by decide +kernel, by decide +kernel⟩
abbrev s__need_rows : Stmt := (top 37)
theorem sc__need_rows : FnScope ["log", "row"] ["log"] (defScope s__need_rows) := ⟨rfl, rfl, rfl, by decide +kernel, rfl, by decide +kernel, by decide +kernel⟩
abbrev s__need_promises : Stmt := (top 38)
theorem sc__need_promises : FnScope ["promises", "promise"] ["promises"] (defScope s__need_promises) := ⟨rfl, rfl, rfl, by decide +kernel, rfl, by decide +kernel, by decide +kernel⟩
abbrev s__law_pot : Stmt := (top 40)
theorem sc__law_pot : FnScope ["_law_script", "_law_k", "_law_cell"] ["_law_script", "_law_k"] (defScope s__law_pot) := ⟨rfl, rfl, rfl, by decide +kernel, rfl, by decide +kernel, by decide +kernel⟩
abbrev s__law_draw : Stmt := (top 41)
theorem sc__law_draw : FnScope ["_law_pot_here", "_law_size", "_law_digit"] ["_law_pot_here", "_law_size"] (defScope s__law_draw) := ⟨rfl, rfl, rfl, by decide +kernel, rfl, by decide +kernel, by decide +kernel⟩
abbrev s__law_pick : Stmt := (top 42)
theorem sc__law_pick : FnScope ["_law_pot_here", "_law_some"] ["_law_pot_here", "_law_some"] (defScope s__law_pick) := ⟨rfl, rfl, rfl, by decide +kernel, rfl, by decide +kernel, by decide +kernel⟩
abbrev s__law_once : Stmt := (top 43)
theorem sc__law_once : FnScope ["_law_some", "_law_at", "_law_one"] ["_law_some"] (defScope s__law_once) := ⟨rfl, rfl, rfl, by decide +kernel, rfl, by decide +kernel, by decide +kernel⟩
abbrev s__law_under : Stmt := (top 44)
theorem sc__law_under : FnScope ["_law_vows", "_law_who", "_law_found", "_law_turn", "_law_vow"] ["_law_vows", "_law_who"] (defScope s__law_under) := ⟨rfl, rfl, rfl, by decide +kernel, rfl, by decide +kernel, by decide +kernel⟩
abbrev s__law_over : Stmt := (top 45)
theorem sc__law_over : FnScope ["_law_vows", "_law_who", "_law_found", "_law_turn", "_law_vow"] ["_law_vows", "_law_who"] (defScope s__law_over) := ⟨rfl, rfl, rfl, by decide +kernel, rfl, by decide +kernel, by decide +kernel⟩
abbrev s__law_low : Stmt := (top 46)
theorem sc__law_low : FnScope ["_law_vows", "_law_who", "_law_under_here", "_law_found", "_law_vow"] ["_law_vows", "_law_who"] (defScope s__law_low) := ⟨rfl, rfl, rfl, by decide +kernel, rfl, by decide +kernel, by decide +kernel⟩
abbrev s__law_high : Stmt := (top 47)
theorem sc__law_high : FnScope ["_law_vows", "_law_who", "_law_over_here", "_law_found", "_law_vow"] ["_law_vows", "_law_who"] (defScope s__law_high) := ⟨rfl, rfl, rfl, by decide +kernel, rfl, by decide +kernel, by decide +kernel⟩
abbrev s__law_named : Stmt := (top 48)
theorem sc__law_named : FnScope ["_law_lines", "_law_vows", "_law_found", "_law_line", "_law_vow"] ["_law_lines", "_law_vows"] (defScope s__law_named) := ⟨rfl, rfl, rfl, by decide +kernel, rfl, by decide +kernel, by decide +kernel⟩
abbrev s__law_oaths : Stmt := (top 49)
theorem sc__law_oaths : FnScope ["_law_pot_here", "_law_some", "_law_found", "_law_turn", "_law_who", "_law_far", "_law_least", "_law_most", "_law_form"] ["_law_pot_here", "_law_some"] (defScope s__law_oaths) := ⟨rfl, rfl, rfl, by decide +kernel, rfl, by decide +kernel, by decide +kernel⟩
abbrev s__law_longer : Stmt := (top 50)
theorem sc__law_longer : FnScope ["_law_vows", "_law_lists", "_law_found", "_law_some", "_law_vow"] ["_law_vows", "_law_lists"] (defScope s__law_longer) := ⟨rfl, rfl, rfl, by decide +kernel, rfl, by decide +kernel, by decide +kernel⟩
abbrev s__law_chain : Stmt := (top 51)
theorem sc__law_chain : FnScope ["_law_vows", "_law_begins", "_law_ends", "_law_lists", "_law_turn", "_law_there", "_law_who", "_law_some"] ["_law_vows", "_law_begins", "_law_ends"] (defScope s__law_chain) := ⟨rfl, rfl, rfl, by decide +kernel, rfl, by decide +kernel, by decide +kernel⟩
abbrev s__law_low_chain : Stmt := (top 52)
theorem sc__law_low_chain : FnScope ["_law_vows", "_law_who", "_law_bound", "_law_begins", "_law_vow"] ["_law_vows", "_law_who"] (defScope s__law_low_chain) := ⟨rfl, rfl, rfl, by decide +kernel, rfl, by decide +kernel, by decide +kernel⟩
abbrev s__law_high_chain : Stmt := (top 53)
theorem sc__law_high_chain : FnScope ["_law_vows", "_law_who", "_law_bound", "_law_ends", "_law_vow"] ["_law_vows", "_law_who"] (defScope s__law_high_chain) := ⟨rfl, rfl, rfl, by decide +kernel, rfl, by decide +kernel, by decide +kernel⟩
abbrev s__law_rule_right : Stmt := (top 54)
theorem sc__law_rule_right : FnScope ["_law_shelf", "_law_vows", "_law_who", "_law_some"] ["_law_shelf", "_law_vows", "_law_who"] (defScope s__law_rule_right) := ⟨rfl, rfl, rfl, by decide +kernel, rfl, by decide +kernel, by decide +kernel⟩
abbrev s__law_right : Stmt := (top 55)
theorem sc__law_right : FnScope ["_law_pot_here", "_law_some", "_law_vows", "_law_lines", "_law_shelf", "_law_due", "_law_pairs", "_law_who", "_law_least", "_law_most", "_law_far"] ["_law_pot_here"] (defScope s__law_right) := ⟨rfl, rfl, rfl, by decide +kernel, rfl, by decide +kernel, by decide +kernel⟩
abbrev s_law : Stmt := (top 56)
theorem sc_law : FnScope ["_law_script", "_law_k"] ["_law_script"] (defScope s_law) := ⟨rfl, rfl, rfl, by decide +kernel, rfl, by decide +kernel, by decide +kernel⟩
end K32
end
section
set_option maxHeartbeats 2000000
namespace G
open PySem PySem.Spec PyProof.Rows L2

/-! ### the end of a law whose promise is told where no repr is running -/
section
variable {P : Program} {w : World} {K : PySem.W.Frag} {mg mb : Str → Option Value} {CX : CXT} {k : Nat} {fa a : Addr} {fd : FuncData} {x : Str} {sp : Sp} {s₁ : Shared} {vs : List Value} {ns : List Int}
def scrObj (vs : List Value) : Obj := { cls := .type "list", data := .seq vs.toArray }
/-- the script alone, if the module does not know it -/
def scrHp (K : PySem.W.Frag) (a : Addr) (vs : List Value) (ns : List Int) : Hp := fun b => if b = a ∧ (K.lookup a).isNone = true then some (.frz (scrObj vs) (.lst (ns.map V.int))) else none
theorem scr_some {b : Addr} {u : HO} (h : scrHp K a vs ns b = some u) : (b = a ∧ (K.lookup a).isNone = true) ∧ u = .frz (scrObj vs) (.lst (ns.map V.int)) := by
  unfold scrHp at h
  by_cases q : b = a ∧ (K.lookup a).isNone = true
  · rw [if_pos q] at h
    exact ⟨q, (Option.some.inj h).symm⟩
  · rw [if_neg q] at h
    cases h
theorem scr_off {b : Addr} (h : ¬ (b = a ∧ (K.lookup a).isNone = true)) : scrHp K a vs ns b = none := if_neg h
theorem scr_only : Only (scrHp K a vs ns) := fun b => by
  cases q : scrHp K a vs ns b with
  | none => exact .inl rfl
  | some u => exact .inr ⟨_, _, by rw [(scr_some q).2]⟩
theorem scr_sq (KX : K.In s₁.heap) (ha : s₁.heap.get? a = some (scrObj vs)) (rv : Vals (ns.map V.int) vs) (hlen : vs.length = ns.length) (hl : ns.length ≤ sizeLine) : SqL K (scrHp K a vs ns) a (ns.map V.int) := by
  cases q : K.lookup a with
  | none => exact .inl (.inr ⟨scrObj vs, if_pos ⟨rfl, by rw [q]; rfl⟩⟩)
  | some o =>
    have e := KX a o q
    rw [ha] at e
    cases e
    exact .inr ⟨_, vs.toArray, _, q, rfl, rfl, rfl, by simpa [hlen] using hl, by simpa using rv⟩
theorem law_true (KX : K.In s₁.heap) (hns : s₁.heap.Ns mainGlobals mg) (hb : s₁.heap.Ns builtinsNs mb) (hbb : ∀ x : Str, x ≠ "__name__" → mb x = bootBuiltins x) (hlim : s₁.heap.NoLimit) (hg : s₁.gens = #[])
    (ha : s₁.heap.get? a = some (scrObj vs)) (hi : IntsAre vs ns) (hl : ns.length ≤ sizeLine) (hr : Room k callerA)
    (F : ∀ base : Heap, K.In base → base.Ns mainGlobals mg → FnG P w K mg base CX k fa fd [x] sp) (hbind : ∀ (s : Shared) (u : Value), BindsTo s fd ⟨[u], []⟩ [(x, u)])
    (hsp : ∀ H : Hp, Only H → SqL K H a (ns.map V.int) → sp [.ref a] H (fun v _ => v = .bl true) fun _ _ _ => False) (hCX : ∀ H e s', CX [] H s₁ (fun _ _ _ => False) e s' → False) :
    codeAny (model P w) callerA (.call (.ref fa) ⟨[.ref a], []⟩) (fun r s' => r = .ok (.ret (.bool true)) ∧ OldK s₁.heap s'.heap ∧ s'.os = s₁.os ∧ AllBare s'.gens) s₁ := by
  have rv := vals_ints hi
  have hok : HOk P w (scrHp K a vs ns) s₁.heap := fun b u z => by
    obtain ⟨⟨rfl, _⟩, rfl⟩ := scr_some z
    exact ⟨ha, by rw [List.length_map]; exact hl, vs, _, rv, ha⟩
  have keepK : ∀ {b : Addr} {o : Obj}, K.lookup b = some o → (hidT s₁.heap (scrHp K a vs ns)).get? b = some o := fun {b o} e => hidT_get (KX b o e) (scr_off fun q => by
    obtain ⟨rfl, q2⟩ := q
    rw [e] at q2
    cases q2)
  have keepN : ∀ {b : Addr} {m : Str → Option Value}, s₁.heap.Ns b m → (hidT s₁.heap (scrHp K a vs ns)).Ns b m := by
    rintro b m ⟨o, es, ep, e, d, r⟩
    refine ⟨o, es, ep, hidT_get e (scr_off fun q => ?_), d, r⟩
    obtain ⟨rfl, _⟩ := q
    rw [ha] at e
    cases e
    cases (show Data.seq vs.toArray _ = Data.dict es ep from d)
  have inK : K.In (hidT s₁.heap (scrHp K a vs ns)) := fun b o e => keepK e
  have M : Mod K mg (hidT s₁.heap (scrHp K a vs ns)) := ⟨inK, keepN hns, ⟨mb, keepN hb, hbb⟩, by obtain ⟨mc, q1, q2⟩ := hlim; exact ⟨mc, keepN q1, q2⟩⟩
  have out : ∀ b : Addr, b ∉ ([] : List Addr) := fun b q => nomatch q
  have env : Env0 P w K mg (hidT s₁.heap (scrHp K a vs ns)) callerA [] s₁ (scrHp K a vs ns) := { frames := rfl, mod := M, bs := fun b o e => of_hidT e, bsz := Nat.le_of_eq (hidT_size _ _), funs := trivial, frf := fun b q => (out b q).elim, hok := hok, bare := .of_eq hg }
  have go := (F _ inK (keepN hns)).run callerA [] s₁ (scrHp K a vs ns) ⟨[.ref a], []⟩ [.ref a] [.ref a] _ _ rfl hr env (hbind s₁ (.ref a)) (.cons rfl .nil) (hsp _ scr_only (scr_sq KX ha rv hi.length hl))
  refine codeAny_mono go fun r s' h => ?_
  match r, h with
  | .error e, h => exact (hCX _ e s' h).elim
  | .ok .next, h => exact h.elim
  | .ok .brk, h => exact h.elim
  | .ok .cont, h => exact h.elim
  | .ok (.ret u), h =>
    obtain ⟨v, H', os, bare, un, hok', r', rfl⟩ := h
    cases r'
    refine ⟨rfl, OldK.of_keep fun b o e => ?_, os, bare⟩
    cases q : scrHp K a vs ns b with
    | none => exact un.keep b o e q (out b) (by simp)
    | some u =>
      have q2 := (scr_some q).2
      subst q2
      have z1 := (hok b _ q).1
      have z2 := (hok' b _ (un.frzs b _ _ q)).1
      rw [e] at z1
      cases z1
      exact z2
end
theorem walkG {l : PySem.W.OpenLaw} {n k : Nat} {q : Program} {loose : List Str} {XP : (Str → Option Value) → Heap → Prop} {YP : World → Heap → Prop} {d : DefRec} {K : Params → PySem.W.Frag} {CX : CXT} {sp : PySem.W.Frag → Sp} {x : Str}
    (hn : l.most = some n) (hn2 : n ≤ sizeLine) (hdf : d.params.defaults = []) (hr : Room k callerA) (hY : ∀ (w : World) (h : Heap), YP w h → (K w.params).In h)
    (F : ∀ (w : World) (mg : Str → Option Value) (fa : Addr) (h : Heap), (K w.params).In h → h.Ns mainGlobals mg → mg d.name = some (.ref fa) → ∃ fd : FuncData, (∀ (s : Shared) (u : Value), BindsTo s fd ⟨[u], []⟩ [(x, u)]) ∧ ∀ base : Heap, (K w.params).In base → base.Ns mainGlobals mg → FnG l.prog w (K w.params) mg base CX k fa fd [x] (sp (K w.params)))
    (hsp : ∀ (K : PySem.W.Frag) (H : Hp) (a : Addr) (ns : List Int), ns.length ≤ n → Only H → SqL K H a (ns.map V.int) → sp K [.ref a] H (fun v _ => v = .bl true) fun _ _ _ => False)
    (hCX : ∀ (H : Hp) (s : Shared) (e : Value) (s' : Shared), CX [] H s (fun _ _ _ => False) e s' → False) : PySem.W.WalkO q loose XP YP l.row.toRowW d [] (fun f vs => PySem.call f vs) :=
  Att.attach_call hn hdf fun w s₀ s₁ mg mb fa o pm cd doc a vs ns G Y ho hd hcd hmg hobj hints hlen hg => by
    have KX := hY w _ Y
    obtain ⟨fd, hb, hF⟩ := F w mg fa _ KX G.T.g hmg
    exact law_true KX G.T.g G.T.b G.T.builtins G.T.nolimit hg hobj hints (Nat.le_trans hlen hn2) hr hF hb (fun H hO hS => hsp _ H a ns hlen hO hS) fun H e s' => hCX H s₁ e s'
/-- a def called with keywords, no defaults -/
theorem kb_of {K : PySem.W.Frag} {x qual : Str} {st : Stmt} {f : Addr} {fd : FuncData} {ps ks : List Str} {n : Nat} {g : List Value → List Value → List Value} {gV : List V → List V → List V} (F : Fun K x qual st f fd)
    (h : ∀ (kV doc pm : Value) (an : Option Addr) (cdv ct : Value) (us ws : List Value), us.length = n → ws.length = ks.length → bindArgs (PySem.W.fnOf x qual (defArgs st) (defBody st) (defScope st) .none kV doc pm an cdv ct) ⟨us, ks.zip ws⟩ = pure (ps.zip (g us ws)))
    (hrel : ∀ {vs : List V} {us : List Value} {zs : List V} {ws : List Value}, Vals vs us → Vals zs ws → Vals (gV vs zs) (g us ws)) : KBn K fd ps n ks g gV := by
  obtain ⟨oc, od, kV, doc, pm, an, cdv, ct, osl, rfl, lk, hcd⟩ := F.ex
  exact ⟨fun s us ws _ h1 h2 => BindsTo.of_looks fun M => by rw [h kV doc pm an cdv ct us ws h1 h2]; exact PySem.W.Looks.now, hrel⟩
theorem vals_rev : ∀ {vs : List V} {us : List Value}, Vals vs us → Vals vs.reverse us.reverse
  | _, _, .nil => .nil
  | _, _, .cons a b => by rw [List.reverse_cons, List.reverse_cons]; exact (vals_rev b).append (.cons a .nil)
end G
end
section
set_option maxHeartbeats 2000000
/-! a head by facts of one's own: any Boolean question of the part of the heap that the module's names reach; each def as it stands at an address that the part tells -/
namespace Hd
open PySem PySem.Spec PyProof.Rows L2
abbrev Fc := PySem.W.Frag → Bool
/-- a def: where it stands, what it is -/
structure Df where
  at_ : PySem.W.Frag → Addr
  name : Str
  qual : Str
  params : Arguments
  body : List Stmt
  scope : Scope
  /-- has it defaults? -/
  dfl : Bool := false
def dflOf : Value → Option Bool
  | .none => some false
  | .ref _ => some true
  | _ => none
theorem dfl_no {v : Value} (h : dflOf v = some false) : v = .none := by
  cases v <;> first | rfl | cases h
def dflAt : Value → Addr
  | .ref a => a
  | _ => 0
theorem dfl_yes {v : Value} (h : dflOf v = some true) : v = .ref (dflAt v) := by
  cases v <;> first | rfl | cases h
abbrev DfV : Type := Option (Str × Str × Arguments × FuncBody × Scope × Addr × List (Str × Addr) × Option Bool × Addr)
def Df.obs (K : PySem.W.Frag) (d : Df) : DfV := match K.lookup (d.at_ K) with
  | some ⟨_, _, .func fd, _⟩ => some (fd.name, fd.qualname, fd.params, fd.body, fd.scope, fd.globals, fd.closure, dflOf fd.defaults, fd.builtins)
  | _ => none
def Df.val (d : Df) : DfV := some (d.name, d.qual, d.params, .stmts d.body, d.scope, mainGlobals, [], some d.dfl, builtinsNs)
def Df.code (d : Df) : Fc := fun K => match K.lookup (d.at_ K) with
  | some ⟨_, _, .func fd, _⟩ => PySem.W.codeIn K fd.code d.qual
  | _ => false
/-- a table with text keys: its keys and their hashes -/
def keysAt (a : PySem.W.Frag → Addr) (K : PySem.W.Frag) : List (Value × Int) := match K.lookup (a K) with
  | some ⟨_, _, .dict es _, _⟩ => es.toList.map fun e => (match e.key with
    | .str x _ => .str x 0
    | _ => .none, e.hash)
  | _ => []
abbrev Al : Type := Bool × List DfV × List (List (Value × Int))
def obs (fa : List Fc) (fn : List Df) (ks : List (PySem.W.Frag → Addr)) (K : PySem.W.Frag) : Al := ((fa.all fun f => f K) && fn.all fun d => d.code K, fn.map fun d => d.obs K, ks.map fun a => keysAt a K)
def val (fn : List Df) (xs : List (List Str)) (w : World) : Al := (true, fn.map Df.val, xs.map fun l => l.map fun x => (.str x 0, PyData.keyHash w.params x))
def Says (fa : List Fc) (fn : List Df) (ks : List (PySem.W.Frag → Addr)) (xs : List (List Str)) (w : World) (K : PySem.W.Frag) : Prop := obs fa fn ks K = val fn xs w
/-- the module's names, what the boot keeps of its own, and all that stands from lo on -/
def reach (lo sz : Nat) : List Addr := mainGlobals :: PySem.cStatics :: List.range' lo (sz - lo)
/-- the part of the heap: no tuples (but those of one number: defaults), no lists, and nothing that is not wanted -/
def kept (o : Obj) : Bool := match o.data with
  | .seq xs _ => match xs.toList with
    | [.int _ _] => true
    | _ => false
  | _ => true
def drop1 : List Addr → PySem.W.Frag → PySem.W.Frag
  | [], K => K
  | a :: as, K => drop1 as (K.filter fun p => !(p.1 == a))
def part (no : PySem.W.Frag → List Addr) (n sz : Nat) (g : Addr → Option Obj) : PySem.W.Frag := match (He.frG g (reach n sz)).filter fun p => kept p.2 with
  | K => drop1 (no K) K
theorem lookup_filter {q : Addr → Bool} : ∀ {K : PySem.W.Frag} {a : Addr} {o : Obj}, (K.filter fun p => q p.1).lookup a = some o → K.lookup a = some o
  | [], _, _, e => nomatch e
  | (b, u) :: K, a, o, e => by
    rw [List.filter_cons] at e
    by_cases hq : q b = true
    · rw [if_pos hq, List.lookup_cons] at e
      rw [List.lookup_cons]
      cases h : a == b with
      | true => rw [h] at e; exact e
      | false => rw [h] at e; exact lookup_filter e
    · rw [if_neg hq] at e
      rw [List.lookup_cons]
      cases h : a == b with
      | true =>
        exfalso
        have := lookup_filter e
        rw [← eq_of_beq h] at hq
        have key : ∀ {K : PySem.W.Frag}, (K.filter fun p => q p.1).lookup a = some o → q a = true := by
          intro K
          induction K with
          | nil => intro z; cases z
          | cons p K ih =>
            intro z
            rw [List.filter_cons] at z
            by_cases hp : q p.1 = true
            · rw [if_pos hp, List.lookup_cons] at z
              cases h2 : a == p.1 with
              | true => rw [eq_of_beq h2]; exact hp
              | false => rw [h2] at z; exact ih z
            · rw [if_neg hp] at z
              exact ih z
        exact hq (key e)
      | false => exact lookup_filter e
theorem kept_get {g : Addr → Option Obj} {a : Addr} {o : Obj} : ∀ as : List Addr, ((He.frG g as).filter fun p => kept p.2).lookup a = some o → g a = some o
  | [], e => nomatch e
  | b :: r, e => by
    unfold He.frG at e
    cases hb : g b with
    | none =>
      rw [List.filterMap_cons, hb] at e
      exact kept_get r e
    | some u =>
      rw [List.filterMap_cons, hb] at e
      have e : (((b, u) :: He.frG g r).filter fun p => kept p.2).lookup a = some o := e
      rw [List.filter_cons] at e
      split at e
      · rw [List.lookup_cons] at e
        cases h : a == b with
        | true =>
          rw [h] at e
          rw [eq_of_beq h, hb]
          exact e
        | false =>
          rw [h] at e
          exact kept_get r e
      · exact kept_get r e
theorem lookup_drop : ∀ (as : List Addr) {K : PySem.W.Frag} {a : Addr} {o : Obj}, (drop1 as K).lookup a = some o → K.lookup a = some o
  | [], _, _, _, e => e
  | b :: as, _, _, _, e => lookup_filter (q := fun c => !(c == b)) (lookup_drop as e)
theorem part_in {no : PySem.W.Frag → List Addr} {n sz : Nat} {h : Heap} : (part no n sz h.get?).In h := fun a o e =>
  kept_get (reach n sz) (lookup_drop (no ((He.frG h.get? (reach n sz)).filter fun p => kept p.2)) e)
def hook (no : PySem.W.Frag → List Addr) (n : Nat) (fa : List Fc) (fn : List Df) (ks : List (PySem.W.Frag → Addr)) (xs : List (List Str)) : PySem.W.Hook where
  α := Al
  obs := fun s => obs fa fn ks (part no n s.heap.objs.size s.heap.get?)
  val := val fn xs
  says := fun w h => ∃ K : PySem.W.Frag, K.In h ∧ Says fa fn ks xs w K
  of := fun _ _ e => ⟨_, part_in, e⟩
  keeps := fun _ _ _ ⟨K, hK, c⟩ k => ⟨K, PySem.W.Frag.In.keeps hK k, c⟩
def look (no : PySem.W.Frag → List Addr) (n : Nat) (fa : List Fc) (fn : List Df) (ks : List (PySem.W.Frag → Addr)) (s : PySem.W.SharedT) : Al := obs fa fn ks (part no n s.n (HandSHeadRun.getT s))
theorem look_eq (no : PySem.W.Frag → List Addr) (n : Nat) (fa : List Fc) (fn : List Df) (ks : List (PySem.W.Frag → Addr)) (xs : List (List Str)) (s : PySem.W.SharedT) : look no n fa fn ks s = (hook no n fa fn ks xs).obs s.abs := by
  have e : HandSHeadRun.getT s = s.abs.heap.get? := funext (HandSHeadRun.getT_eq s)
  have e2 : s.abs.heap.objs.size = s.n := PySem.W.absHeap_size _ _ _
  show obs fa fn ks (part no n s.n (HandSHeadRun.getT s)) = obs fa fn ks (part no n s.abs.heap.objs.size s.abs.heap.get?)
  rw [e, e2]
section
variable {fa : List Fc} {fn : List Df} {ks : List (PySem.W.Frag → Addr)} {xs : List (List Str)} {w : World} {K : PySem.W.Frag}
theorem Says.all (c : Says fa fn ks xs w K) : (∀ f ∈ fa, f K = true) ∧ ∀ d ∈ fn, d.code K = true := by
  have q : ((fa.all fun f => f K) && fn.all fun d => d.code K) = true := congrArg (fun z : Al => z.1) c
  rw [Bool.and_eq_true, List.all_eq_true, List.all_eq_true] at q
  exact q
theorem Says.fact (c : Says fa fn ks xs w K) (i : Nat) {f : Fc} (h : fa[i]? = some f := by rfl) : f K = true := c.all.1 f (List.mem_of_getElem? h)
/-- the tuple of a def's defaults -/
def dflRef (K : PySem.W.Frag) (a : Addr) : Addr := match K.lookup a with
  | some ⟨_, _, .func fd, _⟩ => dflAt fd.defaults
  | _ => 0
theorem Says.defV (c : Says fa fn ks xs w K) (i : Nat) {d : Df} (h : fn[i]? = some d) :
    ∃ oc od sl dv kV dc pm an cd ct, K.lookup (d.at_ K) = some ⟨oc, od, .func (PySem.W.fnOf d.name d.qual d.params d.body d.scope dv kV dc pm an cd ct), sl⟩ ∧ dflOf dv = some d.dfl ∧ PySem.W.codeIn K cd d.qual = true := by
  have e : fn.map (fun d => d.obs K) = fn.map Df.val := congrArg (fun z : Al => z.2.1) c
  have e2 : (fn.map fun d => d.obs K)[i]? = (fn.map Df.val)[i]? := by rw [e]
  rw [List.getElem?_map, List.getElem?_map, h] at e2
  have e3 : d.obs K = d.val := Option.some.inj e2
  have e4 := c.all.2 d (List.mem_of_getElem? h)
  unfold Df.obs at e3
  unfold Df.code at e4
  cases q : K.lookup (d.at_ K) with
  | none => rw [q] at e4; cases e4
  | some o =>
    obtain ⟨oc, od, dt, sl⟩ := o
    rw [q] at e3 e4
    cases dt with
    | func fd =>
      obtain ⟨n1, n2, n3, n4, n5, n6, n7, n8, n9, n10, n11, n12, n13, n14, n15⟩ := fd
      have e5 : (some (n1, n2, n3, n4, n5, n6, n7, dflOf n8, n15) : DfV) = some (d.name, d.qual, d.params, .stmts d.body, d.scope, mainGlobals, [], some d.dfl, builtinsNs) := e3
      simp only [Option.some.injEq, Prod.mk.injEq] at e5
      obtain ⟨rfl, rfl, rfl, rfl, rfl, rfl, rfl, hd, rfl⟩ := e5
      exact ⟨oc, od, sl, n8, n9, n10, n11, n12, n13, n14, rfl, hd, e4⟩
    | _ => cases e4
theorem Says.def_ (c : Says fa fn ks xs w K) (i : Nat) {d : Df} (h : fn[i]? = some d := by rfl) (hd : d.dfl = false := by rfl) :
    ∃ oc od sl kV dc pm an cd ct, K.lookup (d.at_ K) = some ⟨oc, od, .func (PySem.W.fnOf d.name d.qual d.params d.body d.scope .none kV dc pm an cd ct), sl⟩ ∧ PySem.W.codeIn K cd d.qual = true := by
  obtain ⟨oc, od, sl, dv, kV, dc, pm, an, cd, ct, h1, h2, h3⟩ := c.defV i h
  rw [hd] at h2
  cases dfl_no h2
  exact ⟨oc, od, sl, kV, dc, pm, an, cd, ct, h1, h3⟩
/-- a def with defaults -/
theorem Says.defD (c : Says fa fn ks xs w K) (i : Nat) {d : Df} (h : fn[i]? = some d := by rfl) (hd : d.dfl = true := by rfl) :
    ∃ oc od sl kV dc pm an cd ct, K.lookup (d.at_ K) = some ⟨oc, od, .func (PySem.W.fnOf d.name d.qual d.params d.body d.scope (.ref (dflRef K (d.at_ K))) kV dc pm an cd ct), sl⟩ ∧ PySem.W.codeIn K cd d.qual = true := by
  obtain ⟨oc, od, sl, dv, kV, dc, pm, an, cd, ct, h1, h2, h3⟩ := c.defV i h
  rw [hd] at h2
  have e : dflRef K (d.at_ K) = dflAt dv := by unfold dflRef; rw [h1]
  rw [e, ← dfl_yes h2]
  exact ⟨oc, od, sl, kV, dc, pm, an, cd, ct, h1, h3⟩
end
/-! ### questions and what they tell -/
def valOf : Option (Option Value) → Value
  | some (some v) => v
  | _ => .none
def isInt (i : Int) : Option (Option Value) → Bool
  | some (some (.int j _)) => decide (j = i)
  | _ => false
theorem isInt_ok {i : Int} {v : Option (Option Value)} (h : isInt i v = true) : ∃ t, v = some (some (.int i t)) := by
  unfold isInt at h
  split at h
  · exact ⟨_, by rw [of_decide_eq_true h]⟩
  · cases h
def isStr (x : Str) : Option (Option Value) → Bool
  | some (some (.str y _)) => decide (y = x)
  | _ => false
theorem isStr_ok {x : Str} {v : Option (Option Value)} (h : isStr x v = true) : ∃ t, v = some (some (.str x t)) := by
  unfold isStr at h
  split at h
  · exact ⟨_, by rw [of_decide_eq_true h]⟩
  · cases h
/-- the object at an address that the part tells -/
def refOf : Option (Option Value) → Addr
  | some (some (.ref a)) => a
  | _ => 0
def isRef : Option (Option Value) → Bool
  | some (some (.ref _)) => true
  | _ => false
theorem isRef_ok {v : Option (Option Value)} (h : isRef v = true) : v = some (some (.ref (refOf v))) := by
  unfold isRef at h
  split at h
  · rfl
  · cases h
def isDict (K : PySem.W.Frag) (a : Addr) : Bool := match K.lookup a with
  | some ⟨.type c, none, .dict _ _, sl⟩ => decide (c = "dict") && decide (sl = #[])
  | _ => false
theorem isDict_ok {K : PySem.W.Frag} {a : Addr} (h : isDict K a = true) : ∃ es n, K.lookup a = some ⟨.type "dict", none, .dict es n, #[]⟩ := by
  unfold isDict at h
  split at h
  · rename_i c es n sl e
    rw [Bool.and_eq_true, decide_eq_true_eq, decide_eq_true_eq] at h
    exact ⟨es, n, by rw [e, h.1, h.2]⟩
  · cases h
/-- the keys of a table -/
theorem keys_ok {w : World} : ∀ (es : List DictEntry) (xs : List Str), (es.map fun e => ((match e.key with
    | .str x _ => .str x 0
    | _ => .none : Value), e.hash)) = (xs.map fun x => (Value.str x 0, PyData.keyHash w.params x)) → PySem.W.KeysLit w.params es
  | [], _, _ => trivial
  | e :: es, [], h => nomatch h
  | e :: es, x :: xs, h => by
    rw [List.map_cons, List.map_cons] at h
    injection h with h1 h2
    refine ⟨?_, keys_ok es xs h2⟩
    injection h1 with h3 h4
    split at h3
    · rename_i y t e1
      injection h3 with h5
      subst h5
      exact ⟨_, t, e1, h4⟩
    · cases h3
theorem Says.keys {fa : List Fc} {fn : List Df} {ks : List (PySem.W.Frag → Addr)} {xs : List (List Str)} {w : World} {K : PySem.W.Frag} (c : Says fa fn ks xs w K) (i : Nat) {a : PySem.W.Frag → Addr} {l : List Str} {es : Array DictEntry} {n : Nat}
    (e : K.lookup (a K) = some ⟨.type "dict", none, .dict es n, #[]⟩) (h : ks[i]? = some a := by rfl) (hx : xs[i]? = some l := by rfl) : PySem.W.KeysLit w.params es.toList := by
  have q : ks.map (fun a => keysAt a K) = xs.map fun l => l.map fun x => (Value.str x 0, PyData.keyHash w.params x) := congrArg (fun z : Al => z.2.2) c
  have q2 : (ks.map fun a => keysAt a K)[i]? = (xs.map fun l => l.map fun x => (Value.str x 0, PyData.keyHash w.params x))[i]? := by rw [q]
  rw [List.getElem?_map, List.getElem?_map, h, hx] at q2
  have q3 : keysAt a K = l.map fun x => (Value.str x 0, PyData.keyHash w.params x) := Option.some.inj q2
  unfold keysAt at q3
  rw [e] at q3
  exact keys_ok _ _ q3
def isRec (K : PySem.W.Frag) (p : Addr) (T : String) : Bool := match PySem.W.recIn K p T with
  | some (.ref _ :: _) => true
  | _ => false
def recOf (K : PySem.W.Frag) (p : Addr) (T : String) : Addr := match PySem.W.recIn K p T with
  | some (.ref f :: _) => f
  | _ => 0
theorem isRec_ok {K : PySem.W.Frag} {p : Addr} {T : String} (h : isRec K p T = true) : ∃ rs, PySem.W.recIn K p T = some (.ref (recOf K p T) :: rs) := by
  unfold isRec at h
  unfold recOf
  split at h
  · rename_i f rs e
    exact ⟨rs, by rw [e]⟩
  · cases h
def isClsInt (i : Int) : Option PySem.W.CFound → Bool
  | some (.val (.int j _)) => decide (j = i)
  | _ => false
theorem isClsInt_ok {i : Int} {v : Option PySem.W.CFound} (h : isClsInt i v = true) : ∃ t, v = some (.val (.int i t)) := by
  unfold isClsInt at h
  split at h
  · exact ⟨_, by rw [of_decide_eq_true h]⟩
  · cases h
/-- a class method -/
def clsRef : Option PySem.W.CFound → Addr
  | some (.get _ (.ref p) _ _) => p
  | _ => 0
def isClsGet (C : Addr) : Option PySem.W.CFound → Bool
  | some (.get (.builtin n) (.ref _) .none (.ref c)) => decide (n = "classmethod.__get__") && decide (c = C)
  | _ => false
theorem isClsGet_ok {C : Addr} {v : Option PySem.W.CFound} (h : isClsGet C v = true) : v = some (.get (.builtin "classmethod.__get__") (.ref (clsRef v)) .none (.ref C)) := by
  unfold isClsGet at h
  split at h
  · rw [Bool.and_eq_true, decide_eq_true_eq, decide_eq_true_eq] at h
    rw [h.1, h.2]
    rfl
  · cases h
/-- a tuple of one number -/
def isTup1 (i : Int) (K : PySem.W.Frag) (a : Addr) : Bool := match K.lookup a with
  | some ⟨.type c, none, .seq ⟨[.int j _]⟩ _, sl⟩ => decide (c = "tuple") && decide (j = i) && decide (sl = #[])
  | _ => false
theorem isTup1_ok {i : Int} {K : PySem.W.Frag} {a : Addr} (h : isTup1 i K a = true) : ∃ tk n, K.lookup a = some ⟨.type "tuple", none, .seq #[.int i tk] n, #[]⟩ := by
  unfold isTup1 at h
  split at h
  · rename_i c j tk n sl e
    simp only [Bool.and_eq_true, decide_eq_true_eq] at h
    obtain ⟨⟨rfl, rfl⟩, rfl⟩ := h
    exact ⟨tk, n, e⟩
  · cases h
theorem yes {a : Option Bool} (h : decide (a = some true) = true) : a = some true := of_decide_eq_true h
theorem isnt {a b : Addr} (h : (!(a == b)) = true) : (a == b) = false := by
  cases q : a == b with
  | true => rw [q] at h; cases h
  | false => rfl
/-! ### the end -/
theorem walkE {l : PySem.W.OpenLaw} {n k : Nat} {q : Program} {loose : List Str} {XP : (Str → Option Value) → Heap → Prop} {YP : World → Heap → Prop} {d : DefRec} {CX : CXT} {sp : PySem.W.Frag → Sp} {x : Str}
    (hn : l.most = some n) (hn2 : n ≤ sizeLine) (hdf : d.params.defaults = []) (hr : Room k callerA)
    (F : ∀ (w : World) (mg : Str → Option Value) (fa : Addr) (h : Heap), YP w h → h.Ns mainGlobals mg → mg d.name = some (.ref fa) →
      ∃ (K : PySem.W.Frag) (fd : FuncData), K.In h ∧ (∀ (s : Shared) (u : Value), BindsTo s fd ⟨[u], []⟩ [(x, u)]) ∧ ∀ base : Heap, K.In base → base.Ns mainGlobals mg → G.FnG l.prog w K mg base CX k fa fd [x] (sp K))
    (hsp : ∀ (K : PySem.W.Frag) (H : Hp) (a : Addr) (ns : List Int), ns.length ≤ n → Only H → SqL K H a (ns.map V.int) → sp K [.ref a] H (fun v _ => v = .bl true) fun _ _ _ => False)
    (hCX : ∀ (H : Hp) (s : Shared) (e : Value) (s' : Shared), CX [] H s (fun _ _ _ => False) e s' → False) : PySem.W.WalkO q loose XP YP l.row.toRowW d [] (fun f vs => PySem.call f vs) :=
  Att.attach_call hn hdf fun w s₀ s₁ mg mb fa o pm cd doc a vs ns G Y ho hd hcd hmg hobj hints hlen hg => by
    obtain ⟨K, fd, KX, hb, hF⟩ := F w mg fa _ Y G.T.g hmg
    exact _root_.G.law_true KX G.T.g G.T.b G.T.builtins G.T.nolimit hg hobj hints (Nat.le_trans hlen hn2) hr hF hb (fun H hO hS => hsp _ H a ns hlen hO hS) fun H e s' => hCX H s₁ e s'
/-! ### classes of exceptions -/
/-- the i-th of a class's line, a class of the program's own -/
def mroRef (K : PySem.W.Frag) (C : Addr) (i : Nat) : Addr := match K.lookup C with
  | some ⟨_, _, .cls c, _⟩ => match c.mro[i]? with
    | some (.ref a) => a
    | _ => 0
  | _ => 0
def isExc (K : PySem.W.Frag) (C : Addr) (bm : List Value) (newId : String) : Bool := match K.lookup C with
  | some ⟨.type t, _, .cls c, sl⟩ => decide (t = "type") && decide (c.mro = .ref C :: bm) && c.hasDict && !c.hasDel && decide (sl.size = 6) && decide (sl.toList[4]? = some (some (.builtin newId)))
  | _ => false
theorem isExc_ok {K : PySem.W.Frag} {C : Addr} {bm : List Value} {newId : String} (h : isExc K C bm newId = true) :
    ∃ nm q N bs sn sub ab col dd k0 k1 k2 k3 k5, K.lookup C = some (excClassObj nm q C N bs bm true sn sub ab col dd k0 k1 k2 k3 k5 newId) := by
  unfold isExc at h
  split at h
  · rename_i t dd c sl e
    simp only [Bool.and_eq_true, decide_eq_true_eq, Bool.not_eq_true'] at h
    obtain ⟨⟨⟨⟨⟨h1, h2⟩, h3⟩, h4⟩, h5⟩, h6⟩ := h
    obtain ⟨nm, bs, mro, N, q, hd, sn, sub, ab, col, hdel⟩ := c
    obtain ⟨l⟩ := sl
    dsimp only at h2 h3 h4 h5 h6
    subst h1 h2 h3 h4
    match l, h5, h6 with
    | [k0, k1, k2, k3, k4, k5], _, h6 =>
      have h6 : some k4 = some (some (Value.builtin newId)) := h6
      cases h6
      exact ⟨nm, q, N, bs, sn, sub, ab, col, dd, k0, k1, k2, k3, k5, e⟩
  · cases h
/-! ### the run's equation, part by part: each part runs the top anew -/
section
open HandSHeadRun PySem.W
variable (r : OpenRow) (q : Program) (M : Nat) (loose : List PySem.Str) (w : World)
noncomputable def fin (os : OsState) : Option SharedT := endF (stepQ (denQ tabQ) r.prog w) M r.prog w os
noncomputable def sq (s : SharedT) := seenQ q loose (importedModules r.prog.main.body) (fun s => xlAt q [] s && recOk r.toRowW.records s) s.abs
def RunA : Prop := ∀ os, (fin r M w os).map (fun s => (looksF r.prog (boot_heap w.params) s.abs, (sq r q loose s).1, (sq r q loose s).2.1, (sq r q loose s).2.2.1, (sq r q loose s).2.2.2.1)) = some (true, (openGood q loose).1, (openGood q loose).2.1, (openGood q loose).2.2.1, (openGood q loose).2.2.2.1)
def RunB : Prop := ∀ os, (fin r M w os).map (fun s => (sq r q loose s).2.2.2.2) = some (openGood q loose).2.2.2.2
/-- the part of the heap behind the run -/
def Kt (no : PySem.W.Frag → List Addr) (n : Nat) (s : SharedT) : PySem.W.Frag := part no n s.n (getT s)
def RunF (no : PySem.W.Frag → List Addr) (n : Nat) (fs : List Fc) : Prop := ∀ os, (fin r M w os).map (fun s => fs.all fun f => f (Kt no n s)) = some true
def RunN (no : PySem.W.Frag → List Addr) (n : Nat) (fn : List Df) (ks : List (PySem.W.Frag → Addr)) (xs : List (List Str)) : Prop := ∀ os, (fin r M w os).map (fun s => (fn.all fun d => d.code (Kt no n s), fn.map fun d => d.obs (Kt no n s), ks.map fun a => keysAt a (Kt no n s))) = some (true, fn.map Df.val, xs.map fun l => l.map fun x => (.str x 0, PyData.keyHash w.params x))
variable {r q M loose w}
theorem RunF.app {no : PySem.W.Frag → List Addr} {n : Nat} {fs gs : List Fc} (a : RunF r M w no n fs) (b : RunF r M w no n gs) : RunF r M w no n (fs ++ gs) := fun os => by
  obtain ⟨s, hs, ha⟩ := Option.map_eq_some_iff.mp (a os)
  have hb := b os
  rw [hs] at hb ⊢
  have hb : (gs.all fun f => f (Kt no n s)) = true := Option.some.inj hb
  show some ((fs ++ gs).all fun f => f (Kt no n s)) = some true
  rw [List.all_append, ha, hb]
  rfl
theorem RunN.app {no : PySem.W.Frag → List Addr} {n : Nat} {fn gn : List Df} {ks js : List (PySem.W.Frag → Addr)} {xs ys : List (List Str)} (a : RunN r M w no n fn ks xs) (b : RunN r M w no n gn js ys) : RunN r M w no n (fn ++ gn) (ks ++ js) (xs ++ ys) := fun os => by
  obtain ⟨s, hs, ha⟩ := Option.map_eq_some_iff.mp (a os)
  have hb := b os
  rw [hs] at hb ⊢
  have hb := Option.some.inj hb
  have a1 := congrArg (fun z : Al => z.1) ha
  have a2 := congrArg (fun z : Al => z.2.1) ha
  have a3 := congrArg (fun z : Al => z.2.2) ha
  have b1 := congrArg (fun z : Al => z.1) hb
  have b2 := congrArg (fun z : Al => z.2.1) hb
  have b3 := congrArg (fun z : Al => z.2.2) hb
  dsimp only at a1 a2 a3 b1 b2 b3
  show some (((fn ++ gn).all fun d => d.code (Kt no n s)), (fn ++ gn).map (fun d => d.obs (Kt no n s)), (ks ++ js).map fun a => keysAt a (Kt no n s)) = some _
  rw [List.all_append, List.map_append, List.map_append, List.map_append, List.map_append, a1, a2, a3, b1, b2, b3]
  rfl
theorem RunN.app0 {no : PySem.W.Frag → List Addr} {n : Nat} {fn gn : List Df} {js : List (PySem.W.Frag → Addr)} {ys : List (List Str)} (a : RunN r M w no n fn [] []) (b : RunN r M w no n gn js ys) : RunN r M w no n (fn ++ gn) js ys := RunN.app (ks := []) (xs := []) a b
theorem run_join {no : PySem.W.Frag → List Addr} {n : Nat} {fa : List Fc} {fn : List Df} {ks : List (PySem.W.Frag → Addr)} {xs : List (List Str)} (a : RunA r q M loose w) (b : RunB r q M loose w) (c : RunF r M w no n fa) (d : RunN r M w no n fn ks xs) : RunEq r q (hook no n fa fn ks xs) (look no n fa fn ks) M loose w := fun os => by
  obtain ⟨s, hs, ha⟩ := Option.map_eq_some_iff.mp (a os)
  have hb := b os
  have hc := c os
  have hd := d os
  rw [hs] at hb hc hd
  have hb := Option.some.inj hb
  have hc : (fa.all fun f => f (Kt no n s)) = true := Option.some.inj hc
  have hd := Option.some.inj hd
  have h0 : (endF (stepQ (denQ tabQ) r.prog w) M r.prog w os) = some s := hs
  rw [h0]
  have key : sq r q loose s = openGood q loose := Prod.ext (congrArg (·.2.1) ha) (Prod.ext (congrArg (·.2.2.1) ha) (Prod.ext (congrArg (·.2.2.2.1) ha) (Prod.ext (congrArg (·.2.2.2.2) ha) hb)))
  have d1 := congrArg (fun z : Al => z.1) hd
  have d2 := congrArg (fun z : Al => z.2) hd
  dsimp only at d1 d2
  have ho : look no n fa fn ks s = val fn xs w := by
    show ((fa.all fun f => f (Kt no n s)) && fn.all fun d => d.code (Kt no n s), fn.map fun d => d.obs (Kt no n s), ks.map fun a => keysAt a (Kt no n s)) = _
    rw [hc, d1, d2]
    rfl
  exact congrArg some (Prod.ext (congrArg (·.1) ha) (Prod.ext key ho))
end
end Hd
end
section
set_option maxHeartbeats 2000000
/-! the same for a program with imports at its head: boot, imports, fences and top are run; each part runs all anew -/
namespace Hi
open PySem PySem.Spec PyProof.Rows L2 Hd
section
open HandSHeadRun PySem.W
variable (r : OpenRow) (q : Program) (M : Nat) (loose : List PySem.Str) (w : World)
noncomputable def fin : Option (Shared × SharedT) := wholeF (fun p => stepQ (denQ tabQ) p w) fenceQ M r.prog
def RunA : Prop := (fin r M w).map (fun x => (looksF r.prog x.1.heap x.2.abs, (sq r q loose x.2).1, (sq r q loose x.2).2.1, (sq r q loose x.2).2.2.1, (sq r q loose x.2).2.2.2.1)) = some (true, (openGood q loose).1, (openGood q loose).2.1, (openGood q loose).2.2.1, (openGood q loose).2.2.2.1)
def RunB : Prop := (fin r M w).map (fun x => (sq r q loose x.2).2.2.2.2) = some (openGood q loose).2.2.2.2
def RunF (no : PySem.W.Frag → List Addr) (n : Nat) (fs : List Fc) : Prop := (fin r M w).map (fun x => fs.all fun f => f (Kt no n x.2)) = some true
def RunN (no : PySem.W.Frag → List Addr) (n : Nat) (fn : List Df) (ks : List (PySem.W.Frag → Addr)) (xs : List (List Str)) : Prop := (fin r M w).map (fun x => (fn.all fun d => d.code (Kt no n x.2), fn.map fun d => d.obs (Kt no n x.2), ks.map fun a => keysAt a (Kt no n x.2))) = some (true, fn.map Df.val, xs.map fun l => l.map fun x => (.str x 0, PyData.keyHash w.params x))
variable {r q M loose w}
theorem RunF.app {no : PySem.W.Frag → List Addr} {n : Nat} {fs gs : List Fc} (a : RunF r M w no n fs) (b : RunF r M w no n gs) : RunF r M w no n (fs ++ gs) := by
  obtain ⟨x, hs, ha⟩ := Option.map_eq_some_iff.mp a
  unfold RunF at b ⊢
  rw [hs] at b ⊢
  have hb : (gs.all fun f => f (Kt no n x.2)) = true := Option.some.inj b
  show some ((fs ++ gs).all fun f => f (Kt no n x.2)) = some true
  rw [List.all_append, ha, hb]
  rfl
theorem RunN.app {no : PySem.W.Frag → List Addr} {n : Nat} {fn gn : List Df} {ks js : List (PySem.W.Frag → Addr)} {xs ys : List (List Str)} (a : RunN r M w no n fn ks xs) (b : RunN r M w no n gn js ys) : RunN r M w no n (fn ++ gn) (ks ++ js) (xs ++ ys) := by
  obtain ⟨x, hs, ha⟩ := Option.map_eq_some_iff.mp a
  unfold RunN at b ⊢
  rw [hs] at b ⊢
  have hb := Option.some.inj b
  have a1 := congrArg (fun z : Al => z.1) ha
  have a2 := congrArg (fun z : Al => z.2.1) ha
  have a3 := congrArg (fun z : Al => z.2.2) ha
  have b1 := congrArg (fun z : Al => z.1) hb
  have b2 := congrArg (fun z : Al => z.2.1) hb
  have b3 := congrArg (fun z : Al => z.2.2) hb
  dsimp only at a1 a2 a3 b1 b2 b3
  show some (((fn ++ gn).all fun d => d.code (Kt no n x.2)), (fn ++ gn).map (fun d => d.obs (Kt no n x.2)), (ks ++ js).map fun a => keysAt a (Kt no n x.2)) = some _
  rw [List.all_append, List.map_append, List.map_append, List.map_append, List.map_append, a1, a2, a3, b1, b2, b3]
  rfl
theorem RunN.app0 {no : PySem.W.Frag → List Addr} {n : Nat} {fn gn : List Df} {js : List (PySem.W.Frag → Addr)} {ys : List (List Str)} (a : RunN r M w no n fn [] []) (b : RunN r M w no n gn js ys) : RunN r M w no n (fn ++ gn) js ys := RunN.app (ks := []) (xs := []) a b
theorem run_join {no : PySem.W.Frag → List Addr} {n : Nat} {fa : List Fc} {fn : List Df} {ks : List (PySem.W.Frag → Addr)} {xs : List (List Str)} (a : RunA r q M loose w) (b : RunB r q M loose w) (c : RunF r M w no n fa) (d : RunN r M w no n fn ks xs) : RunEqI r q (hook no n fa fn ks xs) (look no n fa fn ks) M loose w := by
  obtain ⟨x, hs, ha⟩ := Option.map_eq_some_iff.mp a
  unfold RunB at b
  unfold RunF at c
  unfold RunN at d
  rw [hs] at b c d
  have hb := Option.some.inj b
  have hc : (fa.all fun f => f (Kt no n x.2)) = true := Option.some.inj c
  have hd := Option.some.inj d
  have h0 : wholeF (fun p => stepQ (denQ tabQ) p w) fenceQ M r.prog = some x := hs
  unfold RunEqI
  rw [h0]
  have key : sq r q loose x.2 = openGood q loose := Prod.ext (congrArg (·.2.1) ha) (Prod.ext (congrArg (·.2.2.1) ha) (Prod.ext (congrArg (·.2.2.2.1) ha) (Prod.ext (congrArg (·.2.2.2.2) ha) hb)))
  have d1 := congrArg (fun z : Al => z.1) hd
  have d2 := congrArg (fun z : Al => z.2) hd
  dsimp only at d1 d2
  have ho : look no n fa fn ks x.2 = val fn xs w := by
    show ((fa.all fun f => f (Kt no n x.2)) && fn.all fun d => d.code (Kt no n x.2), fn.map fun d => d.obs (Kt no n x.2), ks.map fun a => keysAt a (Kt no n x.2)) = _
    rw [hc, d1, d2]
    rfl
  exact congrArg some (Prod.ext (congrArg (·.1) ha) (Prod.ext key ho))
end
end Hi
end
section
set_option maxHeartbeats 4000000
/-! the end of a law, one of whose defs makes lambdas; loops over range where tables of code objects grow -/
namespace Ht
open PySem L2 Evl G TM TD LamX
theorem tabs_upd {T : List (Addr × Str)} {H : Hp} {D : Addr} {xs : List V} {o : HO} (hT : Tabs T H) (hD : H D = some (.lst xs)) : Tabs T (upd H D o) := fun q hq => by
  obtain ⟨ps, h1, h2, h3⟩ := hT q hq
  refine ⟨ps, by rw [upd_ne fun z => by rw [z, hD] at h1; cases h1]; exact h1, h2, fun pos cv hc => ?_⟩
  obtain ⟨c, e1, e2⟩ := h3 pos cv hc
  refine ⟨c, e1, ?_⟩
  rw [upd_ne fun z => by rw [z, hD] at e2; unfold CodeO at e2; cases e2]
  exact e2
theorem exN_mut {H H1 : Hp} {D : Addr} {o : HO} (e : ExtN H H1) (hD : H D = none) : ExtN H (upd H1 D o) := fun b u hb n => by
  rw [upd_ne (ne_of_none hb hD)]
  exact e b u hb n
/-- [e for i in range(n)], e true, the tables of code objects changing -/
theorem lc_tab {ta : TA} {te : TE} {j : Nat} {vs : List Nat} {n : Int} {σ : L2.St} {H : Hp} {Q : VK} {T : List (Addr × Str)} (h : EvA ta σ H [.int n]) (hn : 0 ≤ n ∧ n ≤ 100) (hw : ∀ x, wipe ((wipe σ vs).set j (some x)) vs = wipe σ vs) (hT : Tabs T H)
    (he : ∀ (i : Nat) H1, ExtN H H1 → Tabs T H1 → (i : Int) < n → ∀ Q' : VK, (∀ H2, ExtN H1 H2 → Tabs T H2 → Q' (.bl true) H2) → te ((wipe σ vs).set j (some (.int (i : Int)))) H1 Q')
    (k : ∀ (D : Addr) (H2 : Hp) (m : Nat), ExtN H H2 → H2 D = some (.lst ((List.replicate m true).map V.bl)) → Q (.ref D) H2) : tLc (iRng1 ta) (gName j) tYes te vs σ H Q :=
  h H (Ex.refl _) _ fun H1 e1 => ⟨n, rfl, by omega, by omega, fun Dl hD => by
    refine lc_range (lo := 0) (n := n.toNat) (fun i H' => ExtN H H' ∧ Tabs T H' ∧ H' Dl = some (.lst ((List.replicate i true).map V.bl))) ⟨exN_mut (.of e1) (fresh_back e1 hD), ?_, upd_same⟩ (fun i H' hi h => ?_) (fun H' h => k Dl H' _ h.1 h.2.2)
    · exact (hT.ext e1).ext fun b o hb => by rw [upd_ne (ne_of_none hb hD)]; exact hb
    · obtain ⟨x1, x2, x3⟩ := h
      have e0 : (0 : Int) + (i : Int) = (i : Int) := Int.zero_add _
      rw [e0]
      refine ⟨hw _, ?_⟩
      unfold tYes
      refine iteT ?_
      refine he i H' x1 x2 (by omega) _ fun H2 e2 T2 => ?_
      have h2 : H2 Dl = some (.lst ((List.replicate i true).map V.bl)) := e2 _ _ x3 fun ps z => by cases z
      refine ⟨_, h2, sz_lt (by rw [List.length_map, List.length_replicate]; omega), exN_mut (x1.trans e2) (fresh_back e1 hD), tabs_upd T2 h2, ?_⟩
      rw [upd_same, List.replicate_succ', List.map_append] <;> rfl⟩
/-! ### the end, where two defs make lambdas and no repr is running -/
section
open PyProof.Rows
variable {P : Program} {w : World} {K : PySem.W.Frag} {mg mb : Str → Option Value} {CX : CXT} {k : Nat} {fa a : Addr} {fd : FuncData} {x : Str} {sp : Sp} {s₁ : Shared} {vs : List Value} {ns : List Int} {cs : List (Addr × Addr)}
/-- the script, and empty tables at T -/
noncomputable def scrTb (K : PySem.W.Frag) (a : Addr) (vs : List Value) (ns : List Int) (T : List Addr) : Hp := fun b => open Classical in if b ∈ T then some (.tbl #[]) else scrHp K a vs ns b
theorem scrTb_in {T : List Addr} {b : Addr} (h : b ∈ T) : scrTb K a vs ns T b = some (.tbl #[]) := if_pos h
theorem scrTb_out {T : List Addr} {b : Addr} (h : b ∉ T) : scrTb K a vs ns T b = scrHp K a vs ns b := if_neg h
theorem law_trueT (KX : K.In s₁.heap) (hns : s₁.heap.Ns mainGlobals mg) (hb : s₁.heap.Ns builtinsNs mb) (hbb : ∀ x : Str, x ≠ "__name__" → mb x = bootBuiltins x) (hlim : s₁.heap.NoLimit) (hg : s₁.gens = #[])
    (tT : ∀ q ∈ cs, s₁.heap.get? q.2 = some { cls := .none, data := .fields #[] }) (nK : ∀ q ∈ cs, K.lookup q.2 = none) (hC : ∀ q ∈ cs, PySem.W.CodeHd s₁.heap q.1 q.2)
    (hbm : ∃ (m : Addr) (o : Obj), mg "__builtins__" = some (.ref m) ∧ m ≠ builtinsNs ∧ s₁.heap.get? m = some o ∧ o.cls = .type "module" ∧ o.dict = some builtinsNs ∧ o.data = .plain)
    (ha : s₁.heap.get? a = some (scrObj vs)) (hi : IntsAre vs ns) (hl : ns.length ≤ sizeLine) (hr : Room k callerA)
    (F : ∀ base : Heap, K.In base → base.Ns mainGlobals mg → (∀ q ∈ cs, TabB base mg q.1 q.2) → FnG P w K mg base CX k fa fd [x] sp) (hbind : ∀ (s : Shared) (u : Value), BindsTo s fd ⟨[u], []⟩ [(x, u)])
    (hsp : ∀ H : Hp, (∀ q ∈ cs, H q.2 = some (.tbl #[])) → SqL K H a (ns.map V.int) → sp [.ref a] H (fun v _ => v = .bl true) fun _ _ _ => False) (hCX : ∀ H e s', CX [] H s₁ (fun _ _ _ => False) e s' → False) :
    codeAny (model P w) callerA (.call (.ref fa) ⟨[.ref a], []⟩) (fun r s' => r = .ok (.ret (.bool true)) ∧ OldK s₁.heap s'.heap ∧ s'.os = s₁.os ∧ AllBare s'.gens) s₁ := by
  have rv := vals_ints hi
  obtain ⟨T, hTd⟩ : ∃ T : List Addr, T = cs.map (·.2) := ⟨_, rfl⟩
  have inT : ∀ q ∈ cs, q.2 ∈ T := fun q hq => by rw [hTd]; exact List.mem_map.mpr ⟨q, hq, rfl⟩
  have ofT : ∀ b ∈ T, ∃ q ∈ cs, q.2 = b := fun b hb => by rw [hTd] at hb; exact List.mem_map.mp hb
  have atT : ∀ b ∈ T, s₁.heap.get? b = some { cls := .none, data := .fields #[] } := fun b hb => by
    obtain ⟨q, hq, rfl⟩ := ofT b hb
    exact tT q hq
  have naT : a ∉ T := fun hh => by
    have := atT a hh
    rw [ha] at this
    exact absurd (congrArg Obj.data (Option.some.inj this)) (by unfold scrObj; exact fun z => by cases z)
  generalize hH : scrTb K a vs ns T = H
  have out : ∀ {b : Addr}, b ∉ T → ¬ (b = a ∧ (K.lookup a).isNone = true) → H b = none := fun hb hn => by rw [← hH, scrTb_out hb]; exact scr_off hn
  have cut : ∀ {b : Addr} {u : HO}, H b = some u → (b ∈ T ∧ u = .tbl #[]) ∨ (b ∉ T ∧ b = a ∧ u = .frz (scrObj vs) (.lst (ns.map V.int))) := fun {b u} hu => by
    rw [← hH] at hu
    by_cases hb : b ∈ T
    · rw [scrTb_in hb] at hu
      exact .inl ⟨hb, (Option.some.inj hu).symm⟩
    · rw [scrTb_out hb] at hu
      obtain ⟨⟨e, _⟩, e2⟩ := scr_some hu
      exact .inr ⟨hb, e, e2⟩
  have plain : ∀ {b : Addr} {o : Obj}, s₁.heap.get? b = some o → o.data ≠ .fields #[] → o.data ≠ (scrObj vs).data → H b = none := fun {b o} e n1 n2 => by
    refine out (fun hb => ?_) fun hb => ?_
    · rw [atT b hb] at e
      cases e
      exact n1 rfl
    · rw [hb.1, ha] at e
      cases e
      exact n2 rfl
  have hok : HOk P w H s₁.heap := fun b u z => by
    rcases cut z with ⟨hb, rfl⟩ | ⟨_, rfl, rfl⟩
    · exact atT b hb
    · exact ⟨ha, by rw [List.length_map]; exact hl, vs, _, rv, ha⟩
  have seen : ∀ {b : Addr} {o : Obj}, s₁.heap.get? b = some o → H b = none → (hidT s₁.heap H).get? b = some o := fun e n => hidT_get e n
  have inK : K.In (hidT s₁.heap H) := fun b o e => seen (KX b o e) (out (fun hb => by
    obtain ⟨q, hq, rfl⟩ := ofT b hb
    rw [nK q hq] at e
    cases e) fun hb => by
    rw [← hb.1, e] at hb
    cases hb.2)
  have names : ∀ {b : Addr} {m : Str → Option Value}, s₁.heap.Ns b m → (hidT s₁.heap H).Ns b m := by
    rintro b m ⟨ob, es, n, g, dd, rest⟩
    exact ⟨ob, es, n, seen g (plain g (by rw [dd]; exact fun z => by cases z) (by rw [dd]; unfold scrObj; exact fun z => by cases z)), dd, rest⟩
  have M : Mod K mg (hidT s₁.heap H) := ⟨inK, names hns, ⟨mb, names hb, hbb⟩, by obtain ⟨m1, q1, q2⟩ := hlim; exact ⟨m1, names q1, q2⟩⟩
  have TBs : ∀ q ∈ cs, TabB (hidT s₁.heap H) mg q.1 q.2 := fun q hq => by
    have hq2 := tT q hq
    have far : ∀ {b : Addr} {o : Obj}, s₁.heap.get? b = some o → o.data ≠ .fields #[] → b ≠ q.2 := fun e n z => by
      rw [z, hq2] at e
      cases e
      exact n rfl
    refine ⟨?_, ?_, ?_⟩
    · obtain ⟨oc, us, file, t1, fl, t2, inF, tx, t3, g, k1, k2, k3, more⟩ := hC q hq
      refine ⟨oc, us, file, t1, fl, t2, inF, tx, t3, seen g (plain g (fun z => ?_) (by rw [k2]; unfold scrObj; exact fun z => by cases z)), k1, k2, k3, more⟩
      rw [k2] at z
      cases z
      cases k3
    · obtain ⟨m, om, b1, b2, b3, b4, b5, b6⟩ := hbm
      have n1 : om.data ≠ .fields #[] := by rw [b6]; exact fun z => by cases z
      refine ⟨m, om, b1, b2, fun z => ?_, far b3 n1, seen b3 (plain b3 n1 (by rw [b6]; unfold scrObj; exact fun z => by cases z)), b4, b5, b6⟩
      obtain ⟨og, es, n, g, dd, _⟩ := hns
      rw [z, g] at b3
      cases b3
      rw [dd] at b6
      cases b6
    · obtain ⟨og, es, n, g, dd, _⟩ := hns
      exact far g (by rw [dd]; exact fun z => by cases z)
  have nol : ∀ b : Addr, b ∉ ([] : List Addr) := fun b z => nomatch z
  have env : Env0 P w K mg (hidT s₁.heap H) callerA [] s₁ H := { frames := rfl, mod := M, bs := fun b o e => of_hidT e, bsz := Nat.le_of_eq (hidT_size _ _), funs := trivial, frf := fun b z => (nol b z).elim, hok := hok, bare := .of_eq hg }
  have sq : SqL K H a (ns.map V.int) := by
    have := scr_sq (K := K) KX ha rv hi.length hl
    rcases this with (h | ⟨o, h⟩) | h
    · exact .inl (.inl (by rw [← hH, scrTb_out naT]; exact h))
    · exact .inl (.inr ⟨o, by rw [← hH, scrTb_out naT]; exact h⟩)
    · exact .inr h
  have tabs0 : ∀ q ∈ cs, H q.2 = some (.tbl #[]) := fun q hq => by rw [← hH]; exact scrTb_in (inT q hq)
  have go := (F _ inK (names hns) TBs).run callerA [] s₁ H ⟨[.ref a], []⟩ [.ref a] [.ref a] _ _ rfl hr env (hbind s₁ (.ref a)) (.cons rfl .nil) (hsp _ tabs0 sq)
  refine codeAny_mono go fun r s' h => ?_
  match r, h with
  | .error e, h => exact (hCX _ e s' h).elim
  | .ok .next, h => exact h.elim
  | .ok .brk, h => exact h.elim
  | .ok .cont, h => exact h.elim
  | .ok (.ret u), h =>
    obtain ⟨v, H', os, bare, un, hok', r', rfl⟩ := h
    cases r'
    have same : ∀ b o, b ∉ T → s₁.heap.get? b = some o → s'.heap.get? b = some o := fun b o nb e => by
      cases q : H b with
      | none => exact un.keep b o e q (nol b) (by simp)
      | some u =>
        rcases cut q with ⟨hb, _⟩ | ⟨_, rfl, rfl⟩
        · exact absurd hb nb
        · have z1 := (hok _ _ q).1
          have z2 := (hok' _ _ (un.frzs _ _ _ q)).1
          rw [e] at z1
          cases z1
          exact z2
    have more : ∀ q ∈ cs, ∃ m : Array Value, s'.heap.get? q.2 = some { cls := .none, data := .fields m } := fun q hq => by
      obtain ⟨m, z⟩ := un.tbls q.2 #[] (tabs0 q hq)
      exact ⟨_, hok' _ _ z⟩
    refine ⟨rfl, ⟨fun b o e => ?_, fun b o e => ?_⟩, os, bare⟩
    · by_cases hb : b ∈ T
      · obtain ⟨q, hq, rfl⟩ := ofT b hb
        obtain ⟨m, hm⟩ := more q hq
        rw [tT q hq] at e
        cases e
        exact .inr (.inl ⟨((hC q hq).tab (tT q hq)).isCodeTable, rfl, #[], m, rfl, by rw [Array.empty_append]; exact hm⟩)
      · exact .inl (same b o hb e)
    · by_cases hb : b ∈ T
      · obtain ⟨q, hq, rfl⟩ := ofT b hb
        obtain ⟨m, hm⟩ := more q hq
        exact ⟨_, hm⟩
      · exact ⟨o, same b o hb e⟩
end
open PyProof.Rows in
/-- where a def's table of code objects stands, piece by piece -/
theorem tab_mk {K : PySem.W.Frag} {x : Str} {f c Pt : Addr} {oc e9 : Value} {od dd : Option Addr} {osl sl9 : Array (Option Value)} {fd : FuncData} {vs9 : Array Value} (a : PySem.W.nsIn K mainGlobals x = some (some (.ref f))) (l : K.lookup f = some ⟨oc, od, .func fd, osl⟩) (hc : fd.code = .ref c) (lc : K.lookup c = some ⟨e9, dd, .fields vs9, sl9⟩) (tb : (vs9[11]? : Option Value) = some (.ref Pt)) :
    PySem.W.tabIn K x = some (c, Pt) := by
  unfold PySem.W.tabIn
  rw [a]
  dsimp only
  rw [l]
  dsimp only
  rw [hc]
  dsimp only
  rw [lc]
  dsimp only
  rw [tb]
/-- and the other way round -/
theorem tab_inv {K : PySem.W.Frag} {x : Str} {f c Pt : Addr} {oc : Value} {od : Option Addr} {osl : Array (Option Value)} {fd : FuncData} (a : PySem.W.nsIn K mainGlobals x = some (some (.ref f))) (l : K.lookup f = some ⟨oc, od, .func fd, osl⟩) (t : PySem.W.tabIn K x = some (c, Pt)) :
    ∃ (e9 : Value) (dd : Option Addr) (vs9 : Array Value) (sl9 : Array (Option Value)), fd.code = .ref c ∧ K.lookup c = some ⟨e9, dd, .fields vs9, sl9⟩ ∧ (vs9[11]? : Option Value) = some (.ref Pt) := by
  unfold PySem.W.tabIn at t
  rw [a] at t
  dsimp only at t
  rw [l] at t
  dsimp only at t
  split at t
  · rename_i c1 hc
    split at t
    · rename_i e9 dd vs9 sl9 hl
      split at t
      · rename_i P1 ht
        cases t
        exact ⟨e9, dd, vs9, sl9, hc, hl, ht⟩
      · cases t
    · cases t
  · cases t
/-- the table of a def that makes lambdas: told, and hidden -/
def tabP (K : PySem.W.Frag) (x : Str) : List Addr := match PySem.W.tabIn K x with
  | some (_, p) => [p]
  | none => []
def tabOk (K : PySem.W.Frag) (x : Str) : Bool := match PySem.W.tabIn K x with
  | some (_, p) => (K.lookup p).isNone
  | none => false
theorem tabOk_ok {K : PySem.W.Frag} {x : Str} (h : tabOk K x = true) : ∃ c p, PySem.W.tabIn K x = some (c, p) ∧ K.lookup p = none := by
  unfold tabOk at h
  split at h
  · rename_i c p e
    exact ⟨c, p, e, Option.isNone_iff_eq_none.mp h⟩
  · cases h
open PyProof.Rows in
/-- the end of a law, one of whose defs makes lambdas -/
theorem walkTE {l : PySem.W.OpenLaw} {n k : Nat} {q : Program} {loose : List Str} {XP : (Str → Option Value) → Heap → Prop} {YP : World → Heap → Prop} {d : DefRec} {CX : CXT} {sp : PySem.W.Frag → Addr → Sp} {x x2 : Str}
    (hn : l.most = some n) (hn2 : n ≤ sizeLine) (hdf : d.params.defaults = []) (hr : Room k callerA) (hrec : ((recsOf q).any fun e => e.name == x2) = true)
    (F : ∀ (w : World) (mg : Str → Option Value) (fa : Addr) (h : Heap), YP w h → h.Ns mainGlobals mg → mg d.name = some (.ref fa) → ∃ (K : PySem.W.Frag) (c Pt : Addr) (fd : FuncData), K.In h ∧ PySem.W.tabIn K x2 = some (c, Pt) ∧ K.lookup Pt = none ∧ (∀ (s : Shared) (u : Value), BindsTo s fd ⟨[u], []⟩ [(x, u)]) ∧
      ∀ base : Heap, K.In base → base.Ns mainGlobals mg → TabB base mg c Pt → FnG l.prog w K mg base CX k fa fd [x] (sp K Pt))
    (hsp : ∀ (K : PySem.W.Frag) (Pt : Addr) (H : Hp) (a : Addr) (ns : List Int), ns.length ≤ n → H Pt = some (.tbl #[]) → SqL K H a (ns.map V.int) → sp K Pt [.ref a] H (fun v _ => v = .bl true) fun _ _ _ => False)
    (hCX : ∀ (H : Hp) (s : Shared) (e : Value) (s' : Shared), CX [] H s (fun _ _ _ => False) e s' → False) : PySem.W.WalkO q loose XP YP l.row.toRowW d [] (fun f vs => PySem.call f vs) :=
  Att.attach_callB hn hdf fun w s₀ s₁ mg mb fa o pm cd doc a vs ns G Y ho hd hcd hmg hobj hints hlen hbits hg => by
    obtain ⟨K, c, Pt, fd, KX, ht, nP, hb, hF⟩ := F w mg fa _ Y G.T.g hmg
    obtain ⟨d2, hd2⟩ : ∃ d2, (recsOf q).find? (fun e => e.name == x2) = some d2 := by
      obtain ⟨e, he, hx⟩ := List.any_eq_true.mp hrec
      cases z : (recsOf q).find? (fun e => e.name == x2) with
      | some d2 => exact ⟨d2, rfl⟩
      | none => exact absurd hx (List.find?_eq_none.mp z e he)
    obtain ⟨hC, hP⟩ := PySem.W.tab_of G.T KX hd2 ht
    have one : ∀ p, p ∈ [(c, Pt)] → p = (c, Pt) := fun p hp => List.mem_singleton.mp hp
    exact law_trueT (cs := [(c, Pt)]) KX G.T.g G.T.b G.T.builtins G.T.nolimit hg (fun p hp => by rw [one p hp]; exact hP) (fun p hp => by rw [one p hp]; exact nP) (fun p hp => by rw [one p hp]; exact hC) G.T.bmain hobj hints (Nat.le_trans hlen hn2) hr
      (fun base kb nb TB => hF base kb nb (TB (c, Pt) (by simp))) hb (fun H hH hS => hsp _ Pt H a ns hlen (hH (c, Pt) (by simp)) hS) fun H e s' => hCX H s₁ e s'
end Ht
end
section
set_option maxHeartbeats 2000000
namespace K32.Hh
open PySem L2
def fa0 : List Hd.Fc := [
  (fun K => Hd.isRef (PySem.W.nsIn K mainGlobals "Book")),
  (fun K => PySem.W.plainGet K (Hd.refOf (PySem.W.nsIn K mainGlobals "Book")) Str.empty),
  (fun K => PySem.W.hasDictIn K (Hd.refOf (PySem.W.nsIn K mainGlobals "Book"))),
  (fun K => PySem.W.plainOver K (Hd.refOf (PySem.W.nsIn K mainGlobals "Book"))),
  (fun K => He.eqO (PySem.W.findIn K (.ref (Hd.refOf (PySem.W.nsIn K mainGlobals "Book"))) "__setattr__") (some (some (.builtin "object.__setattr__")))),
  (fun K => PySem.W.makesIn K (Hd.refOf (PySem.W.nsIn K mainGlobals "Book"))),
  (fun K => PySem.W.keepIn K (.ref (Hd.refOf (PySem.W.nsIn K mainGlobals "Book")))),
  (fun K => He.eqO (PySem.W.findIn K (.ref (Hd.refOf (PySem.W.nsIn K mainGlobals "Book"))) "_log") (some none)),
  (fun K => He.eqO (PySem.W.findIn K (.ref (Hd.refOf (PySem.W.nsIn K mainGlobals "Book"))) "_promises") (some none)),
  (fun K => Hd.isInt 24 (PySem.W.findIn K (.ref (Hd.refOf (PySem.W.nsIn K mainGlobals "Book"))) "MOST_ROWS")),
  (fun K => He.eqO (PySem.W.specialIn K (Hd.valOf (PySem.W.findIn K (.ref (Hd.refOf (PySem.W.nsIn K mainGlobals "Book"))) "MOST_ROWS")) "__get__") (some none)),
  (fun K => Hd.isInt 12 (PySem.W.findIn K (.ref (Hd.refOf (PySem.W.nsIn K mainGlobals "Book"))) "MOST_PROMISES")),
  (fun K => He.eqO (PySem.W.specialIn K (Hd.valOf (PySem.W.findIn K (.ref (Hd.refOf (PySem.W.nsIn K mainGlobals "Book"))) "MOST_PROMISES")) "__get__") (some none)),
  (fun K => He.eqO (PySem.W.findIn K (.ref (Hd.refOf (PySem.W.nsIn K mainGlobals "Book"))) "__ne__") (some (some (.builtin "object.__ne__")))),
  (fun K => decide (PySem.W.mroIn K (Hd.refOf (PySem.W.nsIn K mainGlobals "Book")) (.type "object") = some true)),
  (fun K => He.eqO (PySem.W.findIn K (.ref (Hd.refOf (PySem.W.nsIn K mainGlobals "Book"))) "__class__") (some (some (.builtin "object.__class__")))),
  (fun K => He.eqO (PySem.W.specialIn K (.builtin "object.__class__") "__get__") (some (some (.builtin "getset_descriptor.__get__")))),
  (fun K => decide (PySem.W.takesIn K (.builtin "object.__class__") = some true)),
  (fun K => PySem.W.notFirst K (Hd.refOf (PySem.W.nsIn K mainGlobals "Book")) (.type "NoneType")),
  (fun K => PySem.W.notFirst K (Hd.refOf (PySem.W.nsIn K mainGlobals "Book")) (.type "bool")),
  (fun K => PySem.W.notFirst K (Hd.refOf (PySem.W.nsIn K mainGlobals "Book")) (.type "int")),
  (fun K => PySem.W.notFirst K (Hd.refOf (PySem.W.nsIn K mainGlobals "Book")) (.type "str")),
  (fun K => PySem.W.notFirst K (Hd.refOf (PySem.W.nsIn K mainGlobals "Book")) (.type "list")),
  (fun K => PySem.W.notFirst K (Hd.refOf (PySem.W.nsIn K mainGlobals "Book")) (.type "tuple")),
  (fun K => PySem.W.notFirst K (Hd.refOf (PySem.W.nsIn K mainGlobals "Book")) (.type "dict")),
  (fun K => decide (PySem.W.kitOne K (.type "NoneType") (.ref (Hd.refOf (PySem.W.nsIn K mainGlobals "Book"))) = some false)),
  (fun K => decide (PySem.W.kitOne K (.type "bool") (.ref (Hd.refOf (PySem.W.nsIn K mainGlobals "Book"))) = some false)),
  (fun K => decide (PySem.W.kitOne K (.type "int") (.ref (Hd.refOf (PySem.W.nsIn K mainGlobals "Book"))) = some false)),
  (fun K => decide (PySem.W.kitOne K (.type "str") (.ref (Hd.refOf (PySem.W.nsIn K mainGlobals "Book"))) = some false)),
  (fun K => decide (PySem.W.kitOne K (.type "list") (.ref (Hd.refOf (PySem.W.nsIn K mainGlobals "Book"))) = some false)),
  (fun K => decide (PySem.W.kitOne K (.type "tuple") (.ref (Hd.refOf (PySem.W.nsIn K mainGlobals "Book"))) = some false)),
  (fun K => decide (PySem.W.kitOne K (.type "dict") (.ref (Hd.refOf (PySem.W.nsIn K mainGlobals "Book"))) = some false)),
  (fun K => Hd.isRef (PySem.W.nsIn K mainGlobals "is_day")),
  (fun K => PySem.W.keepIn K (.ref (Hd.refOf (PySem.W.nsIn K mainGlobals "is_day")))),
  (fun K => Hd.isRef (PySem.W.nsIn K mainGlobals "is_rule")),
  (fun K => PySem.W.keepIn K (.ref (Hd.refOf (PySem.W.nsIn K mainGlobals "is_rule")))),
  (fun K => Hd.isRef (PySem.W.nsIn K mainGlobals "need_rule")),
  (fun K => PySem.W.keepIn K (.ref (Hd.refOf (PySem.W.nsIn K mainGlobals "need_rule")))),
  (fun K => Hd.isRef (PySem.W.nsIn K mainGlobals "is_list")),
  (fun K => PySem.W.keepIn K (.ref (Hd.refOf (PySem.W.nsIn K mainGlobals "is_list"))))]
def fa1 : List Hd.Fc := [
  (fun K => Hd.isRef (PySem.W.findIn K (.ref (Hd.refOf (PySem.W.nsIn K mainGlobals "Book"))) "__init__")),
  (fun K => PySem.W.isFn K (.ref (Hd.refOf (PySem.W.findIn K (.ref (Hd.refOf (PySem.W.nsIn K mainGlobals "Book"))) "__init__")))),
  (fun K => PySem.W.keepIn K (.ref (Hd.refOf (PySem.W.findIn K (.ref (Hd.refOf (PySem.W.nsIn K mainGlobals "Book"))) "__init__")))),
  (fun K => Hd.isRef (PySem.W.findIn K (.ref (Hd.refOf (PySem.W.nsIn K mainGlobals "Book"))) "log")),
  (fun K => He.eqO (PySem.W.specialIn K (.ref (Hd.refOf (PySem.W.findIn K (.ref (Hd.refOf (PySem.W.nsIn K mainGlobals "Book"))) "log"))) "__get__") (some (some (.builtin "property.__get__")))),
  (fun K => decide (PySem.W.takesIn K (.ref (Hd.refOf (PySem.W.findIn K (.ref (Hd.refOf (PySem.W.nsIn K mainGlobals "Book"))) "log"))) = some true)),
  (fun K => Hd.isRec K (Hd.refOf (PySem.W.findIn K (.ref (Hd.refOf (PySem.W.nsIn K mainGlobals "Book"))) "log")) "property"),
  (fun K => PySem.W.keepIn K (.ref (Hd.recOf K (Hd.refOf (PySem.W.findIn K (.ref (Hd.refOf (PySem.W.nsIn K mainGlobals "Book"))) "log")) "property"))),
  (fun K => Hd.isRef (PySem.W.findIn K (.ref (Hd.refOf (PySem.W.nsIn K mainGlobals "Book"))) "promises")),
  (fun K => He.eqO (PySem.W.specialIn K (.ref (Hd.refOf (PySem.W.findIn K (.ref (Hd.refOf (PySem.W.nsIn K mainGlobals "Book"))) "promises"))) "__get__") (some (some (.builtin "property.__get__")))),
  (fun K => decide (PySem.W.takesIn K (.ref (Hd.refOf (PySem.W.findIn K (.ref (Hd.refOf (PySem.W.nsIn K mainGlobals "Book"))) "promises"))) = some true)),
  (fun K => Hd.isRec K (Hd.refOf (PySem.W.findIn K (.ref (Hd.refOf (PySem.W.nsIn K mainGlobals "Book"))) "promises")) "property"),
  (fun K => PySem.W.keepIn K (.ref (Hd.recOf K (Hd.refOf (PySem.W.findIn K (.ref (Hd.refOf (PySem.W.nsIn K mainGlobals "Book"))) "promises")) "property"))),
  (fun K => Hd.isRef (PySem.W.findIn K (.ref (Hd.refOf (PySem.W.nsIn K mainGlobals "Book"))) "rules")),
  (fun K => He.eqO (PySem.W.specialIn K (.ref (Hd.refOf (PySem.W.findIn K (.ref (Hd.refOf (PySem.W.nsIn K mainGlobals "Book"))) "rules"))) "__get__") (some (some (.builtin "property.__get__")))),
  (fun K => decide (PySem.W.takesIn K (.ref (Hd.refOf (PySem.W.findIn K (.ref (Hd.refOf (PySem.W.nsIn K mainGlobals "Book"))) "rules"))) = some true)),
  (fun K => Hd.isRec K (Hd.refOf (PySem.W.findIn K (.ref (Hd.refOf (PySem.W.nsIn K mainGlobals "Book"))) "rules")) "property"),
  (fun K => PySem.W.keepIn K (.ref (Hd.recOf K (Hd.refOf (PySem.W.findIn K (.ref (Hd.refOf (PySem.W.nsIn K mainGlobals "Book"))) "rules")) "property"))),
  (fun K => Hd.isRef (PySem.W.nsIn K mainGlobals "is_row")),
  (fun K => PySem.W.keepIn K (.ref (Hd.refOf (PySem.W.nsIn K mainGlobals "is_row")))),
  (fun K => Hd.isRef (PySem.W.nsIn K mainGlobals "need_row")),
  (fun K => PySem.W.keepIn K (.ref (Hd.refOf (PySem.W.nsIn K mainGlobals "need_row")))),
  (fun K => Hd.isRef (PySem.W.nsIn K mainGlobals "is_promise")),
  (fun K => PySem.W.keepIn K (.ref (Hd.refOf (PySem.W.nsIn K mainGlobals "is_promise")))),
  (fun K => Hd.isRef (PySem.W.nsIn K mainGlobals "need_promise")),
  (fun K => PySem.W.keepIn K (.ref (Hd.refOf (PySem.W.nsIn K mainGlobals "need_promise")))),
  (fun K => Hd.isRef (PySem.W.nsIn K mainGlobals "promise_place")),
  (fun K => PySem.W.keepIn K (.ref (Hd.refOf (PySem.W.nsIn K mainGlobals "promise_place")))),
  (fun K => Hd.isRef (PySem.W.nsIn K mainGlobals "_bound_place")),
  (fun K => PySem.W.keepIn K (.ref (Hd.refOf (PySem.W.nsIn K mainGlobals "_bound_place")))),
  (fun K => Hd.isRef (PySem.W.nsIn K mainGlobals "_are_bounds")),
  (fun K => PySem.W.keepIn K (.ref (Hd.refOf (PySem.W.nsIn K mainGlobals "_are_bounds")))),
  (fun K => Hd.isRef (PySem.W.nsIn K mainGlobals "_need_rows")),
  (fun K => PySem.W.keepIn K (.ref (Hd.refOf (PySem.W.nsIn K mainGlobals "_need_rows")))),
  (fun K => Hd.isRef (PySem.W.nsIn K mainGlobals "_need_promises")),
  (fun K => PySem.W.keepIn K (.ref (Hd.refOf (PySem.W.nsIn K mainGlobals "_need_promises")))),
  (fun K => Hd.isRef (PySem.W.nsIn K mainGlobals "beneath")),
  (fun K => PySem.W.keepIn K (.ref (Hd.refOf (PySem.W.nsIn K mainGlobals "beneath")))),
  (fun K => Hd.isRef (PySem.W.nsIn K mainGlobals "above")),
  (fun K => PySem.W.keepIn K (.ref (Hd.refOf (PySem.W.nsIn K mainGlobals "above"))))]
def fa2 : List Hd.Fc := [
  (fun K => Hd.isRef (PySem.W.nsIn K mainGlobals "low")),
  (fun K => PySem.W.keepIn K (.ref (Hd.refOf (PySem.W.nsIn K mainGlobals "low")))),
  (fun K => Hd.isRef (PySem.W.nsIn K mainGlobals "high")),
  (fun K => PySem.W.keepIn K (.ref (Hd.refOf (PySem.W.nsIn K mainGlobals "high")))),
  (fun K => Hd.isRef (PySem.W.nsIn K mainGlobals "low_chain")),
  (fun K => PySem.W.keepIn K (.ref (Hd.refOf (PySem.W.nsIn K mainGlobals "low_chain")))),
  (fun K => Hd.isRef (PySem.W.nsIn K mainGlobals "high_chain")),
  (fun K => PySem.W.keepIn K (.ref (Hd.refOf (PySem.W.nsIn K mainGlobals "high_chain")))),
  (fun K => Hd.isRef (PySem.W.nsIn K mainGlobals "torn")),
  (fun K => PySem.W.keepIn K (.ref (Hd.refOf (PySem.W.nsIn K mainGlobals "torn")))),
  (fun K => Hd.isRef (PySem.W.nsIn K mainGlobals "quick_pairs")),
  (fun K => PySem.W.keepIn K (.ref (Hd.refOf (PySem.W.nsIn K mainGlobals "quick_pairs")))),
  (fun K => Hd.isRef (PySem.W.nsIn K mainGlobals "_quick")),
  (fun K => PySem.W.keepIn K (.ref (Hd.refOf (PySem.W.nsIn K mainGlobals "_quick")))),
  (fun K => Hd.isRef (PySem.W.nsIn K mainGlobals "_leads")),
  (fun K => PySem.W.keepIn K (.ref (Hd.refOf (PySem.W.nsIn K mainGlobals "_leads")))),
  (fun K => Hd.isRef (PySem.W.nsIn K mainGlobals "_is_torn")),
  (fun K => PySem.W.keepIn K (.ref (Hd.refOf (PySem.W.nsIn K mainGlobals "_is_torn")))),
  (fun K => Hd.isRef (PySem.W.nsIn K mainGlobals "_steps_to")),
  (fun K => PySem.W.keepIn K (.ref (Hd.refOf (PySem.W.nsIn K mainGlobals "_steps_to")))),
  (fun K => Hd.isRef (PySem.W.nsIn K mainGlobals "_shortest_chain")),
  (fun K => PySem.W.keepIn K (.ref (Hd.refOf (PySem.W.nsIn K mainGlobals "_shortest_chain")))),
  (fun K => Hd.isRef (PySem.W.nsIn K mainGlobals "_law_pot")),
  (fun K => PySem.W.keepIn K (.ref (Hd.refOf (PySem.W.nsIn K mainGlobals "_law_pot")))),
  (fun K => Hd.isRef (PySem.W.nsIn K mainGlobals "_law_draw")),
  (fun K => PySem.W.keepIn K (.ref (Hd.refOf (PySem.W.nsIn K mainGlobals "_law_draw")))),
  (fun K => Hd.isRef (PySem.W.nsIn K mainGlobals "_law_pick")),
  (fun K => PySem.W.keepIn K (.ref (Hd.refOf (PySem.W.nsIn K mainGlobals "_law_pick")))),
  (fun K => Hd.isRef (PySem.W.nsIn K mainGlobals "_law_once")),
  (fun K => PySem.W.keepIn K (.ref (Hd.refOf (PySem.W.nsIn K mainGlobals "_law_once")))),
  (fun K => Hd.isRef (PySem.W.nsIn K mainGlobals "_law_under")),
  (fun K => PySem.W.keepIn K (.ref (Hd.refOf (PySem.W.nsIn K mainGlobals "_law_under")))),
  (fun K => Hd.isRef (PySem.W.nsIn K mainGlobals "_law_over")),
  (fun K => PySem.W.keepIn K (.ref (Hd.refOf (PySem.W.nsIn K mainGlobals "_law_over")))),
  (fun K => Hd.isRef (PySem.W.nsIn K mainGlobals "_law_low")),
  (fun K => PySem.W.keepIn K (.ref (Hd.refOf (PySem.W.nsIn K mainGlobals "_law_low")))),
  (fun K => Hd.isRef (PySem.W.nsIn K mainGlobals "_law_high")),
  (fun K => PySem.W.keepIn K (.ref (Hd.refOf (PySem.W.nsIn K mainGlobals "_law_high")))),
  (fun K => Hd.isRef (PySem.W.nsIn K mainGlobals "_law_named")),
  (fun K => PySem.W.keepIn K (.ref (Hd.refOf (PySem.W.nsIn K mainGlobals "_law_named"))))]
def fa3 : List Hd.Fc := [
  (fun K => Hd.isRef (PySem.W.nsIn K mainGlobals "_law_oaths")),
  (fun K => PySem.W.keepIn K (.ref (Hd.refOf (PySem.W.nsIn K mainGlobals "_law_oaths")))),
  (fun K => Hd.isRef (PySem.W.nsIn K mainGlobals "_law_longer")),
  (fun K => PySem.W.keepIn K (.ref (Hd.refOf (PySem.W.nsIn K mainGlobals "_law_longer")))),
  (fun K => Hd.isRef (PySem.W.nsIn K mainGlobals "_law_chain")),
  (fun K => PySem.W.keepIn K (.ref (Hd.refOf (PySem.W.nsIn K mainGlobals "_law_chain")))),
  (fun K => Hd.isRef (PySem.W.nsIn K mainGlobals "_law_low_chain")),
  (fun K => PySem.W.keepIn K (.ref (Hd.refOf (PySem.W.nsIn K mainGlobals "_law_low_chain")))),
  (fun K => Hd.isRef (PySem.W.nsIn K mainGlobals "_law_high_chain")),
  (fun K => PySem.W.keepIn K (.ref (Hd.refOf (PySem.W.nsIn K mainGlobals "_law_high_chain")))),
  (fun K => Hd.isRef (PySem.W.nsIn K mainGlobals "_law_rule_right")),
  (fun K => PySem.W.keepIn K (.ref (Hd.refOf (PySem.W.nsIn K mainGlobals "_law_rule_right")))),
  (fun K => Hd.isRef (PySem.W.nsIn K mainGlobals "_law_right")),
  (fun K => PySem.W.keepIn K (.ref (Hd.refOf (PySem.W.nsIn K mainGlobals "_law_right")))),
  (fun K => Hd.isRef (PySem.W.nsIn K mainGlobals "law")),
  (fun K => PySem.W.keepIn K (.ref (Hd.refOf (PySem.W.nsIn K mainGlobals "law")))),
  (fun K => He.eqO (PySem.W.nsIn K mainGlobals "isinstance") (some none)),
  (fun K => He.eqO (PySem.W.nsIn K mainGlobals "int") (some none)),
  (fun K => He.eqO (PySem.W.nsIn K mainGlobals "bool") (some none)),
  (fun K => He.eqO (PySem.W.nsIn K mainGlobals "list") (some none)),
  (fun K => He.eqO (PySem.W.nsIn K mainGlobals "tuple") (some none)),
  (fun K => He.eqO (PySem.W.nsIn K mainGlobals "str") (some none)),
  (fun K => He.eqO (PySem.W.nsIn K mainGlobals "len") (some none)),
  (fun K => He.eqO (PySem.W.nsIn K mainGlobals "range") (some none)),
  (fun K => He.eqO (PySem.W.nsIn K mainGlobals "divmod") (some none)),
  (fun K => He.eqO (PySem.W.nsIn K mainGlobals "min") (some none)),
  (fun K => He.eqO (PySem.W.nsIn K mainGlobals "max") (some none)),
  (fun K => He.eqO (PySem.W.nsIn K mainGlobals "all") (some none)),
  (fun K => He.eqO (PySem.W.nsIn K mainGlobals "any") (some none)),
  (fun K => He.eqO (PySem.W.nsIn K mainGlobals "abs") (some none)),
  (fun K => He.eqO (PySem.W.nsIn K mainGlobals "sorted") (some none)),
  (fun K => He.eqO (PySem.W.nsIn K mainGlobals "set") (some none)),
  (fun K => He.eqO (PySem.W.nsIn K mainGlobals "enumerate") (some none))]
def fg0 : List Hd.Fc := fa0 ++ fa1 ++ fa2 ++ fa3
def fa : List Hd.Fc := fg0
def fn0 : List Hd.Df := [
  ⟨fun K => (Hd.refOf (PySem.W.nsIn K mainGlobals "is_day")), "is_day", "is_day", (defArgs s_is_day), (defBody s_is_day), (defScope s_is_day), false⟩,
  ⟨fun K => (Hd.refOf (PySem.W.nsIn K mainGlobals "is_rule")), "is_rule", "is_rule", (defArgs s_is_rule), (defBody s_is_rule), (defScope s_is_rule), false⟩,
  ⟨fun K => (Hd.refOf (PySem.W.nsIn K mainGlobals "need_rule")), "need_rule", "need_rule", (defArgs s_need_rule), (defBody s_need_rule), (defScope s_need_rule), false⟩,
  ⟨fun K => (Hd.refOf (PySem.W.nsIn K mainGlobals "is_list")), "is_list", "is_list", (defArgs s_is_list), (defBody s_is_list), (defScope s_is_list), false⟩,
  ⟨fun K => (Hd.refOf (PySem.W.findIn K (.ref (Hd.refOf (PySem.W.nsIn K mainGlobals "Book"))) "__init__")), "__init__", "Book.__init__", (defArgs s_Book___init__), (defBody s_Book___init__), (defScope s_Book___init__), false⟩,
  ⟨fun K => (Hd.recOf K (Hd.refOf (PySem.W.findIn K (.ref (Hd.refOf (PySem.W.nsIn K mainGlobals "Book"))) "log")) "property"), "log", "Book.log", (defArgs s_Book_log), (defBody s_Book_log), (defScope s_Book_log), false⟩,
  ⟨fun K => (Hd.recOf K (Hd.refOf (PySem.W.findIn K (.ref (Hd.refOf (PySem.W.nsIn K mainGlobals "Book"))) "promises")) "property"), "promises", "Book.promises", (defArgs s_Book_promises), (defBody s_Book_promises), (defScope s_Book_promises), false⟩,
  ⟨fun K => (Hd.recOf K (Hd.refOf (PySem.W.findIn K (.ref (Hd.refOf (PySem.W.nsIn K mainGlobals "Book"))) "rules")) "property"), "rules", "Book.rules", (defArgs s_Book_rules), (defBody s_Book_rules), (defScope s_Book_rules), false⟩,
  ⟨fun K => (Hd.refOf (PySem.W.nsIn K mainGlobals "is_row")), "is_row", "is_row", (defArgs s_is_row), (defBody s_is_row), (defScope s_is_row), false⟩,
  ⟨fun K => (Hd.refOf (PySem.W.nsIn K mainGlobals "need_row")), "need_row", "need_row", (defArgs s_need_row), (defBody s_need_row), (defScope s_need_row), false⟩,
  ⟨fun K => (Hd.refOf (PySem.W.nsIn K mainGlobals "is_promise")), "is_promise", "is_promise", (defArgs s_is_promise), (defBody s_is_promise), (defScope s_is_promise), false⟩,
  ⟨fun K => (Hd.refOf (PySem.W.nsIn K mainGlobals "need_promise")), "need_promise", "need_promise", (defArgs s_need_promise), (defBody s_need_promise), (defScope s_need_promise), false⟩,
  ⟨fun K => (Hd.refOf (PySem.W.nsIn K mainGlobals "promise_place")), "promise_place", "promise_place", (defArgs s_promise_place), (defBody s_promise_place), (defScope s_promise_place), false⟩,
  ⟨fun K => (Hd.refOf (PySem.W.nsIn K mainGlobals "_bound_place")), "_bound_place", "_bound_place", (defArgs s__bound_place), (defBody s__bound_place), (defScope s__bound_place), false⟩,
  ⟨fun K => (Hd.refOf (PySem.W.nsIn K mainGlobals "_are_bounds")), "_are_bounds", "_are_bounds", (defArgs s__are_bounds), (defBody s__are_bounds), (defScope s__are_bounds), false⟩,
  ⟨fun K => (Hd.refOf (PySem.W.nsIn K mainGlobals "_need_rows")), "_need_rows", "_need_rows", (defArgs s__need_rows), (defBody s__need_rows), (defScope s__need_rows), false⟩,
  ⟨fun K => (Hd.refOf (PySem.W.nsIn K mainGlobals "_need_promises")), "_need_promises", "_need_promises", (defArgs s__need_promises), (defBody s__need_promises), (defScope s__need_promises), false⟩,
  ⟨fun K => (Hd.refOf (PySem.W.nsIn K mainGlobals "beneath")), "beneath", "beneath", (defArgs s_beneath), (defBody s_beneath), (defScope s_beneath), false⟩,
  ⟨fun K => (Hd.refOf (PySem.W.nsIn K mainGlobals "above")), "above", "above", (defArgs s_above), (defBody s_above), (defScope s_above), false⟩,
  ⟨fun K => (Hd.refOf (PySem.W.nsIn K mainGlobals "low")), "low", "low", (defArgs s_low), (defBody s_low), (defScope s_low), false⟩,
  ⟨fun K => (Hd.refOf (PySem.W.nsIn K mainGlobals "high")), "high", "high", (defArgs s_high), (defBody s_high), (defScope s_high), false⟩,
  ⟨fun K => (Hd.refOf (PySem.W.nsIn K mainGlobals "low_chain")), "low_chain", "low_chain", (defArgs s_low_chain), (defBody s_low_chain), (defScope s_low_chain), false⟩,
  ⟨fun K => (Hd.refOf (PySem.W.nsIn K mainGlobals "high_chain")), "high_chain", "high_chain", (defArgs s_high_chain), (defBody s_high_chain), (defScope s_high_chain), false⟩,
  ⟨fun K => (Hd.refOf (PySem.W.nsIn K mainGlobals "torn")), "torn", "torn", (defArgs s_torn), (defBody s_torn), (defScope s_torn), false⟩,
  ⟨fun K => (Hd.refOf (PySem.W.nsIn K mainGlobals "quick_pairs")), "quick_pairs", "quick_pairs", (defArgs s_quick_pairs), (defBody s_quick_pairs), (defScope s_quick_pairs), false⟩,
  ⟨fun K => (Hd.refOf (PySem.W.nsIn K mainGlobals "_quick")), "_quick", "_quick", (defArgs s__quick), (defBody s__quick), (defScope s__quick), false⟩,
  ⟨fun K => (Hd.refOf (PySem.W.nsIn K mainGlobals "_leads")), "_leads", "_leads", (defArgs s__leads), (defBody s__leads), (defScope s__leads), false⟩,
  ⟨fun K => (Hd.refOf (PySem.W.nsIn K mainGlobals "_is_torn")), "_is_torn", "_is_torn", (defArgs s__is_torn), (defBody s__is_torn), (defScope s__is_torn), false⟩,
  ⟨fun K => (Hd.refOf (PySem.W.nsIn K mainGlobals "_steps_to")), "_steps_to", "_steps_to", (defArgs s__steps_to), (defBody s__steps_to), (defScope s__steps_to), false⟩,
  ⟨fun K => (Hd.refOf (PySem.W.nsIn K mainGlobals "_shortest_chain")), "_shortest_chain", "_shortest_chain", (defArgs s__shortest_chain), (defBody s__shortest_chain), (defScope s__shortest_chain), false⟩,
  ⟨fun K => (Hd.refOf (PySem.W.nsIn K mainGlobals "_law_pot")), "_law_pot", "_law_pot", (defArgs s__law_pot), (defBody s__law_pot), (defScope s__law_pot), false⟩,
  ⟨fun K => (Hd.refOf (PySem.W.nsIn K mainGlobals "_law_draw")), "_law_draw", "_law_draw", (defArgs s__law_draw), (defBody s__law_draw), (defScope s__law_draw), false⟩,
  ⟨fun K => (Hd.refOf (PySem.W.nsIn K mainGlobals "_law_pick")), "_law_pick", "_law_pick", (defArgs s__law_pick), (defBody s__law_pick), (defScope s__law_pick), false⟩,
  ⟨fun K => (Hd.refOf (PySem.W.nsIn K mainGlobals "_law_once")), "_law_once", "_law_once", (defArgs s__law_once), (defBody s__law_once), (defScope s__law_once), false⟩,
  ⟨fun K => (Hd.refOf (PySem.W.nsIn K mainGlobals "_law_under")), "_law_under", "_law_under", (defArgs s__law_under), (defBody s__law_under), (defScope s__law_under), false⟩,
  ⟨fun K => (Hd.refOf (PySem.W.nsIn K mainGlobals "_law_over")), "_law_over", "_law_over", (defArgs s__law_over), (defBody s__law_over), (defScope s__law_over), false⟩,
  ⟨fun K => (Hd.refOf (PySem.W.nsIn K mainGlobals "_law_low")), "_law_low", "_law_low", (defArgs s__law_low), (defBody s__law_low), (defScope s__law_low), false⟩,
  ⟨fun K => (Hd.refOf (PySem.W.nsIn K mainGlobals "_law_high")), "_law_high", "_law_high", (defArgs s__law_high), (defBody s__law_high), (defScope s__law_high), false⟩,
  ⟨fun K => (Hd.refOf (PySem.W.nsIn K mainGlobals "_law_named")), "_law_named", "_law_named", (defArgs s__law_named), (defBody s__law_named), (defScope s__law_named), false⟩,
  ⟨fun K => (Hd.refOf (PySem.W.nsIn K mainGlobals "_law_oaths")), "_law_oaths", "_law_oaths", (defArgs s__law_oaths), (defBody s__law_oaths), (defScope s__law_oaths), false⟩,
  ⟨fun K => (Hd.refOf (PySem.W.nsIn K mainGlobals "_law_longer")), "_law_longer", "_law_longer", (defArgs s__law_longer), (defBody s__law_longer), (defScope s__law_longer), false⟩,
  ⟨fun K => (Hd.refOf (PySem.W.nsIn K mainGlobals "_law_chain")), "_law_chain", "_law_chain", (defArgs s__law_chain), (defBody s__law_chain), (defScope s__law_chain), false⟩,
  ⟨fun K => (Hd.refOf (PySem.W.nsIn K mainGlobals "_law_low_chain")), "_law_low_chain", "_law_low_chain", (defArgs s__law_low_chain), (defBody s__law_low_chain), (defScope s__law_low_chain), false⟩,
  ⟨fun K => (Hd.refOf (PySem.W.nsIn K mainGlobals "_law_high_chain")), "_law_high_chain", "_law_high_chain", (defArgs s__law_high_chain), (defBody s__law_high_chain), (defScope s__law_high_chain), false⟩,
  ⟨fun K => (Hd.refOf (PySem.W.nsIn K mainGlobals "_law_rule_right")), "_law_rule_right", "_law_rule_right", (defArgs s__law_rule_right), (defBody s__law_rule_right), (defScope s__law_rule_right), false⟩,
  ⟨fun K => (Hd.refOf (PySem.W.nsIn K mainGlobals "_law_right")), "_law_right", "_law_right", (defArgs s__law_right), (defBody s__law_right), (defScope s__law_right), false⟩,
  ⟨fun K => (Hd.refOf (PySem.W.nsIn K mainGlobals "law")), "law", "law", (defArgs s_law), (defBody s_law), (defScope s_law), false⟩]
def fn : List Hd.Df := fn0
def ks0 : List (PySem.W.Frag → Addr) := [
  ]
def ks : List (PySem.W.Frag → Addr) := ks0
def xs : List (List Str) := []
def loose0 : List Str := [
  ("_wall" : Str),
  ("is_day" : Str),
  ("is_rule" : Str),
  ("LeadError" : Str),
  ("InvalidRule" : Str),
  ("InvalidPromise" : Str),
  ("InvalidRow" : Str),
  ("LimitError" : Str),
  ("TooMany" : Str),
  ("need_rule" : Str),
  ("is_list" : Str),
  ("beneath" : Str),
  ("above" : Str),
  ("low" : Str),
  ("high" : Str),
  ("low_chain" : Str),
  ("high_chain" : Str),
  ("torn" : Str),
  ("quick_pairs" : Str),
  ("_quick" : Str)]
def loose1 : List Str := [
  ("_leads" : Str),
  ("_is_torn" : Str),
  ("_steps_to" : Str),
  ("_shortest_chain" : Str),
  ("Book" : Str),
  ("is_row" : Str),
  ("need_row" : Str),
  ("is_promise" : Str),
  ("need_promise" : Str),
  ("promise_place" : Str),
  ("_bound_place" : Str),
  ("_are_bounds" : Str),
  ("_need_rows" : Str),
  ("_need_promises" : Str),
  ("_law_pot" : Str),
  ("_law_draw" : Str),
  ("_law_pick" : Str),
  ("_law_once" : Str),
  ("_law_under" : Str),
  ("_law_over" : Str)]
def loose2 : List Str := [
  ("_law_low" : Str),
  ("_law_high" : Str),
  ("_law_named" : Str),
  ("_law_oaths" : Str),
  ("_law_longer" : Str),
  ("_law_chain" : Str),
  ("_law_low_chain" : Str),
  ("_law_high_chain" : Str),
  ("_law_rule_right" : Str),
  ("_law_right" : Str)]
def loose : List Str := loose0 ++ loose1 ++ loose2
def no (K : PySem.W.Frag) : List Addr := []
abbrev R : PySem.W.OpenRow := PySem.W.OpenLaw.row PySem.Challenge.rw_leadrules_k32_chains_of_promises
abbrev hk : PySem.W.Hook := Hd.hook no 0 fa fn ks xs
def ob (s : PySem.W.SharedT) : Hd.Al := Hd.look no 0 fa fn ks s
theorem ob_eq (s : PySem.W.SharedT) : ob s = hk.obs s.abs := Hd.look_eq no 0 fa fn ks xs s
abbrev Q : Program := PySem.W.view R.prog [56]
abbrev M : Nat := 9000
set_option maxHeartbeats 0 in
theorem run_a_f (w : World) : Hd.RunA R Q M loose (w.withFollow "special-get-raises" false) := by intro os; kernel_rfl
set_option maxHeartbeats 0 in
theorem run_a_t (w : World) : Hd.RunA R Q M loose (w.withFollow "special-get-raises" true) := by intro os; kernel_rfl
set_option maxHeartbeats 0 in
theorem run_b_f (w : World) : Hd.RunB R Q M loose (w.withFollow "special-get-raises" false) := by intro os; kernel_rfl
set_option maxHeartbeats 0 in
theorem run_b_t (w : World) : Hd.RunB R Q M loose (w.withFollow "special-get-raises" true) := by intro os; kernel_rfl
set_option maxHeartbeats 0 in
theorem run_f0_f (w : World) : Hd.RunF R M (w.withFollow "special-get-raises" false) no 0 fg0 := by intro os; kernel_rfl
set_option maxHeartbeats 0 in
theorem run_f0_t (w : World) : Hd.RunF R M (w.withFollow "special-get-raises" true) no 0 fg0 := by intro os; kernel_rfl
set_option maxHeartbeats 0 in
theorem run_n0_f (w : World) : Hd.RunN R M (w.withFollow "special-get-raises" false) no 0 fn0 ks xs := by intro os; kernel_rfl
set_option maxHeartbeats 0 in
theorem run_n0_t (w : World) : Hd.RunN R M (w.withFollow "special-get-raises" true) no 0 fn0 ks xs := by intro os; kernel_rfl
theorem run_n (w : World) : Hd.RunN R M w no 0 (fn0) ks xs := (PySem.W.byRow2 "special-get-raises" (P := fun w => Hd.RunN R M w no 0 fn0 ks xs) run_n0_f run_n0_t w)
end K32.Hh
end
section
set_option maxHeartbeats 2000000
namespace SX
open PySem PySem.Spec PyProof.Rows L2
/-- the signs of a text -/
def signs (z : Str) : List Str := z.cps.toList.map fun c => ⟨#[c]⟩
theorem signs_vals {z : Str} {acc : Array Value} (h : ItemsOf (SignAt z) acc z.cps.size) : Vals ((signs z).map V.str) acc.toList := by
  have key : ∀ (n : Nat) (cs : List Nat) (us : List Value), us.length = cs.length → (∀ (i : Nat) (v : Value), us[i]? = some v → ∃ c t, cs[i]? = some c ∧ v = .str ⟨#[c]⟩ t) → Vals ((cs.map fun c => (⟨#[c]⟩ : Str)).map V.str) us := by
    intro n cs
    induction cs with
    | nil =>
      intro us hl _
      cases us with
      | nil => exact .nil
      | cons u us => cases hl
    | cons c cs ih =>
      intro us hl hh
      cases us with
      | nil => cases hl
      | cons u us =>
        obtain ⟨c', t, e1, e2⟩ := hh 0 u rfl
        have : c' = c := by simpa using e1.symm
        subst this
        refine .cons ⟨t, e2⟩ (ih us (by simpa using hl) fun i v hi => ?_)
        obtain ⟨d, t', f1, f2⟩ := hh (i + 1) v (by simpa using hi)
        exact ⟨d, t', by simpa using f1, f2⟩
  refine key 0 z.cps.toList acc.toList (by rw [Array.length_toList, Array.length_toList]; exact h.1) fun i v hi => ?_
  rw [Array.getElem?_toList] at hi
  obtain ⟨c, t, e1, e2⟩ := h.2 i v hi
  exact ⟨c, t, by rw [Array.getElem?_toList]; exact e1, e2⟩
def rListStr : List V → Hp → VK → Prop := fun xs H Q => ∃ z, xs = [V.str z] ∧ z.cps.size ≤ sizeLine ∧ ∀ l, H l = none → Q (.ref l) (upd H l (.lst ((signs z).map V.str)))
theorem cr_listStr {X : Cx} (hc : X.calm = true) : CallR X (.type "list") rListStr := by
  intro pins s σ H xs us Q I r h
  obtain ⟨z, rfl, hz, q⟩ := h
  obtain ⟨u, rfl, rx⟩ := vals1 r
  obtain ⟨t, rfl⟩ := rx
  refine call_list_str (I.ok.hd hc) z t (fun h' tk acc c k e hacc => ?_) hz
  have hl : ((signs z).map V.str).length ≤ sizeLine := by unfold signs; rw [List.length_map, List.length_map, Array.length_toList]; exact hz
  exact ⟨.ref s.heap.objs.size, _, I.laid (t' := tk) k (Nat.le_refl _) (show ObjOk X.prog X.w _ h' _ (.lst ((signs z).map V.str)) from ⟨hl, acc.toList, c, signs_vals hacc, e⟩), rfl, q _ (I.hok.fresh (Nat.le_refl _))⟩
end SX
end
section
set_option maxHeartbeats 4000000
namespace K32
open PySem L2 Evl G OW
structure Cal (P : Program) (w : World) (K : PySem.W.Frag) (mg : Str → Option Value) (base : Heap) (x : Str) (f : Addr) (fd : FuncData) (ps : List Str) (k : Nat) (sp : Sp) : Prop where
  ok : FnOk P w K mg base CX0 k f fd ps sp
  mgx : mg x = some (.ref f)
  kp : PySem.W.keepIn K (.ref f) = true
  bd : Binds K fd ps []
structure CalG (P : Program) (w : World) (K : PySem.W.Frag) (mg : Str → Option Value) (base : Heap) (x : Str) (f : Addr) (fd : FuncData) (ps : List Str) (k : Nat) (sp : Sp) : Prop where
  ok : FnG P w K mg base CX0 k f fd ps sp
  mgx : mg x = some (.ref f)
  kp : PySem.W.keepIn K (.ref f) = true
  bd : Binds K fd ps []
structure Me (K : PySem.W.Frag) (mg : Str → Option Value) (x : Str) (f : Addr) (fd : FuncData) (ps : List Str) : Prop where
  mgx : mg x = some (.ref f)
  kp : PySem.W.keepIn K (.ref f) = true
  bd : Binds K fd ps []
/-! ### which type -/
def isStrD : PyData → Bool
  | .str _ => true
  | _ => false
def isTupD : PyData → Bool
  | .tuple _ => true
  | _ => false
def isInD : PyData → Bool
  | .int _ | .bool _ => true
  | _ => false
def isBlD : PyData → Bool
  | .bool _ => true
  | _ => false
theorem kit_str : ∀ d : PyData, kitB (tyD d) "str" = some (isStrD d)
  | .none => (by decide +kernel : kitB "NoneType" "str" = some false)
  | .bool _ => (by decide +kernel : kitB "bool" "str" = some false)
  | .int _ => (by decide +kernel : kitB "int" "str" = some false)
  | .str _ => (by decide +kernel : kitB "str" "str" = some true)
  | .list _ => (by decide +kernel : kitB "list" "str" = some false)
  | .tuple _ => (by decide +kernel : kitB "tuple" "str" = some false)
  | .dict _ => (by decide +kernel : kitB "dict" "str" = some false)
theorem kit_tup : ∀ d : PyData, kitB (tyD d) "tuple" = some (isTupD d)
  | .none => (by decide +kernel : kitB "NoneType" "tuple" = some false)
  | .bool _ => (by decide +kernel : kitB "bool" "tuple" = some false)
  | .int _ => (by decide +kernel : kitB "int" "tuple" = some false)
  | .str _ => (by decide +kernel : kitB "str" "tuple" = some false)
  | .list _ => (by decide +kernel : kitB "list" "tuple" = some false)
  | .tuple _ => (by decide +kernel : kitB "tuple" "tuple" = some true)
  | .dict _ => (by decide +kernel : kitB "dict" "tuple" = some false)
theorem kit_int : ∀ d : PyData, kitB (tyD d) "int" = some (isInD d)
  | .none => (by decide +kernel : kitB "NoneType" "int" = some false)
  | .bool _ => (by decide +kernel : kitB "bool" "int" = some true)
  | .int _ => (by decide +kernel : kitB "int" "int" = some true)
  | .str _ => (by decide +kernel : kitB "str" "int" = some false)
  | .list _ => (by decide +kernel : kitB "list" "int" = some false)
  | .tuple _ => (by decide +kernel : kitB "tuple" "int" = some false)
  | .dict _ => (by decide +kernel : kitB "dict" "int" = some false)
theorem kit_bool : ∀ d : PyData, kitB (tyD d) "bool" = some (isBlD d)
  | .none => (by decide +kernel : kitB "NoneType" "bool" = some false)
  | .bool _ => (by decide +kernel : kitB "bool" "bool" = some true)
  | .int _ => (by decide +kernel : kitB "int" "bool" = some false)
  | .str _ => (by decide +kernel : kitB "str" "bool" = some false)
  | .list _ => (by decide +kernel : kitB "list" "bool" = some false)
  | .tuple _ => (by decide +kernel : kitB "tuple" "bool" = some false)
  | .dict _ => (by decide +kernel : kitB "dict" "bool" = some false)
theorem str_of {H : Hp} {v : V} {d : PyData} (h : Dq H v d) (k : isStrD d = true) : ∃ x, d = .str x ∧ v = .str x := by
  cases h with
  | str x => exact ⟨x, rfl, rfl⟩
  | _ => cases k
theorem tup_of {H : Hp} {v : V} {d : PyData} (h : Dq H v d) (k : isTupD d = true) : ∃ a xs ds, d = .tuple ds ∧ v = .ref a ∧ H a = some (.tup xs) ∧ DqAll H xs ds := by
  cases h with
  | tup a q => exact ⟨_, _, _, rfl, rfl, a, q⟩
  | _ => cases k
section
variable {P : Program} {w : World} {K : PySem.W.Frag} {mg : Str → Option Value} {base : Heap} {σ : L2.St} {H : Hp} {ta tb te tl : TE} {tt : TT} {j : Nat} {vs : List Nat}
theorem ev_isiB {x : V} {t : String} {n : String} {b : Bool} (h : Ev ta σ H x) (ty : ∀ H1, Ex H H1 → TyX K H1 x (.type t)) (hb : kitB t n = some b) :
    Ev (tCB (rIsi K) (tCons ta (tCons (tC (.ty n)) tNil))) σ H (.bl b) := ev_cb (ea_cons h (ea_cons ev_c ea_nil)) (rc_isi (.ty n) ty (kit_ty hb))
theorem ev_isiD {v : V} {d : PyData} {n : String} {b : Bool} (h : Ev ta σ H v) (hd : Dq H v d) (hb : kitB (tyD d) n = some b) : Ev (tCB (rIsi K) (tCons ta (tCons (tC (.ty n)) tNil))) σ H (.bl b) :=
  ev_isiB h (fun H1 e => .base (ty_of (hd.mono e))) hb
end
def RetU (xs : List V) (H : Hp) (Q : VK) : Prop := ∀ p H2, H p = none → Ex H H2 → H2 p = some (.tup xs) → Q (.ref p) H2
def SpU (sp : Sp) (vs : List V) (H : Hp) (xs : List V) : Prop := ∀ H1, Ex H H1 → ∀ Q : VK, RetU xs H1 Q → ∀ E : XK, sp vs H1 Q E
section
variable {P : Program} {w : World} {K : PySem.W.Frag} {mg : Str → Option Value} {base : Heap} {σ : L2.St} {H : Hp} {ta tb te tl : TE} {tt : TT} {j : Nat} {vs : List Nat}
theorem eu_call {sp : Sp} {dvs vs xs : List V} {E : XK} {ta : TA} (h : EvA ta σ H vs) (hs : SpU sp (vs ++ dvs) H xs) : EvU (tCall sp dvs E ta) σ H xs := fun H1 e Q q =>
  h H1 e _ fun H2 e2 => hs H2 (e.trans e2) Q (fun p H3 hp e3 h3 => q p H3 (fresh_back e2 hp) (e2.trans e3) h3) _
theorem ev_at0 {a : Addr} {xs : List V} {y : V} (h : Ev te σ H (.ref a)) (ha : H a = some (.tup (y :: xs))) : Ev (tOp (rIxT K) te (tC (.int 0))) σ H y := ev_op h ev_c (rv_ixT (st_of ha) (atI_nat (j := 0) rfl))
theorem ev_at1 {a : Addr} {xs : List V} {y z : V} (h : Ev te σ H (.ref a)) (ha : H a = some (.tup (y :: z :: xs))) : Ev (tOp (rIxT K) te (tC (.int 1))) σ H z := ev_op h ev_c (rv_ixT (st_of ha) (atI_nat (j := 1) rfl))
theorem ev_at2 {a : Addr} {xs : List V} {y z v : V} (h : Ev te σ H (.ref a)) (ha : H a = some (.tup (y :: z :: v :: xs))) : Ev (tOp (rIxT K) te (tC (.int 2))) σ H v := ev_op h ev_c (rv_ixT (st_of ha) (atI_nat (j := 2) rfl))
theorem ev_lenTup {a : Addr} {xs : List V} (h : Ev te σ H (.ref a)) (ha : H a = some (.tup xs)) : Ev (tCB (fun xs H Q => ∃ p ys, xs = [.ref p] ∧ (SqL K H p ys ∨ SqT K H p ys) ∧ Q (.int (ys.length : Int)) H) (tCons te tNil)) σ H (.int (xs.length : Int)) := ev_cb (ea_cons h ea_nil) (rc_len (.inr (st_of ha)) rfl)
end
def SpQs (sp : Sp) (vs : List V) (H : Hp) (ds : List PyData) : Prop := ∀ H1, Ex H H1 → ∀ Q : VK, (∀ p xs H2, H1 p = none → Ex H1 H2 → H2 p = some (.lst xs) → DqAll H2 xs ds → Q (.ref p) H2) → ∀ E : XK, sp vs H1 Q E
section
variable {P : Program} {w : World} {K : PySem.W.Frag} {mg : Str → Option Value} {base : Heap} {σ : L2.St} {H : Hp} {ta tb te tl : TE} {tt : TT} {j : Nat} {vs : List Nat}
theorem lq_call {sp : Sp} {dvs vs : List V} {ds : List PyData} {E : XK} {ta : TA} (h : EvA ta σ H vs) (hs : SpQs sp (vs ++ dvs) H ds) : EvLq (tCall sp dvs E ta) σ H ds := fun H1 e Q q =>
  h H1 e _ fun H2 e2 => hs H2 (e.trans e2) Q (fun p xs H3 hp e3 h3 k => q p xs H3 (fresh_back e2 hp) (e2.trans e3) h3 k) _
theorem given_filterQ (ds : List PyData) (f : PyData → Bool) (g : PyData → V) : given ds.length (fun i => f (ds.getD i .none)) (fun i => g (ds.getD i .none)) = (ds.filter f).map g := by
  have e : ds = (List.range ds.length).map (fun i => ds.getD i .none) := by
    apply List.ext_getElem
    · simp
    · intro k h1 h2
      simp [List.getD_eq_getElem?_getD, List.getElem?_eq_getElem h1]
  unfold given
  conv => rhs; rw [e]
  rw [List.filter_map, List.map_map]
  rfl
theorem getD_q {ds : List PyData} {k : Nat} {r d : PyData} (h : ds[k]? = some r) : ds.getD k d = r := by rw [List.getD_eq_getElem?_getD, h] <;> rfl
/-- [e for x in a new list of data if ..] -/
theorem el_lcQ (f : PyData → Bool) (g : PyData → V) {ds : List PyData} (h : EvLq tl σ H ds) (hz : ds.length ≤ 40000) (hw : ∀ x, wipe ((wipe σ vs).set j (some x)) vs = wipe σ vs)
    (ht : ∀ (x : V) (t : PyData) H1, Ex H H1 → Dq H1 x t → t ∈ ds → EvT tt ((wipe σ vs).set j (some x)) H1 (f t)) (he : ∀ (x : V) (t : PyData) H1, Ex H H1 → Dq H1 x t → t ∈ ds → f t = true → Ev te ((wipe σ vs).set j (some x)) H1 (g t)) :
    EvL (tLc (iList K tl) (gName j) tt te vs) σ H ((ds.filter f).map g) := fun H0 e Q q => h H0 e _ fun a xs H1 ha e1 hx k => ⟨a, rfl, ⟨xs, sq_of hx⟩, fun Dl hD => by
  have hl : xs.length = ds.length := k.len
  refine lc_list (xs := xs) (Cw H1 (fun i => f (ds.getD i .none)) (fun i => g (ds.getD i .none)) Dl) ⟨hD, Ex.new hD, upd_same⟩ (fun i H' _ p => sq_of (p.2.1 a _ hx)) (fun i x H' hi p => ?_) (fun H' p => ?_)
  · obtain ⟨t, hti, hxt⟩ := k.get hi
    have hm := List.mem_of_getElem? hti
    refine ⟨hw x, cw_turn p (by have := (List.getElem?_eq_some_iff.mp hi).1; omega) ?_ (fun hf => ?_)⟩
    · rw [getD_q hti]; exact ht x t H1 (e.trans e1) hxt hm
    · rw [getD_q hti] at hf ⊢; exact he x t H1 (e.trans e1) hxt hm hf
  · rw [hl] at p
    refine q Dl H' (fresh_back e1 p.1) (e1.trans p.2.1) ?_
    rw [p.2.2, given_filterQ]⟩
theorem filter_yes {α : Type} (l : List α) : l.filter (fun _ => true) = l := List.filter_eq_self.mpr fun _ _ => rfl
theorem el_eq {xs ys : List V} (h : EvL te σ H xs) (e : xs = ys) : EvL te σ H ys := e ▸ h
/-- all([e for l in a list]) -/
theorem ev_allB {α : Type} (f : α → Bool) {ts : List α} (h : EvL te σ H (ts.map fun t => V.bl (f t))) : Ev (tCB (rAll K) (tCons te tNil)) σ H (.bl (ts.all f)) := ev_cbL h fun p H1 e h1 => by
  have := rc_all (K := K) (H := H1) (p := p) (bs := ts.map f) (sq_of (by rw [List.map_map]; exact h1))
  rw [List.all_map] at this
  exact this
end
def wo (H : Hp) (p : Addr) : Hp := fun b => if b = p then none else H b
theorem wo_ne {H : Hp} {p b : Addr} (h : b ≠ p) : wo H p b = H b := by unfold wo; rw [if_neg h]
theorem wo_at {H : Hp} {p : Addr} : wo H p p = none := by unfold wo; rw [if_pos rfl]
theorem wo_ex {H : Hp} {p : Addr} : Ex (wo H p) H := fun b o h => by
  by_cases hb : b = p
  · subst hb; rw [wo_at] at h; cases h
  · rwa [wo_ne hb] at h
theorem wo_mono {H H' : Hp} {p : Addr} (e : Ex H H') : Ex (wo H p) (wo H' p) := fun b o h => by
  by_cases hb : b = p
  · subst hb; rw [wo_at] at h; cases h
  · rw [wo_ne hb] at h ⊢; exact e b o h
theorem wo_sub {H H' : Hp} {p : Addr} (e : Ex (wo H p) H') : Ex (wo H p) (wo H' p) := fun b o h => by
  by_cases hb : b = p
  · subst hb; rw [wo_at] at h; cases h
  · have := e b o h
    rwa [wo_ne hb]
theorem wo_upd {H : Hp} {p : Addr} {o : HO} : Ex (wo H p) (upd H p o) := fun b u h => by
  by_cases hb : b = p
  · subst hb; rw [wo_at] at h; cases h
  · rw [upd_ne hb]; rwa [wo_ne hb] at h
theorem wo_fresh {H H' : Hp} {p q : Addr} {o : HO} (hp : H p = some o) (e : Ex (wo H p) H') (h : H' q = none) (hp' : ∃ o, H' p = some o) : H q = none := by
  by_cases hq : q = p
  · subst hq; obtain ⟨o, ho⟩ := hp'; rw [ho] at h; cases h
  · cases hh : H q with
    | none => rfl
    | some u => have := e q u (by rw [wo_ne hq]; exact hh); rw [h] at this; cases this
def PotOk (a b : Int) : Prop := 0 ≤ a ∧ 0 ≤ b ∧ b < 4294967296
def PotAt (H : Hp) (p : Addr) : Prop := ∃ a b, PotOk a b ∧ H p = some (.lst [.int a, .int b])
def sp_pot (K : PySem.W.Frag) : Sp := fun vs H Q _ => ∃ (s : Addr) (ns : List Int) (k : Int), vs = [.ref s, .int k] ∧ SqL K H s (ns.map V.int) ∧ 0 ≤ k ∧ k ≤ 100 ∧ ∀ p H2, H p = none → Ex H H2 → PotAt H2 p → Q (.ref p) H2
def sp_draw : Sp := fun vs H Q _ => ∃ p n, vs = [.ref p, .int n] ∧ PotAt H p ∧ 0 < n ∧ n < 1073741824 ∧ ∀ d H2, 0 ≤ d → d < n → Ex (wo H p) H2 → PotAt H2 p → Q (.int d) H2
def sp_pick (K : PySem.W.Frag) : Sp := fun vs H Q _ => ∃ (p s : Addr) (xs : List V), vs = [.ref p, .ref s] ∧ PotAt H p ∧ SqL K (wo H p) s xs ∧ 0 < xs.length ∧ xs.length ≤ 1000 ∧ ∀ (i : Nat) (v : V) (H2 : Hp), xs[i]? = some v → Ex (wo H p) H2 → PotAt H2 p → Q v H2
theorem fmod_pos {a b : Int} (h : 0 < b) : 0 ≤ a.fmod b ∧ a.fmod b < b := by
  rw [Int.fmod_eq_emod_of_nonneg _ (by omega)]
  exact ⟨Int.emod_nonneg _ (by omega), Int.emod_lt_of_pos _ h⟩
section
variable {K : PySem.W.Frag} {H : Hp}
theorem rv_res {r : R2} {x y z z' : V} {H : Hp} (h : RV r x y H z) (e : z = z') : RV r x y H z' := e ▸ h
theorem atI_int {ns : List Int} {i : Int} (h0 : 0 ≤ i) (h : i < (ns.length : Int)) : atI (ns.map V.int) i = some (.int (ns.getD i.toNat 0)) := by
  obtain ⟨k, rfl⟩ : ∃ k : Nat, i = (k : Int) := ⟨i.toNat, by omega⟩
  rw [Int.toNat_natCast]
  have hk : k < ns.length := by omega
  exact atI_nat (by rw [List.getElem?_map, List.getElem?_eq_getElem hk, List.getD_eq_getElem?_getD, List.getElem?_eq_getElem hk] <;> rfl)
theorem cut_one (ns : List Int) : cutV (ns.map V.int) none (some 1) = (ns.take 1).map V.int := by
  cases ns with
  | nil => rfl
  | cons a l =>
    show ((((a :: l).map V.int).drop 0).take (min 1 ((a :: l).map V.int).length - 0)) = _
    rw [List.length_map, List.length_cons, Nat.min_eq_left (by omega)]
    rfl
end
section
variable {K : PySem.W.Frag} {σ : L2.St} {H : Hp} {p : Addr} {i : Nat} {tA : TA} {tn : TE} {Q : VK} {E : XK}
theorem PotAt.mono {H' : Hp} (h : PotAt H p) (e : Ex H H') : PotAt H' p := by obtain ⟨a, b, q, r⟩ := h; exact ⟨a, b, q, e p _ r⟩
theorem PotAt.some (h : PotAt H p) : ∃ o, H p = some o := by obtain ⟨a, b, q, r⟩ := h; exact ⟨_, r⟩
theorem pickC {xs : List V} (hp : PotAt H p) (hv : σ[i]? = some (some (.ref p))) (ha : EvA tA σ (wo H p) xs) (h0 : 0 < xs.length) (h1 : xs.length ≤ 1000) (k : ∀ (j : Nat) (v : V) (H2 : Hp), xs[j]? = some v → Ex (wo H p) H2 → PotAt H2 p → Q v H2) :
    tCall (sp_pick K) [] E (tCons (tVar i) (tCons (tLst tA) tNil)) σ H Q := ⟨.ref p, hv, ha H wo_ex _ fun H1 e1 => ⟨sz_of (by omega), fun s hs => by
      have hp1 := hp.mono e1
      obtain ⟨o, ho⟩ := hp1.some
      have hne : s ≠ p := (ne_of_none ho hs).symm
      exact ⟨p, s, xs, rfl, hp1.mono (Ex.new hs), sq_of (by rw [wo_ne hne]; exact upd_same), h0, h1, fun j v H2 hj e2 h2 => k j v H2 hj ((wo_mono (e1.trans (Ex.new hs))).trans e2) h2⟩⟩⟩
theorem drawC {n : Int} (hp : PotAt H p) (hv : σ[i]? = some (some (.ref p))) (hn : Ev tn σ (wo H p) (.int n)) (h0 : 0 < n) (h1 : n < 1073741824) (k : ∀ d H2, 0 ≤ d → d < n → Ex (wo H p) H2 → PotAt H2 p → Q (.int d) H2) :
    tCall sp_draw [] E (tCons (tVar i) (tCons tn tNil)) σ H Q := ⟨.ref p, hv, hn H wo_ex _ fun H1 e1 => ⟨p, n, rfl, hp.mono e1, h0, h1, fun d H2 d0 d1 e2 h2 => k d H2 d0 d1 ((wo_mono e1).trans e2) h2⟩⟩
theorem q_parL {D : Ends} {tz : TS} {i j : Nat} {ta tb : TE} {xs : List V} {w : V} (h : EvL ta σ H xs) (hb : ∀ H1, Ex H H1 → Ev tb σ H1 w) (k : ∀ p H1, H p = none → Ex H H1 → H1 p = some (.lst xs) → tz D ((σ.set i (some (.ref p))).set j (some w)) H1) :
    tSeq (tPar i j (tCons ta (tCons tb tNil))) tz D σ H := h H (Ex.refl H) _ fun p H1 hp e1 h1 => (hb H1 e1) H1 (Ex.refl _) _ fun H2 e2 => ⟨_, _, rfl, k p H2 hp (e1.trans e2) (e2 p _ h1)⟩
end
section
variable {K : PySem.W.Frag} {σ : L2.St} {H : Hp} {p : Addr} {i j i0 : Nat} {tA tr : TA} {tn ta tb tl te : TE} {Q : VK} {E : XK} {D : Ends} {tz : TS} {xs : List V} {vs : List Nat} {QA : List V → Hp → Prop} {ns : List Int} {r : R2} {v : V}
theorem ac_v (h : Ev te σ H v) (k : ∀ H1, Ex H H1 → tr σ H1 fun xs H2 => QA (v :: xs) H2) : tCons te tr σ H QA := h H (Ex.refl H) _ k
theorem ac_nil (k : QA [] H) : tNil σ H QA := k
theorem ac_k (h : te σ H fun v H1 => tr σ H1 fun xs H2 => QA (v :: xs) H2) : tCons te tr σ H QA := h
theorem op_k (h : ta σ H fun x H1 => tb σ H1 fun y H2 => r x y H2 Q) : tOp r ta tb σ H Q := h
theorem lst_k (h : tA σ H fun vs H1 => vs.length ≤ sizeLine ∧ ∀ p, H1 p = none → Q (.ref p) (upd H1 p (.lst vs))) : tLst tA σ H Q := h
theorem tup_k (h : tA σ H fun vs H1 => vs.length ≤ sizeLine ∧ ∀ p, H1 p = none → Q (.ref p) (upd H1 p (.tup vs))) : tTup tA σ H Q := h
theorem ret_k (h : te σ H D.rt) : tRet te D σ H := h
theorem asg_k (h : te σ H fun v H1 => tz D (σ.set i (some v)) H1) : tSeq (tAsg te (gName i)) tz D σ H := h
theorem v_k {v : V} (h : Ev te σ H v) (k : ∀ H1, Ex H H1 → Q v H1) : te σ H Q := h H (Ex.refl H) _ k
theorem if_k {c : TT} (h : c σ H fun b H1 => if b = true then ta σ H1 Q else tb σ H1 Q) : tIf c ta tb σ H Q := h
theorem call_k {sp : Sp} {dvs : List V} (h : tA σ H fun vs H1 => sp (vs ++ dvs) H1 Q E) : tCall sp dvs E tA σ H Q := h
theorem bm_k {Tn : String} {rm : V → List V → Hp → VK → Prop} {to : TE} {t : TA} (h : to σ H fun x H1 => tyV K Tn x H1 ∧ t σ H1 fun xs H2 => rm x xs H2 Q) : tBM K Tn rm to t σ H Q := h
theorem drop_k (h : te σ H fun _ H1 => D.nx σ H1) : tDrop te D σ H := h
theorem q_par2L {xs ys : List V} (h : EvL ta σ H xs) (hb : ∀ H1, Ex H H1 → EvL tb σ H1 ys) (k : ∀ p q H1, H p = none → H q = none → p ≠ q → Ex H H1 → H1 p = some (.lst xs) → H1 q = some (.lst ys) → tz D ((σ.set i (some (.ref p))).set j (some (.ref q))) H1) :
    tSeq (tPar i j (tCons ta (tCons tb tNil))) tz D σ H := h H (Ex.refl H) _ fun p H1 hp e1 h1 => (hb H1 e1) H1 (Ex.refl _) _ fun q H2 hq e2 h2 => ⟨_, _, rfl, k p q H2 hp (fresh_back e1 hq) (fun z => by subst z; rw [h1] at hq; cases hq) (e1.trans e2) (e2 p _ h1) h2⟩
theorem wo_tr {H1 H2 H3 : Hp} (e : Ex (wo H1 p) H2) (e' : Ex (wo H2 p) H3) : Ex (wo H1 p) H3 := (wo_sub e).trans e'
end
section
variable {K : PySem.W.Frag} {σ : L2.St} {H : Hp} {p : Addr} {i j : Nat} {ta tb te : TE} {Q : VK} {E : XK}
theorem if_mid {c : TT} {b : Bool} (Z : V → Hp → Prop) (hc : EvT c σ H b) (h1 : b = true → ∀ H1, Ex H H1 → ∀ Q' : VK, (∀ v H2, Z v H2 → Q' v H2) → ta σ H1 Q') (h2 : b = false → ∀ H1, Ex H H1 → ∀ Q' : VK, (∀ v H2, Z v H2 → Q' v H2) → tb σ H1 Q') (k : ∀ v H2, Z v H2 → Q v H2) : tIf c ta tb σ H Q := hc H (Ex.refl _) _ fun H1 e1 => by
  cases b with
  | true => rw [if_pos rfl]; exact h1 rfl H1 e1 Q k
  | false => rw [if_neg (by decide)]; exact h2 rfl H1 e1 Q k
theorem dq_new {q : Addr} {xs : List V} {ds : List PyData} (hp : PotAt H p) (hq : H q = none) (k : DqAll (wo H p) xs ds) : Dq (wo (upd H q (.tup xs)) p) (.ref q) (.tuple ds) := by
  obtain ⟨o, ho⟩ := hp.some
  refine .tup ?_ (k.mono (wo_mono (Ex.new hq)))
  rw [wo_ne (ne_of_none ho hq).symm]
  exact upd_same
end
/-! ### what evaluates to data apart from the pot -/
theorem catA {X : Cx} {K : PySem.W.Frag} (hK : X.K = K) : OpR X (binaryOp .Add) (rCatA K) := hK ▸ op_catA
/-- the heap with the places Z out of sight: the pot, a list that still grows -/
def hid (Z : List Addr) (H : Hp) : Hp := fun b => if b ∈ Z then none else H b
theorem hid_off {Z : List Addr} {H : Hp} {b : Addr} (h : b ∉ Z) : hid Z H b = H b := if_neg h
theorem hid_at {Z : List Addr} {H : Hp} {b : Addr} (h : b ∈ Z) : hid Z H b = none := if_pos h
theorem hid_ex {Z : List Addr} {H : Hp} : Ex (hid Z H) H := fun b o h => by
  by_cases hb : b ∈ Z
  · rw [hid_at hb] at h; cases h
  · rwa [hid_off hb] at h
theorem hid_mono {Z : List Addr} {H H' : Hp} (e : Ex H H') : Ex (hid Z H) (hid Z H') := fun b o h => by
  by_cases hb : b ∈ Z
  · rw [hid_at hb] at h; cases h
  · rw [hid_off hb] at h ⊢; exact e b o h
theorem hid_wo {Z : List Addr} {H : Hp} {p : Addr} (hp : p ∈ Z) : Ex (hid Z H) (wo H p) := fun b o h => by
  by_cases hb : b ∈ Z
  · rw [hid_at hb] at h; cases h
  · rw [hid_off hb] at h
    rwa [wo_ne (show b ≠ p from fun z => hb (by rw [z]; exact hp))]
theorem hid_sub {Z : List Addr} {H H' : Hp} {p : Addr} (hp : p ∈ Z) (e : Ex (wo H p) H') : Ex (hid Z H) (hid Z H') := fun b o h => by
  by_cases hb : b ∈ Z
  · rw [hid_at hb] at h; cases h
  · have := e b o (hid_wo hp b o h)
    rwa [hid_off hb]
theorem hid_fit {Z Z' : List Addr} {H : Hp} (h : ∀ b ∈ Z', b ∈ Z) : Ex (hid Z H) (hid Z' H) := fun b o k => by
  by_cases hb : b ∈ Z
  · rw [hid_at hb] at k; cases k
  · rw [hid_off hb] at k; rwa [hid_off fun z => hb (h b z)]
theorem hid_one {p : Addr} {H : Hp} : hid [p] H = wo H p := by
  funext b
  by_cases hb : b = p
  · subst hb; rw [wo_at, hid_at (by simp)]
  · rw [wo_ne hb, hid_off (by simpa using hb)]
def Hd (Z : List Addr) (H : Hp) : Prop := ∀ b ∈ Z, ∃ o, H b = some o
theorem Hd.mono {Z : List Addr} {H H' : Hp} (h : Hd Z H) (e : Ex H H') : Hd Z H' := fun b hb => let ⟨o, ho⟩ := h b hb; ⟨o, e b o ho⟩
theorem Hd.step {Z : List Addr} {H H' : Hp} {p : Addr} (h : Hd Z H) (e : Ex (wo H p) H') (hp : PotAt H' p) : Hd Z H' := fun b hb => by
  by_cases hq : b = p
  · rw [hq]; exact hp.some
  · obtain ⟨o, ho⟩ := h b hb
    exact ⟨o, e b o (by rwa [wo_ne hq])⟩
theorem Hd.new {Z : List Addr} {H : Hp} {a : Addr} (h : Hd Z H) (ha : H a = none) : a ∉ Z := fun z => by
  obtain ⟨o, ho⟩ := h a z
  rw [ha] at ho; cases ho
def EvW (Z : List Addr) (te : TE) (σ : L2.St) (H : Hp) (d : PyData) : Prop := ∀ H1, Ex H H1 → ∀ Q : VK, (∀ v H2, Ex H1 H2 → Dq (hid Z H2) v d → Q v H2) → te σ H1 Q
def EvAW (Z : List Addr) (tA : TA) (σ : L2.St) (H : Hp) (ds : List PyData) : Prop := ∀ H1, Ex H H1 → ∀ Q : List V → Hp → Prop, (∀ vs H2, Ex H1 H2 → DqAll (hid Z H2) vs ds → Q vs H2) → tA σ H1 Q
def EvLw (Z : List Addr) (te : TE) (σ : L2.St) (H : Hp) (ds : List PyData) : Prop := ∀ H1, Ex H H1 → ∀ Q : VK, (∀ a vs H2, H1 a = none → Ex H1 H2 → hid Z H2 a = some (.lst vs) → DqAll (hid Z H2) vs ds → Q (.ref a) H2) → te σ H1 Q
section
variable {K : PySem.W.Frag} {σ : L2.St} {H : Hp} {te ta tb : TE} {tA : TA} {v : V} {d : PyData} {ds es : List PyData} {D : Ends} {tz : TS} {i : Nat} {p : Addr} {Z : List Addr}
theorem ew_of (h : Ev te σ H v) (hd : ∀ H1, Dq H1 v d) : EvW Z te σ H d := fun H1 e Q q => h H1 e Q fun H2 e2 => q v H2 e2 (hd _)
theorem ew_non : EvW Z (tC .non) σ H .none := ew_of ev_c fun _ => .non
theorem ew_bl {b : Bool} : EvW Z (tC (.bl b)) σ H (.bool b) := ew_of ev_c fun _ => .bl b
theorem ew_int {i : Int} : EvW Z (tC (.int i)) σ H (.int i) := ew_of ev_c fun _ => .int i
theorem ew_neg {i : Int} : EvW Z (tUn (rU fun i => .int (-i)) (tC (.int i))) σ H (.int (-i)) := ew_of (ev_un ev_c ru_neg) fun _ => .int (-i)
theorem ew_str {x : Str} : EvW Z (tC (.str x)) σ H (.str x) := ew_of ev_c fun _ => .str x
theorem aw_nil : EvAW Z tNil σ H [] := fun H1 _ Q q => q [] H1 (Ex.refl _) .nil
theorem aw_cons (h : EvW Z te σ H d) (t : EvAW Z tA σ H ds) : EvAW Z (tCons te tA) σ H (d :: ds) := fun H1 e Q q =>
  h H1 e _ fun v H2 e2 a => t H2 (e.trans e2) _ fun vs H3 e3 k => q (v :: vs) H3 (e2.trans e3) (.cons (a.mono (hid_mono e3)) k)
theorem ew_tup (hp : Hd Z H) (h : EvAW Z tA σ H ds) (hl : ds.length ≤ 100000) : EvW Z (tTup tA) σ H (.tuple ds) := fun H1 e Q q =>
  h H1 e _ fun vs H2 e2 k => ⟨sz_of (by rw [k.len]; exact hl), fun a ha => q _ _ (e2.trans (Ex.new ha)) (.tup (by rw [hid_off ((hp.mono (e.trans e2)).new ha)]; exact upd_same) (k.mono (hid_mono (Ex.new ha))))⟩
theorem lw_lst (hp : Hd Z H) (h : EvAW Z tA σ H ds) (hl : ds.length ≤ 100000) : EvLw Z (tLst tA) σ H ds := fun H1 e Q q =>
  h H1 e _ fun vs H2 e2 k => ⟨sz_of (by rw [k.len]; exact hl), fun a ha => q a vs _ (fresh_back e2 ha) (e2.trans (Ex.new ha)) (by rw [hid_off ((hp.mono (e.trans e2)).new ha)]; exact upd_same) (k.mono (hid_mono (Ex.new ha)))⟩
theorem ew_lst (hp : Hd Z H) (h : EvAW Z tA σ H ds) (hl : ds.length ≤ 100000) : EvW Z (tLst tA) σ H (.list ds) := fun H1 e Q q =>
  h H1 e _ fun vs H2 e2 k => ⟨sz_of (by rw [k.len]; exact hl), fun a ha => q _ _ (e2.trans (Ex.new ha)) (.lst (by rw [hid_off ((hp.mono (e.trans e2)).new ha)]; exact upd_same) (k.mono (hid_mono (Ex.new ha))))⟩
theorem ew_dnew (hp : Hd Z H) : EvW Z tDNewK σ H (.dict []) := fun H1 e Q q a ha => q _ _ (Ex.new ha) (.dct [] (by rw [hid_off ((hp.mono e).new ha)]; exact upd_same))
theorem ew_done (hp : Hd Z H) {x : Str} {i : Int} : EvW Z (tDisp [(tC (.str x), tC (.int i))]) σ H (.dict [(.str x, .int i)]) := fun H1 e Q q a ha => by
  refine ⟨upd_same, [(Sum.inr x, V.int i)], rfl, by show 1 ≤ 15; decide, ?_⟩
  rw [upd_upd]
  refine q _ _ (Ex.new ha) (.dct [(x, i)] ?_)
  rw [hid_off ((hp.mono e).new ha)]; exact upd_same
/-- x + [..] -/
theorem lw_cat {l : Addr} {xs : List V} (hp : Hd Z H) (ha : Ev ta σ H (.ref l)) (hl : hid Z H l = some (.lst xs)) (k : DqAll (hid Z H) xs ds) (hb : EvLw Z tb σ H es) (hz : ds.length + es.length ≤ 100000) : EvLw Z (tOp rCat ta tb) σ H (ds ++ es) := fun H1 e Q q =>
  ha H1 e _ fun H2 e2 => hb H2 (e.trans e2) _ fun r ys H3 hr e3 h3 k3 => by
    have x3 := (e.trans e2).trans e3
    have hl3 : H3 l = some (.lst xs) := hid_ex _ _ (hid_mono x3 _ _ hl)
    refine ⟨l, r, xs, ys, rfl, rfl, hl3, hid_ex _ _ h3, sz_of (by rw [k.len, k3.len]; exact hz), fun u hu => q u _ _ (fresh_back (e2.trans e3) hu) ((e2.trans e3).trans (Ex.new hu)) ?_ (((k.mono (hid_mono x3)).app k3).mono (hid_mono (Ex.new hu)))⟩
    rw [hid_off ((hp.mono x3).new hu)]; exact upd_same
theorem q_lw (h : EvLw Z te σ H ds) (k : ∀ a vs H1, H a = none → Ex H H1 → hid Z H1 a = some (.lst vs) → DqAll (hid Z H1) vs ds → tz D (σ.set i (some (.ref a))) H1) : tSeq (tAsg te (gName i)) tz D σ H := h H (Ex.refl H) _ k
/-- pick(pot, s), s a list of data -/
theorem pickQ {s : Addr} {xs : List V} {j : Nat} {Q : VK} {E : XK} (hp : PotAt H p) (hz : p ∈ Z) (hv : σ[i]? = some (some (.ref p))) (hs : σ[j]? = some (some (.ref s))) (hl : hid Z H s = some (.lst xs)) (kk : DqAll (hid Z H) xs ds) (h0 : 0 < ds.length) (h1 : ds.length ≤ 1000)
    (k : ∀ (v : V) (d : PyData) (H2 : Hp), d ∈ ds → Ex (wo H p) H2 → PotAt H2 p → Dq (hid Z H2) v d → Q v H2) : tCall (sp_pick K) [] E (tCons (tVar i) (tCons (tVar j) tNil)) σ H Q := ⟨.ref p, hv, .ref s, hs, p, s, xs, rfl, hp, sq_of (hid_wo hz _ _ hl), by rw [kk.len]; exact h0, by rw [kk.len]; exact h1, fun m v H2 hm e h2 => by
      obtain ⟨d, hd, a⟩ := kk.get hm
      exact k v d H2 (List.mem_of_getElem? hd) e h2 (a.mono (hid_sub hz e))⟩
end
mutual
theorem dq_dp {K : PySem.W.Frag} {H : Hp} : ∀ (d : PyData) {v : V}, d.canLay0 = true → Dq H v d → Dp K H v d
  | .none, _, _, h => by cases h; exact .non
  | .bool _, _, _, h => by cases h; exact .bl _
  | .int _, _, _, h => by cases h; exact .int _
  | .str _, _, _, h => by cases h; exact .str _
  | .list ds, _, c, h => by cases h with | lst a k => exact .lst (sq_of a) (dqAll_dp ds (by simpa [PyData.canLay0] using c) k)
  | .tuple ds, _, c, h => by cases h with | tup a k => exact .tup (st_of a) (dqAll_dp ds (by simpa [PyData.canLay0] using c) k)
  | .dict _, _, c, _ => by simp [PyData.canLay0] at c
theorem dqAll_dp {K : PySem.W.Frag} {H : Hp} : ∀ (ds : List PyData) {vs : List V}, PyData.canLayAll0 ds = true → DqAll H vs ds → DpAll K H vs ds
  | [], _, _, h => by cases h; exact .nil
  | d :: ds, _, c, h => by
    have c' : d.canLay0 = true ∧ PyData.canLayAll0 ds = true := by simpa [PyData.canLayAll0] using c
    cases h with | cons a k => exact .cons (dq_dp d c'.1 a) (dqAll_dp ds c'.2 k)
end
theorem lay_mem : ∀ {ds : List PyData} {d : PyData}, PyData.canLayAll0 ds = true → d ∈ ds → d.canLay0 = true
  | e :: ds, d, c, h => by
    have c' : e.canLay0 = true ∧ PyData.canLayAll0 ds = true := by simpa [PyData.canLayAll0] using c
    rcases List.mem_cons.mp h with h | h
    · subst h; exact c'.1
    · exact lay_mem c'.2 h
theorem eqv_nilT (ds : List PyData) : PyData.eqv (.tuple ds) (.tuple []) = ds.isEmpty := by
  cases ds <;> simp [PyData.eqv, PyData.eqvAll]
theorem eqv_nilL (ds : List PyData) : PyData.eqv (.list ds) (.list []) = ds.isEmpty := by
  cases ds <;> simp [PyData.eqv, PyData.eqvAll]
theorem layAll_ints : ∀ ns : List Int, PyData.canLayAll0 (ns.map PyData.int) = true
  | [] => rfl
  | n :: ns => by rw [List.map_cons]; simp [PyData.canLayAll0, PyData.canLay0, layAll_ints ns]
theorem depthAll_ints : ∀ ns : List Int, PyData.depthAll (ns.map PyData.int) = 0
  | [] => rfl
  | n :: ns => by rw [List.map_cons]; simp [PyData.depthAll, PyData.depth, depthAll_ints ns]
theorem shaped_ints (ns : List Int) : SeqAt.shaped (.list (ns.map PyData.int)) = true := by
  unfold SeqAt.shaped
  simp [PyData.canLay0, layAll_ints, PyData.depth, depthAll_ints]
theorem split_at {α : Type} {l : List α} {k : Nat} {x : α} (h : l[k]? = some x) : l = l.take k ++ ([x] ++ l.drop (k + 1)) := by
  obtain ⟨hk, hx⟩ := List.getElem?_eq_some_iff.mp h
  conv => lhs; rw [← List.take_append_drop k l]
  rw [List.drop_eq_getElem_cons hk, hx]; rfl
theorem cut_take {xs : List V} {k : Nat} (h : k ≤ xs.length) : cutV xs none (some (k : Int)) = xs.take k := by
  unfold cutV
  rw [HT.sIx_none, HT.sIx_nat, Nat.min_eq_left h]; simp
theorem cut_drop {xs : List V} {k : Nat} : cutV xs (some (k : Int)) none = xs.drop k := by
  unfold cutV
  rw [HT.sIx_none, HT.sIx_nat]
  by_cases h : k ≤ xs.length
  · rw [Nat.min_eq_left h, List.take_of_length_le (by rw [List.length_drop]; exact Nat.le_refl _)]
  · rw [Nat.min_eq_right (by omega), List.drop_eq_nil_of_le (Nat.le_refl _), List.drop_eq_nil_of_le (by omega)]; simp
theorem atI_end {xs : List V} (h : xs ≠ []) : ∃ v, atI xs (-1) = some v ∧ xs[xs.length - 1]? = some v := by
  obtain ⟨l, v, rfl⟩ : ∃ l v, xs = l ++ [v] := ⟨_, _, (List.dropLast_concat_getLast h).symm⟩
  exact ⟨v, atI_last l v, by simp⟩
/-- a heap in which the pot may have changed, and new things lie -/
structure Rg (p : Addr) (H H2 : Hp) : Prop where
  x : Ex (wo H p) H2
  hp : PotAt H2 p
theorem Rg.rfl {p : Addr} {H : Hp} (h : PotAt H p) : Rg p H H := ⟨wo_ex, h⟩
theorem Rg.mono {p : Addr} {H H2 H3 : Hp} (r : Rg p H H2) (e : Ex H2 H3) : Rg p H H3 := ⟨r.x.trans e, r.hp.mono e⟩
theorem Rg.step {p : Addr} {H H2 H3 : Hp} (r : Rg p H H2) (e : Ex (wo H2 p) H3) (h : PotAt H3 p) : Rg p H H3 := ⟨wo_tr r.x e, h⟩
theorem Rg.tr {p : Addr} {H H2 H3 : Hp} (r : Rg p H H2) (r2 : Rg p H2 H3) : Rg p H H3 := r.step r2.x r2.hp
theorem Rg.hz {p : Addr} {H H2 : Hp} {Z : List Addr} (r : Rg p H H2) (hz : Hd Z H) : Hd Z H2 := hz.step r.x r.hp
theorem Rg.ex {p : Addr} {H H2 : Hp} {Z : List Addr} (r : Rg p H H2) (pz : p ∈ Z) : Ex (hid Z H) (hid Z H2) := hid_sub pz r.x
theorem Rg.at {p a : Addr} {H H2 : Hp} {Z : List Addr} {o : HO} (r : Rg p H H2) (pz : p ∈ Z) (h : hid Z H a = some o) : H2 a = some o := hid_ex _ _ (r.ex pz _ _ h)
section
variable {K : PySem.W.Frag} {σ : L2.St} {H : Hp} {p a b : Addr} {Z : List Addr} {i j i0 : Nat} {tA tr : TA} {tn ta tb tl te : TE} {t1 t2 : TT} {Q : VK} {E : XK} {D : Ends} {tz ts : TS} {xs ys : List V} {vs : List Nat} {v : V} {d : PyData}
theorem par_k (h : tA σ H fun vs H1 => ∃ v w, vs = [v, w] ∧ tz D ((σ.set i (some v)).set j (some w)) H1) : tSeq (tPar i j tA) tz D σ H := h
theorem test_k {QB : Bool → Hp → Prop} (h : te σ H fun x H' => ∃ k, x = .bl k ∧ QB k H') : tTest te σ H QB := h
theorem and_mid {b : Bool} (R S : Hp → Prop) (h1 : EvT t1 σ H b) (no : b = false → ∀ H1, Ex H H1 → R H1) (yes : b = true → ∀ H1, Ex H H1 → ∀ Q : Bool → Hp → Prop, (∀ c H2, (if c = true then S H2 else R H2) → Q c H2) → t2 σ H1 Q)
    (body : ∀ H1, S H1 → ts { D with nx := tz D } σ H1) (rest : ∀ H1, R H1 → tz D σ H1) : tSeq (tIfS (tAnd t1 t2) ts tNext) tz D σ H := h1 H (Ex.refl H) _ fun H1 e1 => by
  cases b with
  | true =>
    rw [if_pos rfl]
    refine yes rfl H1 e1 _ fun c H2 hc => ?_
    cases c with
    | true => rw [if_pos rfl] at hc ⊢; exact body H2 hc
    | false => rw [if_neg (by decide)] at hc ⊢; exact rest H2 hc
  | false => rw [if_neg (by decide)]; exact rest H1 (no rfl H1 e1)
/-- a piece of a told tuple, told apart from Z -/
theorem eu_take {k : Nat} (h : Ev ta σ H (.ref a)) (hk : Ev tb σ H (.int (k : Int))) (ha : H a = some (.tup xs)) (hl : k < xs.length) : EvU (tSl (rSlA K) ta tNoPart (tPart tb)) σ H (xs.take k) := by
  have := eu_slA (K := K) h eo_none (eo_some hk) (st_of ha) (by rw [HT.sIx_nat]; omega)
  rwa [cut_take (by omega)] at this
theorem eu_drop {k : Nat} (h : Ev ta σ H (.ref a)) (hk : Ev tb σ H (.int ((k : Int) + 1))) (ha : H a = some (.tup xs)) (hl : 0 < xs.length) : EvU (tSl (rSlA K) ta (tPart tb) tNoPart) σ H (xs.drop (k + 1)) := by
  have hk' : Ev tb σ H (.int ((k + 1 : Nat) : Int)) := ev_is hk (by congr 1)
  have := eu_slA (K := K) h (eo_some hk') eo_none (st_of ha) (by rw [HT.sIx_nat]; omega)
  rwa [cut_drop] at this
theorem u_k (h : EvU te σ H xs) (hz : Hd Z H) (k : ∀ q H1, Ex H H1 → hid Z H1 q = some (.tup xs) → Q (.ref q) H1) : te σ H Q := h H (Ex.refl H) _ fun q H1 hq e h1 => k q H1 e (by rw [hid_off (hz.new hq)]; exact h1)
theorem cat_k (hz : Hd Z H) (ha : hid Z H a = some (.tup xs)) (hb : hid Z H b = some (.tup ys)) (hl : xs.length + ys.length ≤ 100000) (k : ∀ q H2, Ex H H2 → hid Z H2 q = some (.tup (xs ++ ys)) → Q (.ref q) H2) : rCatA K (.ref a) (.ref b) H Q :=
  ⟨a, b, xs, ys, rfl, rfl, st_of (hid_ex _ _ ha), st_of (hid_ex _ _ hb), sz_of hl, fun h => by subst h; exact k b H (Ex.refl H) hb, fun _ h2 => by subst h2; exact k a H (Ex.refl H) (by simpa using ha), fun _ _ q hq => k q _ (Ex.new hq) (by rw [hid_off (hz.new hq)]; exact upd_same)⟩
theorem pickA {s : Addr} (hp : PotAt H p) (hv : σ[i]? = some (some (.ref p))) (hs : σ[j]? = some (some (.ref s))) (hl : SqL K (wo H p) s xs) (h0 : 0 < xs.length) (h1 : xs.length ≤ 1000) (k : ∀ (m : Nat) (v : V) (H2 : Hp), xs[m]? = some v → Ex (wo H p) H2 → PotAt H2 p → Q v H2) :
    tCall (sp_pick K) [] E (tCons (tVar i) (tCons (tVar j) tNil)) σ H Q := ⟨.ref p, hv, .ref s, hs, p, s, xs, rfl, hp, hl, h0, h1, k⟩
theorem tupN_k (h : tA σ H fun vs H1 => vs.length ≤ sizeLine ∧ ∀ p, H1 p = none → Q (.ref p) (upd H1 p (.tup vs))) : tTup tA σ H Q := h
theorem cb_k {r : List V → Hp → VK → Prop} (h : tA σ H fun vs H1 => r vs H1 Q) : tCB r tA σ H Q := h
theorem el_lcR2 {t : TT} {lo hi : Int} (f : Nat → Bool) (v : Nat → V) (h : EvA tA σ H [.int lo, .int hi]) (hn : -100000 ≤ lo ∧ lo ≤ hi ∧ hi ≤ 40000 ∧ hi - lo ≤ 40000) (hw : ∀ x, wipe ((wipe σ vs).set j (some x)) vs = wipe σ vs)
    (ht : ∀ (i : Nat) H1, Ex H H1 → lo + (i : Int) < hi → EvT t ((wipe σ vs).set j (some (.int (lo + (i : Int))))) H1 (f i)) (he : ∀ (i : Nat) H1, Ex H H1 → lo + (i : Int) < hi → f i = true → Ev te ((wipe σ vs).set j (some (.int (lo + (i : Int))))) H1 (v i)) :
    EvL (tLc (iRng2 tA) (gName j) t te vs) σ H (given (hi - lo).toNat f v) := fun H0 e Q q => h H0 e _ fun H1 e1 => ⟨lo, hi, rfl, ⟨by omega, by omega, by omega, by omega⟩, fun Dl hD =>
  lc_range (lo := lo) (n := (hi - lo).toNat) (Cw H1 f v Dl) ⟨hD, Ex.new hD, upd_same⟩ (fun i H' hi p => ⟨hw _, cw_turn p (by omega) (ht i H1 (e.trans e1) (by omega)) (fun hf => he i H1 (e.trans e1) (by omega) hf)⟩) (fun H' p => q Dl H' (fresh_back e1 p.1) (e1.trans p.2.1) p.2.2)⟩
end
section
variable {K : PySem.W.Frag} {σ : L2.St} {H : Hp} {te tl : TE} {tu : TS} {E : XK} {D : Ends} {tz : TS} {v : V} {d : PyData} {ds : List PyData} {j : Nat}
theorem q_forLq (h : EvLq tl σ H ds) (Pv : Addr → List V → Nat → L2.St → Hp → Prop) (h0 : ∀ p ys H1, H p = none → Ex H H1 → H1 p = some (.lst ys) → DqAll H1 ys ds → Pv p ys 0 σ H1) (hl : ∀ p ys i σ' H', i ≤ ys.length → Pv p ys i σ' H' → SqL K H' p ys)
    (hs : ∀ p ys i x σ' H', ys[i]? = some x → Pv p ys i σ' H' → tu { D with nx := Pv p ys (i + 1), ct := Pv p ys (i + 1), bk := tz D } (σ'.set j (some x)) H') (hd : ∀ p ys σ' H', ys.length = ds.length → Pv p ys ys.length σ' H' → tz D σ' H') : tSeq (tFor (iList K tl) (gName j) tu) tz D σ H :=
  h H (Ex.refl H) _ fun p ys H1 hp e h1 k => ⟨p, rfl, ⟨ys, sq_of h1⟩, for_list (D := { D with nx := tz D }) (Pv p ys) (h0 p ys H1 hp e h1 k) (hl p ys) (fun i x σ' H' hi pv => hs p ys i x σ' H' hi pv) (fun σ' H' pv => hd p ys σ' H' k.len pv)⟩
end
theorem hid_new {H : Hp} {p vl : Addr} {o : HO} (hv : H vl = none) : Ex (wo H p) (hid [p, vl] (upd H vl o)) := fun b u h => by
  by_cases hb : b = p
  · subst hb; rw [wo_at] at h; cases h
  · rw [wo_ne hb] at h
    have hb2 : b ≠ vl := fun z => by rw [z, hv] at h; cases h
    rw [hid_off (by simp [hb, hb2]), upd_ne hb2]; exact h
theorem hid_updE {Z : List Addr} {H : Hp} {vl : Addr} {o : HO} (h : vl ∈ Z) : Ex (hid Z H) (hid Z (upd H vl o)) := fun b u k => by
  by_cases hb : b ∈ Z
  · rw [hid_at hb] at k; cases k
  · rw [hid_off hb] at k
    rw [hid_off hb, upd_ne (fun z => hb (by rw [z]; exact h))]; exact k
section
variable {K : PySem.W.Frag} {σ : L2.St} {H : Hp} {p vl : Addr} {Z : List Addr} {tA : TA} {te ta tb tl : TE} {Q : VK} {E : XK} {D : Ends} {tz : TS} {v : V} {d : PyData} {us : List V} {ds : List PyData} {i : Nat}
theorem ew_ref (h : Ev te σ H v) (hd : Dq (hid Z H) v d) : EvW Z te σ H d := fun H1 e Q q => h H1 e Q fun H2 e2 => q v H2 e2 (hd.mono (hid_mono (e.trans e2)))
theorem s_extW (hl : H vl = some (.lst us)) (ha : Ev ta σ H (.ref vl)) (h : EvLw Z tl σ H ds) (hn : us.length + ds.length ≤ 100000) (k : ∀ vs H1, Ex H H1 → DqAll (hid Z H1) vs ds → D.nx σ (upd H1 vl (.lst (us ++ vs)))) :
    tDrop (tBM K "list" rExtend ta (tCons tl tNil)) D σ H := ha H (Ex.refl H) _ fun H1 e1 =>
  ⟨Or.inl ⟨rfl, us, sq_of (e1 vl _ hl)⟩, h H1 e1 _ fun q vs H2 hq e2 h2 kk => ⟨vl, q, us, vs, rfl, rfl, e2 vl _ (e1 vl _ hl), hid_ex _ _ h2, sz_of (by rw [kk.len]; exact hn), k vs H2 (e1.trans e2) kk⟩⟩
theorem q_extW (hl : H vl = some (.lst us)) (ha : Ev ta σ H (.ref vl)) (h : EvLw Z tl σ H ds) (hn : us.length + ds.length ≤ 100000) (k : ∀ vs H1, Ex H H1 → DqAll (hid Z H1) vs ds → tz D σ (upd H1 vl (.lst (us ++ vs)))) :
    tSeq (tDrop (tBM K "list" rExtend ta (tCons tl tNil))) tz D σ H := s_extW (D := { D with nx := tz D }) hl ha h hn k
theorem andV_k (h : ta σ H fun x H1 => ∃ c, x = .bl c ∧ if c = true then tb σ H1 Q else Q (.bl false) H1) : tAndV ta tb σ H Q := h
end
theorem PotAt.hd {H : Hp} {p : Addr} (h : PotAt H p) : Hd [p] H := fun b hb => by rw [List.mem_singleton.mp hb]; exact h.some
section
variable {σ : L2.St} {H : Hp} {i : Nat} {te : TE} {c : TT} {D : Ends} {tz : TS}
theorem q_ifSet {b : Bool} (M : L2.St → Hp → Prop) (hc : EvT c σ H b) (h1 : b = true → ∀ H1, Ex H H1 → ∀ Q : VK, (∀ v H2, M (σ.set i (some v)) H2 → Q v H2) → te σ H1 Q) (h2 : b = false → ∀ H1, Ex H H1 → M σ H1) (k : ∀ σ1 H1, M σ1 H1 → tz D σ1 H1) : tSeq (tIfS c (tAsg te (gName i)) tNext) tz D σ H := hc H (Ex.refl H) _ fun H1 e1 => by
  cases b with
  | true => rw [if_pos rfl]; exact h1 rfl H1 e1 _ fun v H2 m => k _ H2 m
  | false => rw [if_neg (by decide)]; exact k σ H1 (h2 rfl H1 e1)
theorem s_asgk (h : te σ H fun v H1 => D.nx (σ.set i (some v)) H1) : tAsg te (gName i) D σ H := h
end
theorem ex_wo {H H2 : Hp} {p : Addr} (e : Ex H H2) (hp : H p = none) : Ex H (wo H2 p) := fun b o hb => by rw [wo_ne (show b ≠ p from fun z => by rw [z, hp] at hb; cases hb)]; exact e b o hb
end K32
end
section
set_option maxHeartbeats 4000000
namespace K32
open PySem L2 Evl G OW BK TD
structure Txt (P : Program) (w : World) (K : PySem.W.Frag) (mg : Str → Option Value) (C : Addr) : Prop where
  cl : Cls K C
  nL : NoAttr K C "_log"
  nP : NoAttr K C "_promises"
  kc : PySem.W.keepIn K (.ref C) = true
  mki : PySem.W.makesIn K C = true
  mg_Book : mg "Book" = some (.ref C)
  tyC : ∀ (H : Hp) (a dx : Addr) (fs : List (Str × V)), H a = some (.ins C dx fs) → TyOf K H (.ref a) (.ref C)
  cR : ∃ tk : Tok, Con K C "MOST_ROWS" (.int 24) (.int 24 tk)
  cP : ∃ tk : Tok, Con K C "MOST_PROMISES" (.int 12) (.int 12 tk)
  mo : PySem.W.mroIn K C (.type "object") = some true
  ne : PySem.W.findIn K (.ref C) "__ne__" = some (some (.builtin "object.__ne__"))
  nf : ∀ d, PySem.W.notFirst K C (PySem.W.dataType d) = true
  ki : ∀ d, PySem.W.kitOne K (PySem.W.dataType d) (.ref C) = some false
  b_isinstance : mg "isinstance" = none
  b_int : mg "int" = none
  b_bool : mg "bool" = none
  b_list : mg "list" = none
  b_tuple : mg "tuple" = none
  b_str : mg "str" = none
  b_len : mg "len" = none
  b_range : mg "range" = none
  b_divmod : mg "divmod" = none
  b_min : mg "min" = none
  b_max : mg "max" = none
  b_all : mg "all" = none
  b_any : mg "any" = none
  b_abs : mg "abs" = none
  b_sorted : mg "sorted" = none
  b_set : mg "set" = none
  b_enumerate : mg "enumerate" = none
structure Met (P : Program) (w : World) (K : PySem.W.Frag) (mg : Str → Option Value) (base : Heap) (C : Addr) (m : Str) (f : Addr) (fd : FuncData) (ps : List Str) (k : Nat) (sp : Sp) : Prop where
  ok : FnOk P w K mg base CX0 k f fd ps sp
  me : Meth K C m f
  bd : Binds K fd ps []
structure Prp (P : Program) (w : World) (K : PySem.W.Frag) (mg : Str → Option Value) (base : Heap) (C : Addr) (m : Str) (p f : Addr) (fd : FuncData) (ps : List Str) (k : Nat) (sp : Sp) : Prop where
  ok : FnOk P w K mg base CX0 k f fd ps sp
  pr : PropOf K C m p f
  bd : Binds K fd ps []
/-! ### rows, promises as they stand -/
def rwOk (r : Rw) : Prop := r.1 ∈ ruleL
def vwOk : Vow → Prop
  | .quick a b => a ∈ ruleL ∧ b ∈ ruleL ∧ a ≠ b
  | .lead r lo hi => r ∈ ruleL ∧ (lo ≠ none ∨ hi ≠ none)
theorem oV_of {H : Hp} {v : V} {o : Option Int} (h : Dq H v (oD o)) : v = oV o := by cases o <;> (cases h; rfl)
theorem oD_of {H : Hp} (o : Option Int) : Dq H (oV o) (oD o) := by cases o; exact .non; exact .int _
theorem rw_of {H : Hp} {v : V} {r : Rw} (h : Dq H v (rwD r)) : ∃ a, v = .ref a ∧ H a = some (.tup (rwV r)) := by
  cases h with
  | tup ha k =>
    cases k with
    | cons h1 k => cases k with
      | cons h2 k => cases k with
        | cons h3 k => cases k; cases h1; cases h2; cases h3; exact ⟨_, rfl, ha⟩
theorem of_rw {H : Hp} {a : Addr} {r : Rw} (h : H a = some (.tup (rwV r))) : Dq H (.ref a) (rwD r) := .tup h (.cons (.str _) (.cons (.int _) (.cons (.int _) .nil)))
theorem vw_of {H : Hp} {v : V} {x : Vow} (h : Dq H v (vwD x)) : ∃ a, v = .ref a ∧ H a = some (.tup (vwV x)) := by
  cases x with
  | quick a b =>
    cases h with
    | tup ha k =>
      cases k with
      | cons h1 k => cases k with
        | cons h2 k => cases k with
          | cons h3 k => cases k; cases h1; cases h2; cases h3; exact ⟨_, rfl, ha⟩
  | lead r lo hi =>
    cases h with
    | tup ha k =>
      cases k with
      | cons h1 k => cases k with
        | cons h2 k => cases k with
          | cons h3 k => cases k with
            | cons h4 k => cases k; cases h1; cases h2; rw [oV_of h3, oV_of h4] at ha; exact ⟨_, rfl, ha⟩
theorem of_vw {H : Hp} {a : Addr} {x : Vow} (h : H a = some (.tup (vwV x))) : Dq H (.ref a) (vwD x) := by
  cases x with
  | quick a b => exact .tup h (.cons (.str _) (.cons (.str _) (.cons (.str _) .nil)))
  | lead r lo hi => exact .tup h (.cons (.str _) (.cons (.str _) (.cons (oD_of lo) (.cons (oD_of hi) .nil))))
/-! ### the promises of the small defs -/
def sp_letter : Sp := fun vs H Q _ => ∃ r, r ∈ ruleL ∧ vs = [.str r] ∧ RetV (.bl true) H Q
theorem spv_letter {r : Str} {H : Hp} (h : r ∈ ruleL) : SpV sp_letter ([.str r] ++ []) H (.bl true) := fun H1 _ Q q E => ⟨r, h, rfl, q⟩
def sp_need_rule : Sp := fun vs H Q _ => ∃ r, r ∈ ruleL ∧ vs = [.str r] ∧ RetV .non H Q
theorem spv_need_rule {r : Str} {H : Hp} (h : r ∈ ruleL) : SpV sp_need_rule ([.str r] ++ []) H .non := fun H1 _ Q q E => ⟨r, h, rfl, q⟩
def sp_is_day : Sp := fun vs H Q _ => ∃ i, vs = [.int i] ∧ RetV (.bl true) H Q
theorem spv_is_day {i : Int} {H : Hp} : SpV sp_is_day ([.int i] ++ []) H (.bl true) := fun H1 _ Q q E => ⟨i, rfl, q⟩
def sp_is_row (v : V) : Sp := fun vs H Q _ => ∃ a r, vs = [.ref a] ∧ H a = some (.tup (rwV r)) ∧ rwOk r ∧ RetV v H Q
theorem spv_is_row {v : V} {a : Addr} {r : Rw} {H : Hp} (h : H a = some (.tup (rwV r))) (o : rwOk r) : SpV (sp_is_row v) ([.ref a] ++ []) H v := fun H1 e Q q E => ⟨a, r, rfl, e a _ h, o, q⟩
def sp_is_promise (v : V) : Sp := fun vs H Q _ => ∃ a x, vs = [.ref a] ∧ H a = some (.tup (vwV x)) ∧ vwOk x ∧ RetV v H Q
theorem spv_is_promise {v : V} {a : Addr} {x : Vow} {H : Hp} (h : H a = some (.tup (vwV x))) (o : vwOk x) : SpV (sp_is_promise v) ([.ref a] ++ []) H v := fun H1 e Q q E => ⟨a, x, rfl, e a _ h, o, q⟩
def sp_are_bounds : Sp := fun vs H Q _ => ∃ lo hi : Option Int, vs = [oV lo, oV hi] ∧ (lo ≠ none ∨ hi ≠ none) ∧ RetV (.bl true) H Q
theorem spv_are_bounds {lo hi : Option Int} {H : Hp} (h : lo ≠ none ∨ hi ≠ none) : SpV sp_are_bounds ([oV lo, oV hi] ++ []) H (.bl true) := fun H1 _ Q q E => ⟨lo, hi, rfl, h, q⟩
def bndV : Option Int → List V
  | none => [.int 0, .int 0]
  | some i => [.int 1, .int i]
def sp_bound_place : Sp := fun vs H Q _ => ∃ o : Option Int, vs = [oV o] ∧ RetU (bndV o) H Q
theorem spu_bound_place {o : Option Int} {H : Hp} : SpU sp_bound_place ([oV o] ++ []) H (bndV o) := fun H1 _ Q q E => ⟨o, rfl, q⟩
section
variable {P : Program} {w : World} {K : PySem.W.Frag} {mg : Str → Option Value} {base : Heap} {C : Addr}
theorem ev_lenStr {σ : L2.St} {H : Hp} {ta : TE} {z : Str} (h : Ev ta σ H (.str z)) (hz : z.length ≤ 100000) : Ev (tCB (fun xs H Q => ∃ z, xs = [.str z] ∧ z.length ≤ sizeLine ∧ Q (.int z.length) H) (tCons ta tNil)) σ H (.int (z.length : Int)) := fun H1 e Q q =>
  h H1 e _ fun H2 e2 => ⟨z, rfl, sz_of hz, q H2 e2⟩
theorem ev_inStr {σ : L2.St} {H : Hp} {ta tb : TE} {i j : Str} (h : Ev ta σ H (.str i)) (k : Ev tb σ H (.str j)) : Ev (tOp (fun x y H Q => ∃ i j, x = .str i ∧ y = .str j ∧ Q (.bl (!(Builtin.Str.occurrences j i 0 j.length 1).isEmpty)) H) ta tb) σ H (.bl (!(Builtin.Str.occurrences j i 0 j.length 1).isEmpty)) :=
  ev_op h k fun H1 _ Q q => ⟨i, j, rfl, rfl, q H1 (Ex.refl H1)⟩
theorem rule_one : ∀ r ∈ ruleL, r.length = 1 ∧ (!(Builtin.Str.occurrences "abcdefgh" r 0 (Str.length "abcdefgh") 1).isEmpty) = true := by decide +kernel
theorem ok_is_rule {f : Addr} {fd : FuncData} (F : Fun K "is_rule" "is_rule" s_is_rule f fd) (T : Txt P w K mg C) : FnOk P w K mg base CX0 1 f fd ["value"] sp_letter := by
  refine F.ok sc_is_rule (fun vs H Q E h => ?_) (fun cdv A outer s H vs Q E hr h => ?_)
  · obtain ⟨i, _, rfl, _⟩ := h
    rfl
  · obtain ⟨r, hm, rfl, k⟩ := h
    refine ⟨_, (pss_one (ps_ret (pe_and (pe_callB call_isi (by rfl) T.b_isinstance (by decide +kernel) (pa_cons (pv 0) (pa_cons (pe_bltn (v := .ty "str") (u := .type "str") (by rfl) T.b_str (by decide +kernel) rfl) pa_nil))) (pe_and (pe_cmpR op_eq (pe_callB call_len_str (by rfl) T.b_len (by decide +kernel) (pa_cons (pv 0) pa_nil)) pe_int (nomark _)) (pe_one (pe_cmpR op_in_str (pv 0) pe_str (by rfl))))))), ?_⟩
    obtain ⟨h1, h2⟩ := rule_one r hm
    refine s_ret (ev_andV (b := true) (a := true) (ev_isiB (b := true) (ev_var rfl) (fun _ _ => .base (.str r)) (by decide +kernel)) fun _ => ev_andV (a := true) (b := true) (ev_is (ev_op (ev_lenStr (ev_var rfl) (by rw [h1]; decide)) ev_c (rv_eq rfl)) (by rw [h1]; rfl)) fun _ => ev_is (ev_inStr (ev_var rfl) ev_c) (by rw [h2])) fun H1 e => k H1 e
theorem ok_need_rule {f f1 : Addr} {fd fd1 : FuncData} (F : Fun K "need_rule" "need_rule" s_need_rule f fd) (T : Txt P w K mg C) (c_is_rule : Cal P w K mg base "is_rule" f1 fd1 ["value"] 1 sp_letter) : FnOk P w K mg base CX0 2 f fd ["value"] sp_need_rule := by
  refine F.ok sc_need_rule (fun vs H Q E h => ?_) (fun cdv A outer s H vs Q E hr h => ?_)
  · obtain ⟨i, _, rfl, _⟩ := h
    rfl
  · obtain ⟨r, hm, rfl, k⟩ := h
    refine ⟨_, (pss_one (ps_if (pt_not (pt_val (pe_call c_is_rule.ok (hr.mono (by decide)) (by rfl) c_is_rule.mgx c_is_rule.kp c_is_rule.bd .nil pass0 (pa_cons (pv 0) pa_nil)))) (pss_one ps_never) pss_nil)), ?_⟩
    exact s_when (et_not (et_B (ev_call (ea_cons (ev_var rfl) ea_nil) (spv_letter hm)))) (fun h => by cases h) fun _ H1 e => k H1 e
theorem ok_is_day {f : Addr} {fd : FuncData} (F : Fun K "is_day" "is_day" s_is_day f fd) (T : Txt P w K mg C) : FnOk P w K mg base CX0 1 f fd ["value"] sp_is_day := by
  refine F.ok sc_is_day (fun vs H Q E h => ?_) (fun cdv A outer s H vs Q E hr h => ?_)
  · obtain ⟨i, rfl, _⟩ := h
    rfl
  · obtain ⟨i, rfl, k⟩ := h
    refine ⟨_, (pss_one (ps_ret (pe_and (pe_callB call_isi (by rfl) T.b_isinstance (by decide +kernel) (pa_cons (pv 0) (pa_cons (pe_bltn (v := .ty "int") (u := .type "int") (by rfl) T.b_int (by decide +kernel) rfl) pa_nil))) (pe_one (pe_not (pe_callB call_isi (by rfl) T.b_isinstance (by decide +kernel) (pa_cons (pv 0) (pa_cons (pe_bltn (v := .ty "bool") (u := .type "bool") (by rfl) T.b_bool (by decide +kernel) rfl) pa_nil)))))))), ?_⟩
    refine s_ret (ev_andV (b := true) (ev_isiB (b := true) (ev_var rfl) (fun _ _ => .base (.int i)) (by decide +kernel)) fun _ => ev_notV (a := false) (ev_isiB (b := false) (ev_var rfl) (fun _ _ => .base (.int i)) (by decide +kernel))) fun H1 e => k H1 e
theorem ok_is_row {f f1 f2 : Addr} {fd fd1 fd2 : FuncData} (F : Fun K "is_row" "is_row" s_is_row f fd) (T : Txt P w K mg C) (c_is_rule : Cal P w K mg base "is_rule" f1 fd1 ["value"] 1 sp_letter) (c_is_day : Cal P w K mg base "is_day" f2 fd2 ["value"] 1 sp_is_day) : FnOk P w K mg base CX0 2 f fd ["value"] (sp_is_row (.bl true)) := by
  refine F.ok sc_is_row (fun vs H Q E h => ?_) (fun cdv A outer s H vs Q E hr h => ?_)
  · obtain ⟨a, r, rfl, _⟩ := h
    rfl
  · obtain ⟨a, r, rfl, ha, o, k⟩ := h
    refine ⟨_, (pss_cons (ps_if (PW.pt (pw_or (pt_not (pt_val (pe_callB call_isi (by rfl) T.b_isinstance (by decide +kernel) (pa_cons (pv 0) (pa_cons (pe_bltn (v := .ty "tuple") (u := .type "tuple") (by rfl) T.b_tuple (by decide +kernel) rfl) pa_nil))))) (pw_or1 (pt_cmpR op_ne (pe_callB (lenS (K := K) rfl) (by rfl) T.b_len (by decide +kernel) (pa_cons (pv 0) pa_nil)) pe_int (nomark _))))) (pss_one (ps_ret pe_bl)) pss_nil) (pss_one (ps_ret (pe_and (pe_call c_is_rule.ok (hr.mono (by decide)) (by rfl) c_is_rule.mgx c_is_rule.kp c_is_rule.bd .nil pass0 (pa_cons (pe_ix (ixT (K := K) rfl) (pv 0) pe_int (fun _ _ => rfl)) pa_nil)) (pe_and (pe_call c_is_day.ok (hr.mono (by decide)) (by rfl) c_is_day.mgx c_is_day.kp c_is_day.bd .nil pass0 (pa_cons (pe_ix (ixT (K := K) rfl) (pv 0) pe_int (fun _ _ => rfl)) pa_nil)) (pe_one (pe_call c_is_day.ok (hr.mono (by decide)) (by rfl) c_is_day.mgx c_is_day.kp c_is_day.bd .nil pass0 (pa_cons (pe_ix (ixT (K := K) rfl) (pv 0) pe_int (fun _ _ => rfl)) pa_nil)))))))), ?_⟩
    refine q_when (b := false) (et_or (a := false) (b := false) (et_not (a := true) (et_B (ev_isiB (b := true) (ev_var rfl) (fun _ e => .base (.tup (e a _ ha))) (by decide +kernel)))) fun _ => et_is (et_test (ev_op (ev_lenTup (K := K) (ev_var rfl) ha) ev_c (rv_ne rfl))) rfl) (fun q => nomatch q) fun _ H1 e1 => ?_
    have h1 := e1 a _ ha
    exact s_ret (ev_andV (b := true) (ev_call (ea_cons (ev_at0 (ev_var rfl) h1) ea_nil) (spv_letter o)) fun _ => ev_andV (b := true) (ev_call (ea_cons (ev_at1 (ev_var rfl) h1) ea_nil) spv_is_day) fun _ => ev_call (ea_cons (ev_at2 (ev_var rfl) h1) ea_nil) spv_is_day) fun H2 e2 => k H2 (e1.trans e2)
theorem ok_need_row {f f1 : Addr} {fd fd1 : FuncData} (F : Fun K "need_row" "need_row" s_need_row f fd) (T : Txt P w K mg C) (c_is_row : Cal P w K mg base "is_row" f1 fd1 ["value"] 2 (sp_is_row (.bl true))) : FnOk P w K mg base CX0 3 f fd ["value"] (sp_is_row .non) := by
  refine F.ok sc_need_row (fun vs H Q E h => ?_) (fun cdv A outer s H vs Q E hr h => ?_)
  · obtain ⟨a, r, rfl, _⟩ := h
    rfl
  · obtain ⟨a, r, rfl, ha, o, k⟩ := h
    refine ⟨_, (pss_one (ps_if (pt_not (pt_val (pe_call c_is_row.ok (hr.mono (by decide)) (by rfl) c_is_row.mgx c_is_row.kp c_is_row.bd .nil pass0 (pa_cons (pv 0) pa_nil)))) (pss_one ps_never) pss_nil)), ?_⟩
    exact s_when (et_not (et_B (ev_call (ea_cons (ev_var rfl) ea_nil) (spv_is_row ha o)))) (fun h => by cases h) fun _ H1 e => k H1 e
theorem ok_are_bounds {f f1 : Addr} {fd fd1 : FuncData} (F : Fun K "_are_bounds" "_are_bounds" s__are_bounds f fd) (T : Txt P w K mg C) (c_is_day : Cal P w K mg base "is_day" f1 fd1 ["value"] 1 sp_is_day) : FnOk P w K mg base CX0 2 f fd ["least", "most"] sp_are_bounds := by
  refine F.ok sc__are_bounds (fun vs H Q E h => ?_) (fun cdv A outer s H vs Q E hr h => ?_)
  · obtain ⟨lo, hi, rfl, _⟩ := h
    rfl
  · obtain ⟨lo, hi, rfl, ne, k⟩ := h
    refine ⟨_, (pss_cons (ps_if (PW.pt (pw_and (pt_cmpR op_isN (pv 0) pe_non (nomark _)) (pw_and1 (pt_cmpR op_isN (pv 1) pe_non (nomark _))))) (pss_one (ps_ret pe_bl)) pss_nil) (pss_one (ps_ret (pe_and (pe_or (pe_cmpR op_isN (pv 0) pe_non (nomark _)) (pe_one (pe_call c_is_day.ok (hr.mono (by decide)) (by rfl) c_is_day.mgx c_is_day.kp c_is_day.bd .nil pass0 (pa_cons (pv 0) pa_nil)))) (pe_one (pe_or (pe_cmpR op_isN (pv 1) pe_non (nomark _)) (pe_one (pe_call c_is_day.ok (hr.mono (by decide)) (by rfl) c_is_day.mgx c_is_day.kp c_is_day.bd .nil pass0 (pa_cons (pv 1) pa_nil))))))))), ?_⟩
    have one : ∀ (i : Nat) (o : Option Int) (σ : L2.St) (H1 : Hp), σ[i]? = some (some (oV o)) → Ev (tOrV (tOp (fun x y H Q => y = .non ∧ Q (.bl (decide (x = .non))) H) (tVar i) (tC .non)) (tCall sp_is_day [] E0 (tCons (tVar i) tNil))) σ H1 (.bl true) := fun i o σ H1 hi => by
      cases o with
      | none => exact ev_orV (a := true) (b := true) (ev_is (ev_op (ev_var hi) ev_c rv_isN) rfl) (fun z => nomatch z)
      | some j => exact ev_orV (a := false) (ev_is (ev_op (ev_var hi) ev_c rv_isN) rfl) fun _ => ev_call (ea_cons (ev_var hi) ea_nil) spv_is_day
    refine q_when (b := false) (et_is (et_and (a := decide (lo = none)) (et_is (et_test (ev_op (ev_var rfl) ev_c rv_isN)) (by cases lo <;> rfl)) fun _ => et_is (et_test (ev_op (ev_var rfl) ev_c rv_isN)) (show decide (oV hi = .non) = decide (hi = none) by cases hi <;> rfl)) (by
      rcases ne with h | h
      · rw [decide_eq_false h]; rfl
      · rw [decide_eq_false h]; cases decide (lo = none) <;> rfl)) (fun q => nomatch q) fun _ H1 e1 => ?_
    exact s_ret (ev_andV (a := true) (b := true) (one 0 lo [some (oV lo), some (oV hi)] H1 rfl) fun _ => one 1 hi [some (oV lo), some (oV hi)] H1 rfl) fun H2 e2 => k H2 (e1.trans e2)
theorem ok_bound_place {f : Addr} {fd : FuncData} (F : Fun K "_bound_place" "_bound_place" s__bound_place f fd) (T : Txt P w K mg C) : FnOk P w K mg base CX0 1 f fd ["bound"] sp_bound_place := by
  refine F.ok sc__bound_place (fun vs H Q E h => ?_) (fun cdv A outer s H vs Q E hr h => ?_)
  · obtain ⟨o, rfl, _⟩ := h
    rfl
  · obtain ⟨o, rfl, k⟩ := h
    refine ⟨_, (pss_one (ps_ret (pe_ifExp (pt_cmpR op_isN (pv 0) pe_non (nomark _)) (pe_tup (pa_cons pe_int (pa_cons pe_int pa_nil))) (pe_tup (pa_cons pe_int (pa_cons (pv 0) pa_nil)))))), ?_⟩
    have fin : ∀ {v : V} {H2 : Hp}, (∃ p, v = .ref p ∧ H p = none ∧ Ex H H2 ∧ H2 p = some (.tup (bndV o))) → Q v H2 := fun ⟨p, ev, hp, e2, h2⟩ => by subst ev; exact k p _ hp e2 h2
    refine ret_k (if_mid (b := decide (o = none)) (fun v H2 => ∃ p, v = .ref p ∧ H p = none ∧ Ex H H2 ∧ H2 p = some (.tup (bndV o))) (et_is (et_test (ev_op (ev_var rfl) ev_c rv_isN)) (by cases o <;> rfl)) (fun hb H1 e1 Q' q' => ?_) (fun hb H1 e1 Q' q' => ?_) fun v H2 z => fin z)
    · have ho := of_decide_eq_true hb
      subst ho
      exact (eu_tup (ea_cons ev_c (ea_cons ev_c ea_nil)) (by decide)) H1 (Ex.refl H1) Q' fun p H2 hp e2 h2 => q' _ _ ⟨p, rfl, fresh_back e1 hp, e1.trans e2, h2⟩
    · have ho := of_decide_eq_false hb
      cases o with
      | none => exact absurd rfl ho
      | some i => exact (eu_tup (vs := [V.int 1, V.int i]) (ea_cons ev_c (ea_cons (ev_var rfl) ea_nil)) (by show 2 ≤ 100000; decide)) H1 (Ex.refl H1) Q' fun p H2 hp e2 h2 => q' _ _ ⟨p, rfl, fresh_back e1 hp, e1.trans e2, h2⟩
theorem ev_at3 {σ : L2.St} {H : Hp} {te : TE} {a : Addr} {xs : List V} {y z v u : V} (h : Ev te σ H (.ref a)) (ha : H a = some (.tup (y :: z :: v :: u :: xs))) : Ev (tOp (rIxT K) te (tC (.int 3))) σ H u := ev_op h ev_c (rv_ixT (st_of ha) (atI_nat (j := 3) rfl))
theorem vwV_head (x : Vow) : ∃ t r xs, vwV x = .str t :: .str r :: xs ∧ (t = "quick" ∨ t = "lead") := by
  cases x with
  | quick a b => exact ⟨_, _, _, rfl, .inl rfl⟩
  | lead r lo hi => exact ⟨_, _, _, rfl, .inr rfl⟩
theorem ok_is_promise {f f1 f2 : Addr} {fd fd1 fd2 : FuncData} (F : Fun K "is_promise" "is_promise" s_is_promise f fd) (T : Txt P w K mg C) (c_is_rule : Cal P w K mg base "is_rule" f1 fd1 ["value"] 1 sp_letter) (c__are_bounds : Cal P w K mg base "_are_bounds" f2 fd2 ["least", "most"] 2 sp_are_bounds) : FnOk P w K mg base CX0 3 f fd ["value"] (sp_is_promise (.bl true)) := by
  refine F.ok sc_is_promise (fun vs H Q E h => ?_) (fun cdv A outer s H vs Q E hr h => ?_)
  · obtain ⟨a, r, rfl, _⟩ := h
    rfl
  · obtain ⟨a, x, rfl, ha, o, k⟩ := h
    refine ⟨_, (pss_cons (ps_if (PW.pt (pw_or (pt_not (pt_val (pe_callB call_isi (by rfl) T.b_isinstance (by decide +kernel) (pa_cons (pv 0) (pa_cons (pe_bltn (v := .ty "tuple") (u := .type "tuple") (by rfl) T.b_tuple (by decide +kernel) rfl) pa_nil))))) (pw_or (pt_cmpR op_lt (pe_callB (lenS (K := K) rfl) (by rfl) T.b_len (by decide +kernel) (pa_cons (pv 0) pa_nil)) pe_int (nomark _)) (pw_or (pt_not (pt_val (pe_callB call_isi (by rfl) T.b_isinstance (by decide +kernel) (pa_cons (pe_ix (ixT (K := K) rfl) (pv 0) pe_int (fun _ _ => rfl)) (pa_cons (pe_bltn (v := .ty "str") (u := .type "str") (by rfl) T.b_str (by decide +kernel) rfl) pa_nil))))) (pw_or1 (pt_not (pt_val (pe_call c_is_rule.ok (hr.mono (by decide)) (by rfl) c_is_rule.mgx c_is_rule.kp c_is_rule.bd .nil pass0 (pa_cons (pe_ix (ixT (K := K) rfl) (pv 0) pe_int (fun _ _ => rfl)) pa_nil))))))))) (pss_one (ps_ret pe_bl)) pss_nil) (pss_cons (ps_if (pt_cmpR op_eq (pe_ix (ixT (K := K) rfl) (pv 0) pe_int (fun _ _ => rfl)) pe_str (nomark _)) (pss_one (ps_ret (pe_and (pe_cmpR op_eq (pe_callB (lenS (K := K) rfl) (by rfl) T.b_len (by decide +kernel) (pa_cons (pv 0) pa_nil)) pe_int (nomark _)) (pe_and (pe_call c_is_rule.ok (hr.mono (by decide)) (by rfl) c_is_rule.mgx c_is_rule.kp c_is_rule.bd .nil pass0 (pa_cons (pe_ix (ixT (K := K) rfl) (pv 0) pe_int (fun _ _ => rfl)) pa_nil)) (pe_one (pe_cmpR op_ne (pe_ix (ixT (K := K) rfl) (pv 0) pe_int (fun _ _ => rfl)) (pe_ix (ixT (K := K) rfl) (pv 0) pe_int (fun _ _ => rfl)) (nomark _))))))) pss_nil) (pss_one (ps_ret (pe_and (pe_cmpR op_eq (pe_ix (ixT (K := K) rfl) (pv 0) pe_int (fun _ _ => rfl)) pe_str (nomark _)) (pe_and (pe_cmpR op_eq (pe_callB (lenS (K := K) rfl) (by rfl) T.b_len (by decide +kernel) (pa_cons (pv 0) pa_nil)) pe_int (nomark _)) (pe_one (pe_call c__are_bounds.ok (hr.mono (by decide)) (by rfl) c__are_bounds.mgx c__are_bounds.kp c__are_bounds.bd .nil pass0 (pa_cons (pe_ix (ixT (K := K) rfl) (pv 0) pe_int (fun _ _ => rfl)) (pa_cons (pe_ix (ixT (K := K) rfl) (pv 0) pe_int (fun _ _ => rfl)) pa_nil)))))))))), ?_⟩
    cases x with
    | quick p q =>
      obtain ⟨o1, o2, o3⟩ := o
      refine q_when (b := false) (et_or (a := false) (b := false) (et_not (a := true) (et_B (ev_isiB (b := true) (ev_var rfl) (fun _ e => .base (.tup (e a _ ha))) (by decide +kernel)))) fun _ => et_or (a := false) (b := false) (et_is (et_test (ev_op (ev_lenTup (K := K) (ev_var rfl) ha) ev_c rv_I0)) rfl) fun _ => et_or (a := false) (b := false) (et_not (a := true) (et_B (ev_isiB (b := true) (ev_at0 (ev_var rfl) ha) (fun _ _ => .base (.str _)) (by decide +kernel)))) fun _ => et_not (a := true) (et_B (ev_call (ea_cons (ev_at1 (ev_var rfl) ha) ea_nil) (spv_letter o1)))) (fun q => nomatch q) fun _ H1 e1 => ?_
      have h1 := e1 a _ ha
      refine q_if (b := true) (et_is (et_test (ev_op (ev_at0 (K := K) (ev_var rfl) h1) ev_c (rv_eq rfl))) rfl) (fun _ H2 e2 => ?_) (fun q => nomatch q)
      have h2 := e2 a _ h1
      exact s_ret (ev_andV (a := true) (b := true) (ev_is (ev_op (ev_lenTup (K := K) (ev_var rfl) h2) ev_c (rv_eq rfl)) rfl) fun _ => ev_andV (a := true) (b := true) (ev_call (ea_cons (ev_at2 (ev_var rfl) h2) ea_nil) (spv_letter o2)) fun _ => ev_is (ev_op (ev_at1 (ev_var rfl) h2) (ev_at2 (ev_var rfl) h2) (rv_ne rfl)) (by simp [o3])) fun H3 e3 => k H3 ((e1.trans e2).trans e3)
    | lead r lo hi =>
      obtain ⟨o1, o2⟩ := o
      refine q_when (b := false) (et_or (a := false) (b := false) (et_not (a := true) (et_B (ev_isiB (b := true) (ev_var rfl) (fun _ e => .base (.tup (e a _ ha))) (by decide +kernel)))) fun _ => et_or (a := false) (b := false) (et_is (et_test (ev_op (ev_lenTup (K := K) (ev_var rfl) ha) ev_c rv_I0)) rfl) fun _ => et_or (a := false) (b := false) (et_not (a := true) (et_B (ev_isiB (b := true) (ev_at0 (ev_var rfl) ha) (fun _ _ => .base (.str _)) (by decide +kernel)))) fun _ => et_not (a := true) (et_B (ev_call (ea_cons (ev_at1 (ev_var rfl) ha) ea_nil) (spv_letter o1)))) (fun q => nomatch q) fun _ H1 e1 => ?_
      have h1 := e1 a _ ha
      refine q_if (b := false) (et_is (et_test (ev_op (ev_at0 (K := K) (ev_var rfl) h1) ev_c (rv_eq rfl))) rfl) (fun q => nomatch q) (fun _ H2 e2 => ?_)
      have h2 := e2 a _ h1
      exact s_ret (ev_andV (a := true) (b := true) (ev_is (ev_op (ev_at0 (ev_var rfl) h2) ev_c (rv_eq rfl)) rfl) fun _ => ev_andV (a := true) (b := true) (ev_is (ev_op (ev_lenTup (K := K) (ev_var rfl) h2) ev_c (rv_eq rfl)) rfl) fun _ => ev_call (ea_cons (ev_at2 (ev_var rfl) h2) (ea_cons (ev_at3 (ev_var rfl) h2) ea_nil)) (spv_are_bounds o2)) fun H3 e3 => k H3 ((e1.trans e2).trans e3)
theorem ok_need_promise {f f1 : Addr} {fd fd1 : FuncData} (F : Fun K "need_promise" "need_promise" s_need_promise f fd) (T : Txt P w K mg C) (c_is_promise : Cal P w K mg base "is_promise" f1 fd1 ["value"] 3 (sp_is_promise (.bl true))) : FnOk P w K mg base CX0 4 f fd ["value"] (sp_is_promise .non) := by
  refine F.ok sc_need_promise (fun vs H Q E h => ?_) (fun cdv A outer s H vs Q E hr h => ?_)
  · obtain ⟨a, r, rfl, _⟩ := h
    rfl
  · obtain ⟨a, r, rfl, ha, o, k⟩ := h
    refine ⟨_, (pss_one (ps_if (pt_not (pt_val (pe_call c_is_promise.ok (hr.mono (by decide)) (by rfl) c_is_promise.mgx c_is_promise.kp c_is_promise.bd .nil pass0 (pa_cons (pv 0) pa_nil)))) (pss_one ps_never) pss_nil)), ?_⟩
    exact s_when (et_not (et_B (ev_call (ea_cons (ev_var rfl) ea_nil) (spv_is_promise ha o)))) (fun h => by cases h) fun _ H1 e => k H1 e
theorem pkV_dq {H : Hp} (x : Vow) : DqAll H (match x with | .quick a b => [.int 1, .str a, .str b] | .lead r lo hi => [.int 0, .str r] ++ bndV lo ++ bndV hi) (pkL x) := by
  cases x with
  | quick a b => exact .cons (.int _) (.cons (.str _) (.cons (.str _) .nil))
  | lead r lo hi => cases lo <;> cases hi <;> exact .cons (.int _) (.cons (.str _) (.cons (.int _) (.cons (.int _) (.cons (.int _) (.cons (.int _) .nil)))))
theorem ok_promise_place {f f1 : Addr} {fd fd1 : FuncData} (F : Fun K "promise_place" "promise_place" s_promise_place f fd) (T : Txt P w K mg C) (c__bound_place : Cal P w K mg base "_bound_place" f1 fd1 ["bound"] 1 sp_bound_place) : FnOk P w K mg base CX0 2 f fd ["promise"] (sp_place K) := by
  refine F.ok sc_promise_place (fun vs H Q E h => ?_) (fun cdv A outer s H vs Q E hr h => ?_)
  · obtain ⟨a, r, rfl, _⟩ := h
    rfl
  · obtain ⟨a, x, rfl, ha, k⟩ := h
    refine ⟨_, (pss_cons (ps_if (pt_cmpR op_eq (pe_ix (ixT (K := K) rfl) (pv 0) pe_int (fun _ _ => rfl)) pe_str (nomark _)) (pss_one (ps_ret (pe_tup (pa_cons pe_int (pa_cons (pe_ix (ixT (K := K) rfl) (pv 0) pe_int (fun _ _ => rfl)) (pa_cons (pe_ix (ixT (K := K) rfl) (pv 0) pe_int (fun _ _ => rfl)) pa_nil)))))) pss_nil) (pss_one (ps_ret (pe_op (catA (K := K) rfl) (pe_op (catA (K := K) rfl) (pe_tup (pa_cons pe_int (pa_cons (pe_ix (ixT (K := K) rfl) (pv 0) pe_int (fun _ _ => rfl)) pa_nil))) (pe_call c__bound_place.ok (hr.mono (by decide)) (by rfl) c__bound_place.mgx c__bound_place.kp c__bound_place.bd .nil pass0 (pa_cons (pe_ix (ixT (K := K) rfl) (pv 0) pe_int (fun _ _ => rfl)) pa_nil))) (pe_call c__bound_place.ok (hr.mono (by decide)) (by rfl) c__bound_place.mgx c__bound_place.kp c__bound_place.bd .nil pass0 (pa_cons (pe_ix (ixT (K := K) rfl) (pv 0) pe_int (fun _ _ => rfl)) pa_nil)))))), ?_⟩
    have at_ : ∀ {σ : L2.St} {H1 : Hp} (j : Nat) (v : V), σ[0]? = some (some (.ref a)) → Ex H H1 → (vwV x)[j]? = some v → Ev (tOp (rIxT K) (tVar 0) (tC (.int (j : Int)))) σ H1 v := fun j v hv e hj => ev_op (ev_var hv) ev_c (rv_ixT (ex_t e ha) (atI_nat hj))
    cases x with
    | quick p q =>
      refine q_if (b := true) (et_is (et_test (ev_op (at_ 0 _ rfl (Ex.refl H) rfl) ev_c (rv_eq rfl))) rfl) (fun _ H1 e1 => ?_) (fun q => nomatch q)
      exact (eu_tup (vs := [V.int 1, V.str p, V.str q]) (ea_cons ev_c (ea_cons (at_ 1 _ rfl e1 rfl) (ea_cons (at_ 2 _ rfl e1 rfl) ea_nil))) (by show 3 ≤ 100000; decide)) H1 (Ex.refl H1) _ fun b H2 hb e2 h2 => k _ _ (e1.trans e2) (.tup h2 (pkV_dq (.quick p q)))
    | lead r lo hi =>
      refine q_if (b := false) (et_is (et_test (ev_op (at_ 0 _ rfl (Ex.refl H) rfl) ev_c (rv_eq rfl))) rfl) (fun q => nomatch q) (fun _ H1 e1 => ?_)
      have cat : ∀ {ta tb : TE} {σ : L2.St} {H : Hp} {xs ys : List V}, EvU ta σ H xs → (∀ H1, Ex H H1 → EvU tb σ H1 ys) → xs ≠ [] → ys ≠ [] → xs.length + ys.length ≤ 100000 → EvU (tOp (rCatA K) ta tb) σ H (xs ++ ys) := fun {ta tb σ H xs ys} h1 h2 n1 n2 hz H1 e Q q =>
        h1 H1 e _ fun p H2 hp e2 x2 => h2 H2 (e.trans e2) H2 (Ex.refl H2) _ fun r H3 hr e3 x3 => ⟨p, r, xs, ys, rfl, rfl, st_of (e3 p _ x2), st_of x3, sz_of hz, fun z => absurd z n1, fun _ z => absurd z n2, fun _ _ q0 hq => q q0 _ (fresh_back (e2.trans e3) hq) ((e2.trans e3).trans (Ex.new hq)) upd_same⟩
      have nb : ∀ o : Option Int, bndV o ≠ [] ∧ (bndV o).length = 2 := fun o => by cases o <;> exact ⟨(fun z => nomatch z), rfl⟩
      refine (cat (σ := [some (V.ref a)]) (H := H1) (cat (eu_tup (vs := [V.int 0, V.str r]) (ea_cons ev_c (ea_cons (at_ 1 _ rfl e1 rfl) ea_nil)) (by show 2 ≤ 100000; decide)) (fun H2 e2 => eu_call (ea_cons (at_ 2 (oV lo) rfl (e1.trans e2) rfl) ea_nil) spu_bound_place) (fun z => nomatch z) (nb lo).1 (by rw [(nb lo).2]; show 4 ≤ 100000; decide))
        (fun H2 e2 => eu_call (ea_cons (at_ 3 (oV hi) rfl (e1.trans e2) rfl) ea_nil) spu_bound_place) (fun z => nomatch z) (nb hi).1 (by rw [List.length_append, (nb lo).2, (nb hi).2]; show 6 ≤ 100000; decide)) H1 (Ex.refl H1) _ fun b H2 hb e2 h2 => k _ _ (e1.trans e2) (.tup h2 (pkV_dq (.lead r lo hi)))
def SeqT (H : Hp) (p : Addr) (xs : List V) : Prop := H p = some (.lst xs) ∨ H p = some (.tup xs)
theorem SeqT.mono {H H' : Hp} {p : Addr} {xs : List V} (e : Ex H H') (h : SeqT H p xs) : SeqT H' p xs := h.imp (e p _) (e p _)
def sp_is_list : Sp := fun vs H Q _ => ∃ p xs, vs = [.ref p] ∧ SeqT H p xs ∧ RetV (.bl true) H Q
theorem spv_is_list {p : Addr} {xs : List V} {H : Hp} (h : SeqT H p xs) : SpV sp_is_list ([.ref p] ++ []) H (.bl true) := fun H1 e Q q E => ⟨p, xs, rfl, h.mono e, q⟩
theorem ok_is_list {f : Addr} {fd : FuncData} (F : Fun K "is_list" "is_list" s_is_list f fd) (T : Txt P w K mg C) : FnOk P w K mg base CX0 1 f fd ["value"] sp_is_list := by
  refine F.ok sc_is_list (fun vs H Q E h => ?_) (fun cdv A outer s H vs Q E hr h => ?_)
  · obtain ⟨p, xs, rfl, _⟩ := h
    rfl
  · obtain ⟨p, xs, rfl, hs, k⟩ := h
    refine ⟨_, (pss_one (ps_ret (pe_callB call_isiT (by rfl) T.b_isinstance (by decide +kernel) (pa_cons (pv 0) (pa_cons (pe_tup (pa_cons (pe_bltn (v := .ty "list") (u := .type "list") (by rfl) T.b_list (by decide +kernel) rfl) (pa_cons (pe_bltn (v := .ty "tuple") (u := .type "tuple") (by rfl) T.b_tuple (by decide +kernel) rfl) pa_nil))) pa_nil))))), ?_⟩
    rcases hs with hs | hs
    · refine ⟨_, rfl, by decide, fun t ht => ?_⟩
      refine ⟨.ref p, t, [.ty "list", .ty "tuple"], .type "list", [.type "list", .type "tuple"], true, rfl, upd_same, .cons (.ty _) (.cons (.ty _) .nil), .base (.lst (by rw [upd_ne (ne_of_none hs ht)]; exact hs)), kitAny_cons (b := true) (kit_ty (by decide +kernel)) (fun h => nomatch h) (fun _ => rfl), k _ (Ex.new ht)⟩
    · refine ⟨_, rfl, by decide, fun t ht => ?_⟩
      refine ⟨.ref p, t, [.ty "list", .ty "tuple"], .type "tuple", [.type "list", .type "tuple"], true, rfl, upd_same, .cons (.ty _) (.cons (.ty _) .nil), .base (.tup (by rw [upd_ne (ne_of_none hs ht)]; exact hs)), kitAny_cons (b := false) (kit_ty (by decide +kernel)) (fun _ => kitAny_cons (b := true) (kit_ty (by decide +kernel)) (fun h => nomatch h) (fun _ => rfl)) (fun h => nomatch h), k _ (Ex.new ht)⟩
end
end K32
end
section
set_option maxHeartbeats 4000000
namespace K32
open PySem L2 Evl G OW BK TD
/-! ### rows and promises at their addresses -/
theorem prs_rw {H : Hp} : ∀ {us : List V} {rs : List Rw}, DqAll H us (rs.map rwD) → ∃ L : List (Rw × Addr), us = L.map (fun p => V.ref p.2) ∧ L.map (·.1) = rs ∧ ∀ p ∈ L, H p.2 = some (.tup (rwV p.1))
  | [], [], _ => ⟨[], rfl, rfl, fun _ h => nomatch h⟩
  | [], _ :: _, h => by cases h
  | _ :: _, [], h => by cases h
  | u :: us, r :: rs, h => by
    cases h with
    | cons h1 h2 =>
      obtain ⟨a, rfl, ha⟩ := rw_of h1
      obtain ⟨L, e1, e2, e3⟩ := prs_rw h2
      exact ⟨(r, a) :: L, by rw [e1]; rfl, by rw [← e2]; rfl, fun p hp => by
        rcases List.mem_cons.mp hp with rfl | hp
        · exact ha
        · exact e3 p hp⟩
theorem prs_vw {H : Hp} : ∀ {us : List V} {rs : List Vow}, DqAll H us (rs.map vwD) → ∃ L : List (Vow × Addr), us = L.map (fun p => V.ref p.2) ∧ L.map (·.1) = rs ∧ ∀ p ∈ L, H p.2 = some (.tup (vwV p.1))
  | [], [], _ => ⟨[], rfl, rfl, fun _ h => nomatch h⟩
  | [], _ :: _, h => by cases h
  | _ :: _, [], h => by cases h
  | u :: us, r :: rs, h => by
    cases h with
    | cons h1 h2 =>
      obtain ⟨a, rfl, ha⟩ := vw_of h1
      obtain ⟨L, e1, e2, e3⟩ := prs_vw h2
      exact ⟨(r, a) :: L, by rw [e1]; rfl, by rw [← e2]; rfl, fun p hp => by
        rcases List.mem_cons.mp hp with rfl | hp
        · exact ha
        · exact e3 p hp⟩
theorem rws_of {H : Hp} : ∀ {L : List (Rw × Addr)}, (∀ p ∈ L, H p.2 = some (.tup (rwV p.1))) → DqAll H (L.map fun p => V.ref p.2) ((L.map (·.1)).map rwD)
  | [], _ => .nil
  | p :: L, h => .cons (of_rw (h p List.mem_cons_self)) (rws_of fun q hq => h q (List.mem_cons_of_mem _ hq))
theorem vws_of {H : Hp} : ∀ {L : List (Vow × Addr)}, (∀ p ∈ L, H p.2 = some (.tup (vwV p.1))) → DqAll H (L.map fun p => V.ref p.2) ((L.map (·.1)).map vwD)
  | [], _ => .nil
  | p :: L, h => .cons (of_vw (h p List.mem_cons_self)) (vws_of fun q hq => h q (List.mem_cons_of_mem _ hq))
abbrev srtR (rs : List Rw) : List Rw := srt ltR rs
abbrev srtV (vs : List Vow) : List Vow := srt ltV vs
/-- what a book may be made of -/
structure Fit (rs : List Rw) (vs : List Vow) : Prop where
  r : ∀ r ∈ rs, rwOk r
  v : ∀ v ∈ vs, vwOk v
  nr : rs.length < 63
  nv : vs.length < 63
  mr : (srtR rs).length ≤ 24
  mv : (srtV vs).length ≤ 12
/-- the book at p -/
def BkAt (H : Hp) (C : Addr) (p : Addr) (rs : List Rw) (vs : List Vow) : Prop := ∃ (dx l m : Addr) (us ws : List V), H p = some (.ins C dx [("_log", .ref l), ("_promises", .ref m)]) ∧ H l = some (.lst us) ∧ DqAll H us (rs.map rwD) ∧ H m = some (.lst ws) ∧ DqAll H ws (vs.map vwD)
theorem BkAt.mono {H H' : Hp} {C p : Addr} {rs : List Rw} {vs : List Vow} (h : BkAt H C p rs vs) (e : Ex H H') : BkAt H' C p rs vs :=
  let ⟨dx, l, m, us, ws, h1, h2, h3, h4, h5⟩ := h; ⟨dx, l, m, us, ws, e p _ h1, e l _ h2, h3.mono e, e m _ h4, h5.mono e⟩
def sp_need_rows : Sp := fun vs H Q _ => ∃ (a : Addr) (us : List V) (rs : List Rw), vs = [.ref a] ∧ SeqT H a us ∧ DqAll H us (rs.map rwD) ∧ (∀ r ∈ rs, rwOk r) ∧ RetV .non H Q
theorem spv_need_rows {a : Addr} {us : List V} {rs : List Rw} {H : Hp} (h : SeqT H a us) (d : DqAll H us (rs.map rwD)) (o : ∀ r ∈ rs, rwOk r) : SpV sp_need_rows ([.ref a] ++ []) H .non := fun H1 e Q q E => ⟨a, us, rs, rfl, h.mono e, d.mono e, o, q⟩
def sp_need_promises : Sp := fun vs H Q _ => ∃ (a : Addr) (us : List V) (rs : List Vow), vs = [.ref a] ∧ SeqT H a us ∧ DqAll H us (rs.map vwD) ∧ (∀ r ∈ rs, vwOk r) ∧ RetV .non H Q
theorem spv_need_promises {a : Addr} {us : List V} {rs : List Vow} {H : Hp} (h : SeqT H a us) (d : DqAll H us (rs.map vwD)) (o : ∀ r ∈ rs, vwOk r) : SpV sp_need_promises ([.ref a] ++ []) H .non := fun H1 e Q q E => ⟨a, us, rs, rfl, h.mono e, d.mono e, o, q⟩
section
variable {P : Program} {w : World} {K : PySem.W.Frag} {mg : Str → Option Value} {base : Heap} {C : Addr}
theorem q_dropV {te : TE} {σ : L2.St} {H : Hp} {v : V} {tz : TS} {D : Ends} (h : Ev te σ H v) (k : ∀ H1, Ex H H1 → tz D σ H1) : tSeq (tDrop te) tz D σ H := h H (Ex.refl H) _ k
theorem s_dropV {te : TE} {σ : L2.St} {H : Hp} {v : V} {D : Ends} (h : Ev te σ H v) (k : ∀ H1, Ex H H1 → D.nx σ H1) : tDrop te D σ H := h H (Ex.refl H) _ k
theorem ok_need_rows {f f1 f2 : Addr} {fd fd1 fd2 : FuncData} (F : Fun K "_need_rows" "_need_rows" s__need_rows f fd) (T : Txt P w K mg C) (c_is_list : Cal P w K mg base "is_list" f1 fd1 ["value"] 1 sp_is_list) (c_need_row : Cal P w K mg base "need_row" f2 fd2 ["value"] 3 (sp_is_row .non)) : FnOk P w K mg base CX0 4 f fd ["log"] sp_need_rows := by
  refine F.ok sc__need_rows (fun vs H Q E h => ?_) (fun cdv A outer s H vs Q E hr h => ?_)
  · obtain ⟨a, us, rs, rfl, _⟩ := h
    rfl
  · obtain ⟨a, us, rs, rfl, hs, d, o, k⟩ := h
    have turn : ∀ (i : Nat) (u : V) (H' : Hp), us[i]? = some u → Ex H H' → Ev (tCall (sp_is_row .non) [] E0 (tCons (tVar 1) tNil)) [some (.ref a), some u] H' .non := fun i u H' hu e => by
      obtain ⟨r, hr0, hd⟩ := d.get hu
      rw [List.getElem?_map] at hr0
      obtain ⟨r, hr1, rfl⟩ := Option.map_eq_some_iff.mp hr0
      obtain ⟨b, rfl, hb⟩ := rw_of hd
      exact ev_call (ea_cons (ev_var rfl) ea_nil) (spv_is_row (e b _ hb) (o r (List.mem_of_getElem? hr1)))
    rcases hs with hs | hs
    · refine ⟨_, (pss_cons (ps_if (pt_not (pt_val (pe_call c_is_list.ok (hr.mono (by decide)) (by rfl) c_is_list.mgx c_is_list.kp c_is_list.bd .nil pass0 (pa_cons (pv 0) pa_nil)))) (pss_one ps_never) pss_nil) (pss_one (ps_for PassesOwn.never rfl (piL (K := K) rfl (pv 0)) (pg_name (i := 1) sc__need_rows.nd rfl (Or.inl rfl)) (pss_one (ps_expr (pe_call c_need_row.ok (hr.mono (by decide)) (by rfl) c_need_row.mgx c_need_row.kp c_need_row.bd .nil pass0 (pa_cons (pv 1) pa_nil))))))), ?_⟩
      refine q_when (b := false) (et_not (a := true) (et_B (ev_call (ea_cons (ev_var rfl) ea_nil) (spv_is_list (.inl hs))))) (fun q => nomatch q) fun _ H1 e1 => ?_
      refine s_forLn (K := K) (ev_var rfl) (sq_of (e1 a _ hs)) (fun i σ' H' => ∃ x : Option V, σ' = [some (.ref a), x] ∧ Ex H H') (fun H2 e2 => ⟨none, rfl, e1.trans e2⟩) (fun i σ' H' _ ⟨x, _, e⟩ => sq_of (e a _ hs)) (fun i u σ' H' hu ⟨x, es, e⟩ => ?_) fun σ' H' ⟨x, es, e⟩ => ?_
      · subst es
        exact s_dropV (turn i u H' hu e) fun H2 e2 => ⟨some u, rfl, e.trans e2⟩
      · subst es
        exact k H' e
    · refine ⟨_, (pss_cons (ps_if (pt_not (pt_val (pe_call c_is_list.ok (hr.mono (by decide)) (by rfl) c_is_list.mgx c_is_list.kp c_is_list.bd .nil pass0 (pa_cons (pv 0) pa_nil)))) (pss_one ps_never) pss_nil) (pss_one (ps_for PassesOwn.never rfl (piT (K := K) rfl (pv 0)) (pg_name (i := 1) sc__need_rows.nd rfl (Or.inl rfl)) (pss_one (ps_expr (pe_call c_need_row.ok (hr.mono (by decide)) (by rfl) c_need_row.mgx c_need_row.kp c_need_row.bd .nil pass0 (pa_cons (pv 1) pa_nil))))))), ?_⟩
      refine q_when (b := false) (et_not (a := true) (et_B (ev_call (ea_cons (ev_var rfl) ea_nil) (spv_is_list (.inr hs))))) (fun q => nomatch q) fun _ H1 e1 => ?_
      refine s_forT (K := K) (g := gName 1) (ev_var rfl) (st_of (e1 a _ hs)) (fun i σ' H' => ∃ x : Option V, σ' = [some (.ref a), x] ∧ Ex H H') (fun H2 e2 => ⟨none, rfl, e1.trans e2⟩) (fun i σ' H' _ ⟨x, _, e⟩ => st_of (e a _ hs)) (fun i u σ' H' hu ⟨x, es, e⟩ => ?_) fun σ' H' ⟨x, es, e⟩ => ?_
      · subst es
        exact s_dropV (turn i u H' hu e) fun H2 e2 => ⟨some u, rfl, e.trans e2⟩
      · subst es
        exact k H' e
theorem ok_need_promises {f f1 f2 : Addr} {fd fd1 fd2 : FuncData} (F : Fun K "_need_promises" "_need_promises" s__need_promises f fd) (T : Txt P w K mg C) (c_is_list : Cal P w K mg base "is_list" f1 fd1 ["value"] 1 sp_is_list) (c_need_promise : Cal P w K mg base "need_promise" f2 fd2 ["value"] 4 (sp_is_promise .non)) : FnOk P w K mg base CX0 5 f fd ["promises"] sp_need_promises := by
  refine F.ok sc__need_promises (fun vs H Q E h => ?_) (fun cdv A outer s H vs Q E hr h => ?_)
  · obtain ⟨a, us, rs, rfl, _⟩ := h
    rfl
  · obtain ⟨a, us, rs, rfl, hs, d, o, k⟩ := h
    have turn : ∀ (i : Nat) (u : V) (H' : Hp), us[i]? = some u → Ex H H' → Ev (tCall (sp_is_promise .non) [] E0 (tCons (tVar 1) tNil)) [some (.ref a), some u] H' .non := fun i u H' hu e => by
      obtain ⟨r, hr0, hd⟩ := d.get hu
      rw [List.getElem?_map] at hr0
      obtain ⟨r, hr1, rfl⟩ := Option.map_eq_some_iff.mp hr0
      obtain ⟨b, rfl, hb⟩ := vw_of hd
      exact ev_call (ea_cons (ev_var rfl) ea_nil) (spv_is_promise (e b _ hb) (o r (List.mem_of_getElem? hr1)))
    rcases hs with hs | hs
    · refine ⟨_, (pss_cons (ps_if (pt_not (pt_val (pe_call c_is_list.ok (hr.mono (by decide)) (by rfl) c_is_list.mgx c_is_list.kp c_is_list.bd .nil pass0 (pa_cons (pv 0) pa_nil)))) (pss_one ps_never) pss_nil) (pss_one (ps_for PassesOwn.never rfl (piL (K := K) rfl (pv 0)) (pg_name (i := 1) sc__need_promises.nd rfl (Or.inl rfl)) (pss_one (ps_expr (pe_call c_need_promise.ok (hr.mono (by decide)) (by rfl) c_need_promise.mgx c_need_promise.kp c_need_promise.bd .nil pass0 (pa_cons (pv 1) pa_nil))))))), ?_⟩
      refine q_when (b := false) (et_not (a := true) (et_B (ev_call (ea_cons (ev_var rfl) ea_nil) (spv_is_list (.inl hs))))) (fun q => nomatch q) fun _ H1 e1 => ?_
      refine s_forLn (K := K) (ev_var rfl) (sq_of (e1 a _ hs)) (fun i σ' H' => ∃ x : Option V, σ' = [some (.ref a), x] ∧ Ex H H') (fun H2 e2 => ⟨none, rfl, e1.trans e2⟩) (fun i σ' H' _ ⟨x, _, e⟩ => sq_of (e a _ hs)) (fun i u σ' H' hu ⟨x, es, e⟩ => ?_) fun σ' H' ⟨x, es, e⟩ => ?_
      · subst es
        exact s_dropV (turn i u H' hu e) fun H2 e2 => ⟨some u, rfl, e.trans e2⟩
      · subst es
        exact k H' e
    · refine ⟨_, (pss_cons (ps_if (pt_not (pt_val (pe_call c_is_list.ok (hr.mono (by decide)) (by rfl) c_is_list.mgx c_is_list.kp c_is_list.bd .nil pass0 (pa_cons (pv 0) pa_nil)))) (pss_one ps_never) pss_nil) (pss_one (ps_for PassesOwn.never rfl (piT (K := K) rfl (pv 0)) (pg_name (i := 1) sc__need_promises.nd rfl (Or.inl rfl)) (pss_one (ps_expr (pe_call c_need_promise.ok (hr.mono (by decide)) (by rfl) c_need_promise.mgx c_need_promise.kp c_need_promise.bd .nil pass0 (pa_cons (pv 1) pa_nil))))))), ?_⟩
      refine q_when (b := false) (et_not (a := true) (et_B (ev_call (ea_cons (ev_var rfl) ea_nil) (spv_is_list (.inr hs))))) (fun q => nomatch q) fun _ H1 e1 => ?_
      refine s_forT (K := K) (g := gName 1) (ev_var rfl) (st_of (e1 a _ hs)) (fun i σ' H' => ∃ x : Option V, σ' = [some (.ref a), x] ∧ Ex H H') (fun H2 e2 => ⟨none, rfl, e1.trans e2⟩) (fun i σ' H' _ ⟨x, _, e⟩ => st_of (e a _ hs)) (fun i u σ' H' hu ⟨x, es, e⟩ => ?_) fun σ' H' ⟨x, es, e⟩ => ?_
      · subst es
        exact s_dropV (turn i u H' hu e) fun H2 e2 => ⟨some u, rfl, e.trans e2⟩
      · subst es
        exact k H' e
/-! ### the sorted lists of a book -/
theorem lq_setR {w' : World} {ta : TE} {σ : L2.St} {H : Hp} {a : Addr} {us : List V} {rs : List Rw} (h : Ev ta σ H (.ref a)) (hs : SeqT H a us) (d : DqAll H us (rs.map rwD)) (few : rs.length < 63) :
    EvLq (tCB (rSortedR K w') (tCons (tCB (rSetR K w') (tCons ta tNil)) tNil)) σ H ((srtR rs).map rwD) := fun H1 e Q q => h H1 e _ fun H2 e2 => by
  obtain ⟨L, rfl, rfl, hL⟩ := prs_rw (d.mono (e.trans e2))
  rw [List.length_map] at few
  refine ⟨a, L, rfl, (hs.mono (e.trans e2)).imp sq_of st_of, fun p hp => st_of (hL p hp), few, fun S hS => ?_⟩
  refine ⟨S, L, rfl, upd_same, fun p hp => st_of ((Ex.new hS) _ _ (hL p hp)), few, fun ps l psL is_ hl => ?_⟩
  have e3 := (Ex.new (H := H2) (o := SetR w' S L) hS).trans (Ex.new (o := .lst (ps.map fun q => V.ref q.2)) hl)
  refine q l _ _ (fresh_back (e2.trans (Ex.new hS)) hl) (e2.trans e3) upd_same ?_
  have es : ps.map (·.1) = srtR (L.map (·.1)) := srt_one ordR is_.1 is_.2.1 is_.2.2
  rw [← es]
  exact rws_of fun p hp => e3 _ _ (hL p (psL p hp))
theorem once_eq (M : List (Vow × Addr)) (v : Vow) : v ∈ (onceV M).map (·.1) ↔ v ∈ M.map (·.1) := by
  have := all_once v M []
  simpa [onceV] using this
theorem lq_setV {P' : Program} {w' : World} {f : Addr} {ta : TE} {σ : L2.St} {H : Hp} {a : Addr} {us : List V} {vs : List Vow} (h : Ev ta σ H (.ref a)) (hs : SeqT H a us) (d : DqAll H us (vs.map vwD)) (few : vs.length < 63) :
    EvLq (tCKw (rSortV K P' w' f) (tCons (tDcV K P' w' ta) tNil) (tCons (tC (.ref f)) tNil)) σ H ((srtV vs).map vwD) := fun H1 e Q q => h H1 e _ fun H2 e2 => by
  obtain ⟨M, rfl, rfl, hM⟩ := prs_vw (d.mono (e.trans e2))
  rw [List.length_map] at few
  refine ⟨a, M, rfl, (hs.mono (e.trans e2)).imp sq_of st_of, fun p hp => st_of (hM p hp), by omega, fun D hD hsys => ?_⟩
  have le := len_once M []
  refine ⟨D, onceV M, rfl, rfl, upd_same, hsys, fun p hp => st_of ((Ex.new hD) _ _ (hM p (mem_once hp))), by unfold onceV; simp only [List.length_nil] at le; omega, fun ps l H' ex hl pm up => ?_⟩
  have e3 := ((Ex.new (H := H2) (o := DctV P' w' D (onceV M)) hD).trans ex).trans (Ex.new (o := .lst (ps.map fun q => V.ref q.2)) hl)
  refine q l _ _ (fresh_back ((e2.trans (Ex.new hD)).trans ex) hl) (e2.trans e3) upd_same ?_
  have nd : (ps.map (·.1)).Nodup := (pm.map (·.1)).nodup_iff.mpr (nd_once M [] .nil)
  have es : ps.map (·.1) = srtV (M.map (·.1)) := srt_one ordV up nd fun v => ((pm.map (·.1)).mem_iff).trans (once_eq M v)
  rw [← es]
  exact vws_of fun p hp => e3 _ _ (hM p (mem_once (pm.mem_iff.mp hp)))
/-! ### a new book -/
def sp_init (C : Addr) : Sp := fun as H Q _ => ∃ (x dx a b : Addr) (us ws : List V) (rs : List Rw) (vs : List Vow), as = [.ref x, .ref a, .ref b] ∧ H x = some (.ins C dx []) ∧ SeqT H a us ∧ DqAll H us (rs.map rwD) ∧ SeqT H b ws ∧ DqAll H ws (vs.map vwD) ∧ Fit rs vs ∧
  ∀ l m us' ws' H', H l = none → H m = none → (∀ y o, H y = some o → y ≠ x → H' y = some o) → H' x = some (.ins C dx [("_log", .ref l), ("_promises", .ref m)]) → H' l = some (.lst us') → DqAll H' us' ((srtR rs).map rwD) → H' m = some (.lst ws') → DqAll H' ws' ((srtV vs).map vwD) → Q .non H'
structure Ini (P : Program) (w : World) (K : PySem.W.Frag) (mg : Str → Option Value) (base : Heap) (C : Addr) (f : Addr) (fd : FuncData) : Prop where
  ok : FnOk P w K mg base CX0 6 f fd ["self", "log", "promises"] (sp_init C)
  bd : Binds K fd ["self", "log", "promises"] []
theorem ok_init {f f1 f2 f3 : Addr} {fd fd1 fd2 fd3 : FuncData} (F : Fun K "__init__" "Book.__init__" s_Book___init__ f fd) (T : Txt P w K mg C) (c__need_rows : Cal P w K mg base "_need_rows" f1 fd1 ["log"] 4 sp_need_rows) (c__need_promises : Cal P w K mg base "_need_promises" f2 fd2 ["promises"] 5 sp_need_promises)
    (c_promise_place : Cal P w K mg base "promise_place" f3 fd3 ["promise"] 2 (sp_place K)) : FnOk P w K mg base CX0 6 f fd ["self", "log", "promises"] (sp_init C) := by
  refine F.ok sc_Book___init__ (fun vs H Q E h => ?_) (fun cdv A outer s H vs Q E hr h => ?_)
  · obtain ⟨x, dx, a, b, us, ws, rs, vs, rfl, _⟩ := h
    rfl
  · obtain ⟨x, dx, a, b, us, ws, rs, vs, rfl, hx, hs, d, ht, dt, fit, k⟩ := h
    refine ⟨_, (pss_cons (ps_expr (pe_call c__need_rows.ok (hr.mono (by decide)) (by rfl) c__need_rows.mgx c__need_rows.kp c__need_rows.bd .nil pass0 (pa_cons (pv 1) pa_nil))) (pss_cons (ps_expr (pe_call c__need_promises.ok (hr.mono (by decide)) (by rfl) c__need_promises.mgx c__need_promises.kp c__need_promises.bd .nil pass0 (pa_cons (pv 2) pa_nil))) (pss_cons (ps_fld (pv 0) (pe_callB (BK.cr_sortedR rfl hr.units) (by rfl) T.b_sorted (by decide +kernel) (pa_cons (pe_callTy (BK.cr_setR rfl hr.units) (by rfl) T.b_set (by decide +kernel) (pa_cons (pv 1) pa_nil)) pa_nil)) rfl) (pss_cons (ps_fld (pv 0) (pe_callBK (BK.call_sortV c_promise_place.ok c_promise_place.bd (hr.mono (by decide)) rfl) (by rfl) T.b_sorted (by decide +kernel) (pa_cons (BK.pe_dcv rfl hr.units (pv 2) (by decide +kernel)) pa_nil) (pk_cons (pe_glob (v := .ref _) rfl c_promise_place.mgx rfl) pk_nil)) rfl) (pss_cons (ps_if (pt_cmpR op_gt (pe_callB (lenS (K := K) rfl) (by rfl) T.b_len (by decide +kernel) (pa_cons (pe_fldK (K := K) rfl (pv 0) rfl) pa_nil)) (pe_con (pv 0) (by rfl)) (nomark _)) (pss_one ps_never) pss_nil) (pss_one (ps_if (pt_cmpR op_gt (pe_callB (lenS (K := K) rfl) (by rfl) T.b_len (by decide +kernel) (pa_cons (pe_fldK (K := K) rfl (pv 0) rfl) pa_nil)) (pe_con (pv 0) (by rfl)) (nomark _)) (pss_one ps_never) pss_nil))))))), ?_⟩
    refine q_dropV (ev_call (ea_cons (ev_var rfl) ea_nil) (spv_need_rows hs d fit.r)) fun H1 e1 => ?_
    refine q_dropV (ev_call (ea_cons (ev_var rfl) ea_nil) (spv_need_promises (ht.mono e1) (dt.mono e1) fit.v)) fun H2 e2 => ?_
    refine (lq_setR (ev_var rfl) (hs.mono (e1.trans e2)) (d.mono (e1.trans e2)) fit.nr) H2 (Ex.refl H2) _ fun l us' H3 hl e3 h3 d3 => ?_
    have xe := (e1.trans e2).trans e3
    have hlx : l ≠ x := (ne_of (xe x _ hx) h3 (fun q => by cases q)).symm
    refine ⟨_, rfl, x, C, dx, [], rfl, xe x _ hx, T.cl, T.nL, by decide, ?_⟩
    -- what stood apart from the new object
    have off4 : ∀ (y : Addr) (o : HO), H3 y = some o → y ≠ x → upd H3 x (.ins C dx (putF "_log" (.ref l) [])) y = some o := fun y o h ne => by rw [upd_ne ne]; exact h
    have bx : b ≠ x := fun z => by
      rcases ht with q | q
      · rw [z, hx] at q; cases q
      · rw [z, hx] at q; cases q
    have ht4 : SeqT (upd H3 x (.ins C dx (putF "_log" (.ref l) []))) b ws := (ht.mono xe).imp (fun q => off4 b _ q bx) fun q => off4 b _ q bx
    have tup4 : ∀ {y : Addr} {xs : List V}, H3 y = some (.tup xs) → upd H3 x (.ins C dx (putF "_log" (.ref l) [])) y = some (.tup xs) := fun {y xs} h => off4 y _ h (fun z => by rw [z, xe x _ hx] at h; cases h)
    have dt4 : DqAll (upd H3 x (.ins C dx (putF "_log" (.ref l) []))) ws (vs.map vwD) := by
      obtain ⟨M, rfl, rfl, hM⟩ := prs_vw (dt.mono xe)
      exact vws_of fun p hp => tup4 (hM p hp)
    have d4 : DqAll (upd H3 x (.ins C dx (putF "_log" (.ref l) []))) us' ((srtR rs).map rwD) := by
      obtain ⟨L, rfl, eL, hL⟩ := prs_rw d3
      rw [← eL]
      exact rws_of fun p hp => tup4 (hL p hp)
    have x4 : upd H3 x (.ins C dx (putF "_log" (.ref l) [])) x = some (.ins C dx [("_log", .ref l)]) := upd_same
    have h4 := off4 l _ h3 hlx
    have keep4 : ∀ y o, H y = some o → y ≠ x → upd H3 x (.ins C dx (putF "_log" (.ref l) [])) y = some o := fun y o h ne => off4 y o (xe y o h) ne
    generalize upd H3 x (.ins C dx (putF "_log" (.ref l) [])) = H4 at ht4 dt4 d4 x4 h4 keep4
    show tSeq _ _ _ [some (V.ref x), some (V.ref a), some (V.ref b)] H4
    refine (lq_setV (ev_var (i := 2) rfl) ht4 dt4 fit.nv) H4 (Ex.refl H4) _ fun m ws' H5 hm e5 h5 d5 => ?_
    have hmx : m ≠ x := (ne_of (e5 x _ x4) h5 (fun q => by cases q)).symm
    refine ⟨_, rfl, x, C, dx, [("_log", .ref l)], rfl, e5 x _ x4, T.cl, T.nP, (by show 1 < 1000; decide), ?_⟩
    have off6 : ∀ (y : Addr) (o : HO), H5 y = some o → y ≠ x → upd H5 x (.ins C dx (putF "_promises" (.ref m) [("_log", .ref l)])) y = some o := fun y o h ne => by rw [upd_ne ne]; exact h
    have tup6 : ∀ {y : Addr} {xs : List V}, H5 y = some (.tup xs) → upd H5 x (.ins C dx (putF "_promises" (.ref m) [("_log", .ref l)])) y = some (.tup xs) := fun {y xs} h => off6 y _ h (fun z => by rw [z, e5 x _ x4] at h; cases h)
    have d6 : DqAll (upd H5 x (.ins C dx (putF "_promises" (.ref m) [("_log", .ref l)]))) us' ((srtR rs).map rwD) := by
      obtain ⟨L, rfl, eL, hL⟩ := prs_rw (d4.mono e5)
      rw [← eL]
      exact rws_of fun p hp => tup6 (hL p hp)
    have d7 : DqAll (upd H5 x (.ins C dx (putF "_promises" (.ref m) [("_log", .ref l)]))) ws' ((srtV vs).map vwD) := by
      obtain ⟨M, rfl, eM, hM⟩ := prs_vw d5
      rw [← eM]
      exact vws_of fun p hp => tup6 (hM p hp)
    have x6 : upd H5 x (.ins C dx (putF "_promises" (.ref m) [("_log", .ref l)])) x = some (.ins C dx [("_log", .ref l), ("_promises", .ref m)]) := upd_same
    have h6 := off6 l _ (e5 l _ h4) hlx
    have h7 := off6 m _ h5 hmx
    have keep6 : ∀ y o, H y = some o → y ≠ x → upd H5 x (.ins C dx (putF "_promises" (.ref m) [("_log", .ref l)])) y = some o := fun y o h ne => off6 y o (e5 y o (keep4 y o h ne)) ne
    generalize upd H5 x (.ins C dx (putF "_promises" (.ref m) [("_log", .ref l)])) = H6 at d6 d7 x6 h6 h7 keep6
    obtain ⟨tr, kr⟩ := T.cR
    obtain ⟨tp, kp⟩ := T.cP
    have lenU : us'.length = (srtR rs).length := by rw [d6.len, List.length_map]
    have lenW : ws'.length = (srtV vs).length := by rw [d7.len, List.length_map]
    have mr := fit.mr
    have mv := fit.mv
    refine q_when (b := false) (et_is (et_test (ev_op (ev_cb (ea_cons (ev_fld (ev_var rfl) x6 T.cl T.nL rfl) ea_nil) (rc_len (.inl (sq_of h6)) lenU)) (ev_con (ev_var rfl) x6 T.cl kr rfl) rv_I0)) (decide_eq_false (by omega))) (fun q => nomatch q) fun _ H7 e7 => ?_
    refine s_when (b := false) (et_is (et_test (ev_op (ev_cb (ea_cons (ev_fld (ev_var rfl) (e7 x _ x6) T.cl T.nP rfl) ea_nil) (rc_len (.inl (sq_of (e7 m _ h7))) lenW)) (ev_con (ev_var rfl) (e7 x _ x6) T.cl kp rfl) rv_I0)) (decide_eq_false (by omega))) (fun q => nomatch q) fun _ H8 e8 => ?_
    have e9 := e7.trans e8
    have nm : H m = none := by
      cases q : H m with
      | none => rfl
      | some o =>
        by_cases z : m = x
        · exact absurd z hmx
        · have := keep4 m o q z
          rw [hm] at this; cases this
    exact k l m us' ws' H8 (fresh_back (e1.trans e2) hl) nm (fun y o h ne => e9 y o (keep6 y o h ne)) (e9 x _ x6) (e9 l _ h6) (d6.mono e9) (e9 m _ h7) (d7.mono e9)
end
end K32
end
section
set_option maxHeartbeats 4000000
namespace K32
open PySem L2 Evl G OW BK TD
/-! ### lists of flat data -/
def scD : PyData → Bool
  | .none => true
  | .bool _ => true
  | .int _ => true
  | .str _ => true
  | _ => false
def flatD : PyData → Bool
  | .tuple ds => ds.all scD
  | d => scD d
theorem sc_any {H H' : Hp} {v : V} {d : PyData} (f : scD d = true) (h : Dq H v d) : Dq H' v d := by
  cases h with
  | non => exact .non
  | bl b => exact .bl b
  | int i => exact .int i
  | str x => exact .str x
  | lst _ _ => cases f
  | tup _ _ => cases f
  | dct _ _ => cases f
theorem scs_any {H H' : Hp} : ∀ {vs : List V} {ds : List PyData}, ds.all scD = true → DqAll H vs ds → DqAll H' vs ds
  | [], [], _, _ => .nil
  | [], _ :: _, _, h => by cases h
  | _ :: _, [], _, h => by cases h
  | _ :: _, d :: ds, f, h => by
    rw [List.all_cons, Bool.and_eq_true] at f
    cases h with
    | cons h1 h2 => exact .cons (sc_any f.1 h1) (scs_any f.2 h2)
/-- flat data stand wherever the tuples stand -/
theorem flat_in {H H' : Hp} (e : ∀ a xs, H a = some (.tup xs) → H' a = some (.tup xs)) {v : V} {d : PyData} (f : flatD d = true) (h : Dq H v d) : Dq H' v d := by
  cases h with
  | tup ha k => exact .tup (e _ _ ha) (scs_any f k)
  | non => exact .non
  | bl b => exact .bl b
  | int i => exact .int i
  | str x => exact .str x
  | lst _ _ => cases f
  | dct _ _ => cases f
theorem flats_in {H H' : Hp} (e : ∀ a xs, H a = some (.tup xs) → H' a = some (.tup xs)) : ∀ {vs : List V} {ds : List PyData}, (∀ d ∈ ds, flatD d = true) → DqAll H vs ds → DqAll H' vs ds
  | [], [], _, _ => .nil
  | [], _ :: _, _, h => by cases h
  | _ :: _, [], _, h => by cases h
  | _ :: _, d :: ds, f, h => by
    cases h with
    | cons h1 h2 => exact .cons (flat_in e (f d List.mem_cons_self) h1) (flats_in e (fun x hx => f x (List.mem_cons_of_mem _ hx)) h2)
theorem rw_flat (r : Rw) : flatD (rwD r) = true := rfl
theorem vw_flat (v : Vow) : flatD (vwD v) = true := by
  cases v with
  | quick a b => rfl
  | lead r lo hi => cases lo <;> cases hi <;> rfl
/-- a list, old or new, that reads as ds -/
def EvSl (te : TE) (σ : L2.St) (H : Hp) (ds : List PyData) : Prop := ∀ H1, Ex H H1 → ∀ Q : VK, (∀ a us H2, Ex H1 H2 → H2 a = some (.lst us) → DqAll H2 us ds → Q (.ref a) H2) → te σ H1 Q
section
variable {K : PySem.W.Frag} {σ : L2.St} {H : Hp} {te tl ta tb : TE} {tt : TT} {j : Nat} {vs : List Nat} {ds es : List PyData}
theorem esl_ref {a : Addr} {us : List V} (h : Ev te σ H (.ref a)) (ha : H a = some (.lst us)) (d : DqAll H us ds) : EvSl te σ H ds := fun H1 e Q q => h H1 e _ fun H2 e2 => q a us H2 e2 ((e.trans e2) a _ ha) (d.mono (e.trans e2))
theorem esl_lq (h : EvLq te σ H ds) : EvSl te σ H ds := fun H1 e Q q => h H1 e _ fun p vs H2 _ e2 hp k => q p vs H2 e2 hp k
theorem lq_lc {α : Type} (enc g : α → PyData) (f : α → Bool) {xs : List α} (h : EvSl tl σ H (xs.map enc)) (hz : xs.length ≤ 40000) (hw : ∀ x, wipe ((wipe σ vs).set j (some x)) vs = wipe σ vs) (fl : ∀ x ∈ xs, flatD (g x) = true)
    (ht : ∀ x u H1, Ex H H1 → x ∈ xs → Dq H1 u (enc x) → EvT tt ((wipe σ vs).set j (some u)) H1 (f x)) (he : ∀ x u H1, Ex H H1 → x ∈ xs → Dq H1 u (enc x) → f x = true → EvQ te ((wipe σ vs).set j (some u)) H1 (g x)) :
    EvLq (tLc (iList K tl) (gName j) tt te vs) σ H ((xs.filter f).map g) := fun H0 e Q q => h H0 e _ fun a us H1 e1 ha d => ⟨a, rfl, ⟨us, sq_of ha⟩, fun Dl hD => by
  have hl : us.length = xs.length := by rw [d.len, List.length_map]
  refine lc_list (xs := us) (fun i H' => ∃ acc : List V, Ex H1 H' ∧ H' Dl = some (.lst acc) ∧ acc.length ≤ i ∧ DqAll H' acc (((xs.take i).filter f).map g)) ⟨[], Ex.new hD, upd_same, Nat.le_refl _, by rw [List.take_zero]; exact .nil⟩ (fun i H' _ ⟨acc, x1, _⟩ => sq_of (x1 a _ ha)) (fun i u H' hi ⟨acc, x1, x2, x3, x4⟩ => ?_) (fun H' ⟨acc, x1, x2, _, x4⟩ => ?_)
  · obtain ⟨dd, hd, hu⟩ := d.get hi
    rw [List.getElem?_map] at hd
    obtain ⟨x, hx, rfl⟩ := Option.map_eq_some_iff.mp hd
    have hm := List.mem_of_getElem? hx
    have ilt : i < us.length := (List.getElem?_eq_some_iff.mp hi).1
    have tk : (xs.take (i + 1)).filter f = (xs.take i).filter f ++ [x].filter f := by
      rw [List.take_add_one, hx, List.filter_append]
      rfl
    refine ⟨hw u, ?_⟩
    refine ht x u H' ((e.trans e1).trans x1) hm (hu.mono x1) H' (Ex.refl _) _ fun H3 e3 => ?_
    cases hf : f x with
    | false =>
      rw [if_neg Bool.false_ne_true]
      refine ⟨acc, x1.trans e3, e3 _ _ x2, Nat.le_succ_of_le x3, ?_⟩
      rw [tk, List.filter_cons, if_neg (by rw [hf]; exact Bool.false_ne_true), List.filter_nil, List.append_nil]
      exact x4.mono e3
    | true =>
      rw [if_pos rfl]
      refine he x u H3 (((e.trans e1).trans x1).trans e3) hm (hu.mono (x1.trans e3)) hf H3 (Ex.refl _) _ fun y H4 e4 hy => ?_
      have h4 := e4 _ _ (e3 _ _ x2)
      have tups : ∀ b zs, H4 b = some (.tup zs) → upd H4 Dl (.lst (acc ++ [y])) b = some (.tup zs) := fun b zs hb => by rw [upd_ne (show b ≠ Dl from fun z => by rw [z, h4] at hb; cases hb)]; exact hb
      have gf : ∀ d ∈ ((xs.take (i + 1)).filter f).map g, flatD d = true := fun d hd => by
        obtain ⟨z, hz, rfl⟩ := List.mem_map.mp hd
        exact fl z (List.mem_of_mem_take (List.mem_filter.mp hz).1)
      refine ⟨acc, h4, sz_lt (by omega), acc ++ [y], ((x1.trans e3).trans e4).mut hD, upd_same, by rw [List.length_append]; exact Nat.succ_le_succ x3, ?_⟩
      refine flats_in tups gf ?_
      rw [tk, List.filter_cons, if_pos hf, List.filter_nil, List.map_append]
      exact (x4.mono (e3.trans e4)).app (.cons hy .nil)
  · rw [hl, List.take_length] at x4
    exact q Dl acc H' (fresh_back e1 hD) (e1.trans x1) x2 x4⟩
theorem lq_catS (ha : EvSl ta σ H ds) (hb : ∀ H1, Ex H H1 → EvSl tb σ H1 es) (hz : ds.length + es.length ≤ 100000) : EvLq (tOp rCat ta tb) σ H (ds ++ es) := fun H1 e Q q =>
  ha H1 e _ fun a us H2 e2 h2 d2 => hb H2 (e.trans e2) H2 (Ex.refl _) _ fun b ws H3 e3 h3 d3 => 
    ⟨a, b, us, ws, rfl, rfl, e3 a _ h2, h3, sz_of (by rw [d2.len, d3.len]; exact hz), fun p hp => q p _ _ (fresh_back (e2.trans e3) hp) ((e2.trans e3).trans (Ex.new hp)) upd_same (((d2.mono e3).app d3).mono (Ex.new hp))⟩
theorem lq_list (h : EvSl te σ H ds) : EvLq (tCB (fun xs H Q => ∃ p ys, xs = [.ref p] ∧ (SqL K H p ys ∨ SqT K H p ys) ∧ ∀ l, H l = none → Q (.ref l) (upd H l (.lst ys))) (tCons te tNil)) σ H ds := fun H1 e Q q =>
  h H1 e _ fun a us H2 e2 h2 d2 => ⟨a, us, rfl, .inl (sq_of h2), fun l hl => q l us _ (fresh_back e2 hl) (e2.trans (Ex.new hl)) upd_same (d2.mono (Ex.new hl))⟩
end
end K32
end
section
set_option maxHeartbeats 4000000
namespace K32
open PySem L2 Evl G OW BK TD
/-! ### what the deeds of a book promise -/
def RetLq (ds : List PyData) (H : Hp) (Q : VK) : Prop := ∀ p us H2, H p = none → Ex H H2 → H2 p = some (.lst us) → DqAll H2 us ds → Q (.ref p) H2
def RetB (C : Addr) (rs : List Rw) (vs : List Vow) (H : Hp) (Q : VK) : Prop := ∀ p H2, H p = none → Ex H H2 → BkAt H2 C p rs vs → Q (.ref p) H2
def sp_log (C : Addr) : Sp := fun as H Q _ => ∃ (p : Addr) (rs : List Rw) (vs : List Vow), as = [.ref p] ∧ BkAt H C p rs vs ∧ RetLq (rs.map rwD) H Q
def sp_promises (C : Addr) : Sp := fun as H Q _ => ∃ (p : Addr) (rs : List Rw) (vs : List Vow), as = [.ref p] ∧ BkAt H C p rs vs ∧ RetLq (vs.map vwD) H Q
theorem spq_log {C p : Addr} {rs : List Rw} {vs : List Vow} {H : Hp} (h : BkAt H C p rs vs) : SpQs (sp_log C) ([.ref p] ++ []) H (rs.map rwD) := fun H1 e Q q E => ⟨p, rs, vs, rfl, h.mono e, q⟩
theorem spq_promises {C p : Addr} {rs : List Rw} {vs : List Vow} {H : Hp} (h : BkAt H C p rs vs) : SpQs (sp_promises C) ([.ref p] ++ []) H (vs.map vwD) := fun H1 e Q q E => ⟨p, rs, vs, rfl, h.mono e, q⟩
def vwR : Vow → Str
  | .quick a _ => a
  | .lead r _ _ => r
def vwO : Vow → Option Str
  | .quick _ b => some b
  | .lead .. => none
def named (rs : List Rw) (vs : List Vow) : List Str := rs.map (·.1) ++ vs.map vwR ++ vs.filterMap vwO
def sp_rules (C : Addr) : Sp := fun as H Q _ => ∃ (p : Addr) (rs : List Rw) (vs : List Vow), as = [.ref p] ∧ BkAt H C p rs vs ∧ rs.length ≤ 24 ∧ vs.length ≤ 12 ∧ RetLq ((nrm (named rs vs)).map PyData.str) H Q
theorem spq_rules {C p : Addr} {rs : List Rw} {vs : List Vow} {H : Hp} (h : BkAt H C p rs vs) (h1 : rs.length ≤ 24) (h2 : vs.length ≤ 12) : SpQs (sp_rules C) ([.ref p] ++ []) H ((nrm (named rs vs)).map PyData.str) := fun H1 e Q q E => ⟨p, rs, vs, rfl, h.mono e, h1, h2, q⟩
def dPair (r : Rw) : PyData := .tuple [.int r.2.1, .int r.2.2]
def sp_rows_of (C : Addr) : Sp := fun as H Q _ => ∃ (p : Addr) (rs : List Rw) (vs : List Vow) (z : Str), as = [.ref p, .str z] ∧ BkAt H C p rs vs ∧ z ∈ ruleL ∧ rs.length ≤ 100 ∧ RetLq ((rs.filter fun r => decide (r.1 = z)).map dPair) H Q
theorem spq_rows_of {C p : Addr} {rs : List Rw} {vs : List Vow} {z : Str} {H : Hp} (h : BkAt H C p rs vs) (hz : z ∈ ruleL) (h1 : rs.length ≤ 100) : SpQs (sp_rows_of C) (.ref p :: ([.str z] ++ [])) H ((rs.filter fun r => decide (r.1 = z)).map dPair) := fun H1 e Q q E => ⟨p, rs, vs, z, rfl, h.mono e, hz, h1, q⟩
section
variable {P : Program} {w : World} {K : PySem.W.Frag} {mg : Str → Option Value} {base : Heap} {C : Addr} {σ : L2.St} {H : Hp} {p : Addr} {rs : List Rw} {vs : List Vow} {te : TE}
/-- self._log, self._promises -/
theorem esl_log (T : Txt P w K mg C) (h : Ev te σ H (.ref p)) (b : BkAt H C p rs vs) : EvSl (tFld K te "_log") σ H (rs.map rwD) := by
  obtain ⟨dx, l, m, us, ws, h1, h2, h3, h4, h5⟩ := b
  exact esl_ref (ev_fld h h1 T.cl T.nL rfl) h2 h3
theorem esl_promises (T : Txt P w K mg C) (h : Ev te σ H (.ref p)) (b : BkAt H C p rs vs) : EvSl (tFld K te "_promises") σ H (vs.map vwD) := by
  obtain ⟨dx, l, m, us, ws, h1, h2, h3, h4, h5⟩ := b
  exact esl_ref (ev_fld h h1 T.cl T.nP rfl) h4 h5
theorem s_rlq {ds : List PyData} {D : Ends} (h : EvLq te σ H ds) (k : RetLq ds H D.rt) : tRet te D σ H := h H (Ex.refl H) _ k
theorem ok_log {f : Addr} {fd : FuncData} (F : Fun K "log" "Book.log" s_Book_log f fd) (T : Txt P w K mg C) : FnOk P w K mg base CX0 1 f fd ["self"] (sp_log C) := by
  refine F.ok sc_Book_log (fun vs H Q E h => ?_) (fun cdv A outer s H vs Q E hr h => ?_)
  · obtain ⟨p, rs, vs, rfl, _⟩ := h
    rfl
  · obtain ⟨p, rs, vs, rfl, b, k⟩ := h
    refine ⟨_, (pss_one (ps_ret (pe_callTy call_list_of (by rfl) T.b_list (by decide +kernel) (pa_cons (pe_fldK (K := K) rfl (pv 0) rfl) pa_nil)))), ?_⟩
    exact s_rlq (lq_list (esl_log T (ev_var rfl) b)) k
theorem ok_promises {f : Addr} {fd : FuncData} (F : Fun K "promises" "Book.promises" s_Book_promises f fd) (T : Txt P w K mg C) : FnOk P w K mg base CX0 1 f fd ["self"] (sp_promises C) := by
  refine F.ok sc_Book_promises (fun vs H Q E h => ?_) (fun cdv A outer s H vs Q E hr h => ?_)
  · obtain ⟨p, rs, vs, rfl, _⟩ := h
    rfl
  · obtain ⟨p, rs, vs, rfl, b, k⟩ := h
    refine ⟨_, (pss_one (ps_ret (pe_callTy call_list_of (by rfl) T.b_list (by decide +kernel) (pa_cons (pe_fldK (K := K) rfl (pv 0) rfl) pa_nil)))), ?_⟩
    exact s_rlq (lq_list (esl_promises T (ev_var rfl) b)) k
theorem eq_val {te : TE} {v : V} {d : PyData} (h : Ev te σ H v) (hd : ∀ H1, Dq H1 v d) : EvQ te σ H d := eq_of h fun H1 _ => hd H1
/-- a row's, a promise's parts -/
theorem ev_rw0 {r : Rw} {v : V} (h : Ev te σ H v) (d : Dq H v (rwD r)) : Ev (tOp (rIxT K) te (tC (.int 0))) σ H (.str r.1) := by
  obtain ⟨a, rfl, ha⟩ := rw_of d
  exact ev_at0 h ha
theorem ev_vw0 {x : Vow} {v : V} (h : Ev te σ H v) (d : Dq H v (vwD x)) : Ev (tOp (rIxT K) te (tC (.int 0))) σ H (.str (match x with | .quick .. => "quick" | .lead .. => "lead")) := by
  obtain ⟨a, rfl, ha⟩ := vw_of d
  cases x <;> exact ev_at0 h ha
theorem ev_vw1 {x : Vow} {v : V} (h : Ev te σ H v) (d : Dq H v (vwD x)) : Ev (tOp (rIxT K) te (tC (.int 1))) σ H (.str (vwR x)) := by
  obtain ⟨a, rfl, ha⟩ := vw_of d
  cases x <;> exact ev_at1 h ha
theorem ev_vw2 {a b : Str} {v : V} (h : Ev te σ H v) (d : Dq H v (vwD (.quick a b))) : Ev (tOp (rIxT K) te (tC (.int 2))) σ H (.str b) := by
  obtain ⟨a, rfl, ha⟩ := vw_of d
  exact ev_at2 h ha
end
end K32
end
section
set_option maxHeartbeats 4000000
namespace K32
open PySem L2 Evl G OW BK TD
/-! ### lists of rows, of promises, of texts: ==, !=, in -/
structure EncOk {α : Type} [DecidableEq α] (enc : α → PyData) (ok : α → Prop) : Prop where
  eqv : ∀ a b, PyData.eqv (enc a) (enc b) = decide (a = b)
  lay : ∀ a, ok a → (enc a).canLay0 = true
  dep : ∀ a, (enc a).depth ≤ 1
theorem letter_ok : ∀ r ∈ ruleL, PyData.canLay0 (.str r) = true := by decide +kernel
theorem words_ok : PyData.canLay0 (.str "quick") = true ∧ PyData.canLay0 (.str "lead") = true := by decide +kernel
theorem encR : EncOk rwD rwOk where
  eqv a b := by
    obtain ⟨a1, a2, a3⟩ := a
    obtain ⟨b1, b2, b3⟩ := b
    simp only [rwD, PyData.eqv, PyData.eqvAll, Bool.and_true]
    rw [Bool.eq_iff_iff]
    simp [and_assoc]
  lay a h := by
    have := letter_ok a.1 h
    simp only [rwD, PyData.canLay0, PyData.canLayAll0, Bool.and_true] at this ⊢
    exact this
  dep a := by simp [rwD, PyData.depth, PyData.depthAll]
theorem eqv_oD (a b : Option Int) : PyData.eqv (oD a) (oD b) = decide (a = b) := by
  cases a <;> cases b <;> simp only [oD, PyData.eqv]
  · simp
  · simp
  · simp
  · rw [Bool.eq_iff_iff]; simp
theorem heads_ne (xs ys : List PyData) : PyData.eqvAll (.str "quick" :: xs) (.str "lead" :: ys) = false := by
  rw [PySem.W.eqv_all_cons, show PyData.eqv (.str "quick") (.str "lead") = false by simp [PyData.eqv]; decide, Bool.false_and]
theorem heads_ne' (xs ys : List PyData) : PyData.eqvAll (.str "lead" :: xs) (.str "quick" :: ys) = false := by
  rw [PySem.W.eqv_all_cons, show PyData.eqv (.str "lead") (.str "quick") = false by simp [PyData.eqv]; decide, Bool.false_and]
theorem encV : EncOk vwD vwOk where
  eqv a b := by
    cases a with
    | quick p q =>
      cases b with
      | quick r s =>
        simp only [vwD, PyData.eqv, PyData.eqvAll, Bool.and_true]
        rw [Bool.eq_iff_iff]
        simp
      | lead r lo hi =>
        rw [vwD, vwD, PyData.eqv, heads_ne]
        exact (decide_eq_false fun z => by cases z).symm
    | lead r lo hi =>
      cases b with
      | quick p q =>
        rw [vwD, vwD, PyData.eqv, heads_ne']
        exact (decide_eq_false fun z => by cases z).symm
      | lead s lo' hi' =>
        simp only [vwD, PyData.eqv, PyData.eqvAll, Bool.and_true, eqv_oD]
        rw [Bool.eq_iff_iff]
        simp
  lay a h := by
    have w1 := words_ok.1
    have w2 := words_ok.2
    cases a with
    | quick p q =>
      have h1 := letter_ok p h.1
      have h2 := letter_ok q h.2.1
      simp only [vwD, PyData.canLay0, PyData.canLayAll0, Bool.and_true, Bool.and_eq_true] at h1 h2 w1 ⊢
      exact ⟨w1, h1, h2⟩
    | lead r lo hi =>
      have h1 := letter_ok r h.1
      have ho : ∀ o : Option Int, (oD o).canLay0 = true := fun o => by cases o <;> rfl
      simp only [vwD, PyData.canLay0, PyData.canLayAll0, Bool.and_true, Bool.and_eq_true] at h1 w2 ⊢
      exact ⟨w2, h1, ho lo, ho hi⟩
  dep a := by
    cases a with
    | quick p q => simp [vwD, PyData.depth, PyData.depthAll]
    | lead r lo hi => cases lo <;> cases hi <;> simp [vwD, oD, PyData.depth, PyData.depthAll]
theorem encS : EncOk PyData.str (· ∈ ruleL) where
  eqv a b := by
    rw [Bool.eq_iff_iff]; simp [PyData.eqv]
  lay a h := letter_ok a h
  dep a := by simp [PyData.depth]
theorem encP : EncOk (fun p : Int × Int => PyData.tuple [.int p.1, .int p.2]) (fun _ => True) where
  eqv a b := by
    obtain ⟨a1, a2⟩ := a
    obtain ⟨b1, b2⟩ := b
    simp only [PyData.eqv, PyData.eqvAll, Bool.and_true]
    rw [Bool.eq_iff_iff]
    simp
  lay a h := rfl
  dep a := by simp [PyData.depth, PyData.depthAll]
section
variable {α : Type} [DecidableEq α] {enc : α → PyData} {ok : α → Prop}
theorem EncOk.layAll (O : EncOk enc ok) : ∀ {xs : List α}, (∀ x ∈ xs, ok x) → PyData.canLayAll0 (xs.map enc) = true
  | [], _ => rfl
  | x :: xs, h => by
    rw [List.map_cons, PyData.canLayAll0, O.lay x (h x List.mem_cons_self), O.layAll fun y hy => h y (List.mem_cons_of_mem _ hy)]
    rfl
theorem EncOk.depAll (O : EncOk enc ok) : ∀ xs : List α, PyData.depthAll (xs.map enc) ≤ 1
  | [] => Nat.zero_le _
  | x :: xs => by
    rw [List.map_cons, PyData.depthAll]
    exact Nat.max_le.mpr ⟨O.dep x, O.depAll xs⟩
theorem EncOk.shL (O : EncOk enc ok) {xs : List α} (h : ∀ x ∈ xs, ok x) : SeqAt.shaped (.list (xs.map enc)) = true := by
  have d := O.depAll xs
  unfold SeqAt.shaped
  rw [PyData.canLay0, O.layAll h, PyData.depth, Bool.true_and]
  exact decide_eq_true (by omega)
theorem EncOk.sh (O : EncOk enc ok) {x : α} (h : ok x) : SeqAt.shaped (enc x) = true := by
  have d := O.dep x
  unfold SeqAt.shaped
  rw [O.lay x h, Bool.true_and]
  exact decide_eq_true (by omega)
theorem EncOk.eqvAll (O : EncOk enc ok) : ∀ xs ys : List α, PyData.eqvAll (xs.map enc) (ys.map enc) = decide (xs = ys)
  | [], [] => by simp [PyData.eqvAll]
  | [], _ :: _ => by simp [PyData.eqvAll]
  | _ :: _, [] => by simp [PyData.eqvAll]
  | x :: xs, y :: ys => by
    rw [List.map_cons, List.map_cons, PyData.eqvAll, O.eqv, O.eqvAll xs ys, Bool.eq_iff_iff]
    simp
theorem EncOk.any (O : EncOk enc ok) (a : α) : ∀ xs : List α, ((xs.map enc).any fun z => PyData.eqv z (enc a)) = decide (a ∈ xs)
  | [] => by simp
  | x :: xs => by
    rw [List.map_cons, List.any_cons, O.eqv, O.any a xs, Bool.eq_iff_iff]
    simp only [Bool.or_eq_true, decide_eq_true_eq, List.mem_cons]
    exact or_congr ⟨Eq.symm, Eq.symm⟩ Iff.rfl
variable {K : PySem.W.Frag} {σ : L2.St} {H : Hp} {te tl ta tb : TE} {xs ys : List α} {a b : α}
theorem ev_eqLs (O : EncOk enc ok) (ha : EvSl ta σ H (xs.map enc)) (hb : ∀ H1, Ex H H1 → EvSl tb σ H1 (ys.map enc)) (hx : ∀ x ∈ xs, ok x) (hy : ∀ y ∈ ys, ok y) : Ev (tOp (rEqD K) ta tb) σ H (.bl (decide (xs = ys))) := fun H1 e Q q =>
  ha H1 e _ fun p us H2 e2 h2 d2 => hb H2 (e.trans e2) H2 (Ex.refl _) _ fun r ws H3 e3 h3 d3 => by
    refine ⟨.list (xs.map enc), .list (ys.map enc), .lst (sq_of (e3 _ _ h2)) (dqAll_dp _ (O.layAll hx) (d2.mono e3)), .lst (sq_of h3) (dqAll_dp _ (O.layAll hy) d3), O.shL hx, O.shL hy, ?_⟩
    rw [PyData.eqv, O.eqvAll]
    exact q H3 (e2.trans e3)
theorem ev_neLs (O : EncOk enc ok) (ha : EvSl ta σ H (xs.map enc)) (hb : ∀ H1, Ex H H1 → EvSl tb σ H1 (ys.map enc)) (hx : ∀ x ∈ xs, ok x) (hy : ∀ y ∈ ys, ok y) : Ev (tOp (rNeD K) ta tb) σ H (.bl (!decide (xs = ys))) := fun H1 e Q q =>
  ha H1 e _ fun p us H2 e2 h2 d2 => hb H2 (e.trans e2) H2 (Ex.refl _) _ fun r ws H3 e3 h3 d3 => by
    refine ⟨.list (xs.map enc), .list (ys.map enc), .lst (sq_of (e3 _ _ h2)) (dqAll_dp _ (O.layAll hx) (d2.mono e3)), .lst (sq_of h3) (dqAll_dp _ (O.layAll hy) d3), O.shL hx, O.shL hy, ?_⟩
    rw [PyData.eqv, O.eqvAll]
    exact q H3 (e2.trans e3)
theorem ev_neE (O : EncOk enc ok) {x y : V} (ha : Ev ta σ H x) (da : Dq H x (enc a)) (hb : Ev tb σ H y) (db : Dq H y (enc b)) (ka : ok a) (kb : ok b) : Ev (tOp (rNeD K) ta tb) σ H (.bl (!decide (a = b))) := fun H1 e Q q =>
  ha H1 e _ fun H2 e2 => hb H2 (e.trans e2) _ fun H3 e3 => by
    refine ⟨enc a, enc b, dq_dp _ (O.lay a ka) (da.mono ((e.trans e2).trans e3)), dq_dp _ (O.lay b kb) (db.mono ((e.trans e2).trans e3)), O.sh ka, O.sh kb, ?_⟩
    rw [O.eqv]
    exact q H3 (e2.trans e3)
theorem ev_niE (O : EncOk enc ok) {x : V} (ha : Ev ta σ H x) (da : Dq H x (enc a)) (hb : ∀ H1, Ex H H1 → EvSl tb σ H1 (xs.map enc)) (ka : ok a) (hx : ∀ x ∈ xs, ok x) : Ev (tOp (rNotInD K) ta tb) σ H (.bl (!decide (a ∈ xs))) := fun H1 e Q q =>
  ha H1 e _ fun H2 e2 => hb H2 (e.trans e2) H2 (Ex.refl _) _ fun r ws H3 e3 h3 d3 => by
    refine ⟨enc a, xs.map enc, dq_dp _ (O.lay a ka) (da.mono ((e.trans e2).trans e3)), .lst (sq_of h3) (dqAll_dp _ (O.layAll hx) d3), O.sh ka, O.shL hx, ?_⟩
    rw [O.any]
    exact q H3 (e2.trans e3)
theorem ev_inE (O : EncOk enc ok) {x : V} (ha : Ev ta σ H x) (da : Dq H x (enc a)) (hb : ∀ H1, Ex H H1 → EvSl tb σ H1 (xs.map enc)) (ka : ok a) (hx : ∀ x ∈ xs, ok x) : Ev (tOp (rInD K) ta tb) σ H (.bl (decide (a ∈ xs))) := fun H1 e Q q =>
  ha H1 e _ fun H2 e2 => hb H2 (e.trans e2) H2 (Ex.refl _) _ fun r ws H3 e3 h3 d3 => by
    refine ⟨enc a, xs.map enc, dq_dp _ (O.lay a ka) (da.mono ((e.trans e2).trans e3)), .lst (sq_of h3) (dqAll_dp _ (O.layAll hx) d3), O.sh ka, O.shL hx, ?_⟩
    rw [O.any]
    exact q H3 (e2.trans e3)
end
end K32
end
section
set_option maxHeartbeats 4000000
namespace K32
open PySem L2 Evl G OW BK TD
/-! ### a book's lists, its rules, == -/
structure Fine (rs : List Rw) (vs : List Vow) : Prop where
  r : ∀ r ∈ rs, rwOk r
  v : ∀ v ∈ vs, vwOk v
  nr : rs.length ≤ 24
  nv : vs.length ≤ 12
  sr : srtR rs = rs
  sv : srtV vs = vs
theorem Fit.fine {rs : List Rw} {vs : List Vow} (h : Fit rs vs) : Fine (srtR rs) (srtV vs) where
  r x hx := h.r x (mem_srt.mp hx)
  v x hx := h.v x (mem_srt.mp hx)
  nr := h.mr
  nv := h.mv
  sr := srt_srt ordR rs
  sv := srt_srt ordV vs
theorem strs_of {H : Hp} : ∀ {us : List V} {ks : List Str}, DqAll H us (ks.map PyData.str) → us = ks.map V.str
  | [], [], _ => rfl
  | [], _ :: _, h => by cases h
  | _ :: _, [], h => by cases h
  | u :: us, k :: ks, h => by
    cases h with
    | cons h1 h2 => cases h1; rw [strs_of h2]; rfl
theorem of_strs {H : Hp} : ∀ ks : List Str, DqAll H (ks.map V.str) (ks.map PyData.str)
  | [] => .nil
  | k :: ks => .cons (.str k) (of_strs ks)
section
variable {P : Program} {w : World} {K : PySem.W.Frag} {mg : Str → Option Value} {base : Heap} {C : Addr} {σ : L2.St} {H : Hp} {p : Addr} {rs : List Rw} {vs : List Vow} {te : TE} {ks : List Str}
theorem el_strs (h : EvSl te σ H (ks.map PyData.str)) : ∀ H1, Ex H H1 → ∀ Q : VK, (∀ a H2, Ex H1 H2 → H2 a = some (.lst (ks.map V.str)) → Q (.ref a) H2) → te σ H1 Q := fun H1 e Q q =>
  h H1 e _ fun a us H2 e2 h2 d2 => q a H2 e2 (by rw [h2, strs_of d2])
theorem lq_sortedSet {w' : World} (h : EvSl te σ H (ks.map PyData.str)) (hz : ks.length < 64) : EvLq (tCB (SX.rSorted w') (tCons (tCB (SX.rSet K w') (tCons te tNil)) tNil)) σ H ((nrm ks).map PyData.str) := fun H1 e Q q =>
  el_strs h H1 e _ fun l H2 e2 h2 => ⟨l, ks, rfl, .inl (sq_of h2), by omega, fun s hs => ⟨s, ks, rfl, upd_same, by omega, fun ys p hsd hn hm hp => by
    have hp2 : H2 p = none := fresh_back (Ex.new hs) hp
    rw [nrm_eq ⟨hsd, hn, hm⟩] at q
    exact q p _ _ (fresh_back e2 hp2) ((e2.trans (Ex.new hs)).trans (Ex.new hp)) upd_same (of_strs _)⟩⟩
theorem named_len (rs : List Rw) (vs : List Vow) : (named rs vs).length ≤ rs.length + vs.length + vs.length := by
  have := List.length_filterMap_le vwO vs
  unfold named
  simp only [List.length_append, List.length_map]
  omega
def isQ : Vow → Bool
  | .quick .. => true
  | .lead .. => false
def vwX (v : Vow) : Str := (vwO v).getD ""
theorem others_eq : ∀ vs : List Vow, ((vs.filter isQ).map fun v => PyData.str (vwX v)) = (vs.filterMap vwO).map PyData.str
  | [] => rfl
  | .quick a b :: vs => by
    rw [List.filter_cons, if_pos (show isQ (.quick a b) = true from rfl), List.map_cons, others_eq vs]
    rfl
  | .lead r lo hi :: vs => by
    rw [List.filter_cons, if_neg (show ¬isQ (.lead r lo hi) = true from Bool.false_ne_true), others_eq vs]
    rfl
theorem lq_eq {ds es : List PyData} (h : EvLq te σ H ds) (e : ds = es) : EvLq te σ H es := e ▸ h
theorem esl_eq {ds es : List PyData} (h : EvSl te σ H ds) (e : ds = es) : EvSl te σ H es := e ▸ h
theorem q_lq {D : Ends} {tz : TS} {i : Nat} {ds : List PyData} (h : EvLq te σ H ds) (k : ∀ a us H1, H a = none → Ex H H1 → H1 a = some (.lst us) → DqAll H1 us ds → tz D (σ.set i (some (.ref a))) H1) : tSeq (tAsg te (gName i)) tz D σ H := h H (Ex.refl H) _ k
theorem ok_rules {f : Addr} {fd : FuncData} (F : Fun K "rules" "Book.rules" s_Book_rules f fd) (T : Txt P w K mg C) : FnOk P w K mg base CX0 1 f fd ["self"] (sp_rules C) := by
  refine F.ok sc_Book_rules (fun vs H Q E h => ?_) (fun cdv A outer s H vs Q E hr h => ?_)
  · obtain ⟨p, rs, vs, rfl, _⟩ := h
    rfl
  · obtain ⟨p, rs, vs, rfl, b, n1, n2, k⟩ := h
    refine ⟨_, (pss_cons (ps_set (i := 1) sc_Book_rules.nd rfl (Or.inl rfl) (pe_op op_cat (pe_lc (own := [("row", 3)]) (g := (gName 3)) (by rfl) sc_Book_rules.nd (piL (K := K) rfl (pe_fldK (K := K) rfl (pv 0) rfl)) (blkOk_by (own := [("row", 3)]) (N := ["self", "named", "others", "row", "promise"]) (sc := defScope s_Book_rules) (by decide +kernel)) (fun _ _ _ _ _ => (pg_name (i := 3) sc_Book_rules.nd rfl (Or.inl rfl))) (fun _ _ _ _ _ => pts_nil) (fun _ _ _ _ _ => (pe_ix (ixT (K := K) rfl) (pv 3) pe_int (fun _ _ => rfl)))) (pe_lc (own := [("promise", 4)]) (g := (gName 4)) (by rfl) sc_Book_rules.nd (piL (K := K) rfl (pe_fldK (K := K) rfl (pv 0) rfl)) (blkOk_by (own := [("promise", 4)]) (N := ["self", "named", "others", "row", "promise"]) (sc := defScope s_Book_rules) (by decide +kernel)) (fun _ _ _ _ _ => (pg_name (i := 4) sc_Book_rules.nd rfl (Or.inl rfl))) (fun _ _ _ _ _ => pts_nil) (fun _ _ _ _ _ => (pe_ix (ixT (K := K) rfl) (pv 4) pe_int (fun _ _ => rfl)))))) (pss_cons (ps_setLc (i := 2) (own := [("promise", 4)]) (g := (gName 4)) (by rfl) sc_Book_rules.nd rfl rfl (sw_true rfl rfl rfl (by decide +kernel)) (piL (K := K) rfl (pe_fldK (K := K) rfl (pv 0) rfl)) (blkOk_by (own := [("promise", 4)]) (N := ["self", "named", "others", "row", "promise"]) (sc := defScope s_Book_rules) (by decide +kernel)) (fun _ _ _ _ _ => (pg_name (i := 4) sc_Book_rules.nd rfl (Or.inl rfl))) (fun _ _ _ _ _ => (pts_one (pt_cmpR op_eq (pe_ix (ixT (K := K) rfl) (pv 4) pe_int (fun _ _ => rfl)) pe_str (nomark _)))) (fun _ _ _ _ _ => (pe_ix (ixT (K := K) rfl) (pv 4) pe_int (fun _ _ => rfl)))) (pss_one (ps_ret (pe_callB (SX.cr_sorted rfl hr.units) (by rfl) T.b_sorted (by decide +kernel) (pa_cons (pe_callTy (SX.cr_set rfl) (by rfl) T.b_set (by decide +kernel) (pa_cons (pe_op op_cat (pv 1) (pv 2)) pa_nil)) pa_nil)))))), ?_⟩
    refine q_lq (lq_catS (ds := (rs.map (·.1)).map PyData.str) (es := (vs.map vwR).map PyData.str) (esl_lq (lq_eq (lq_lc rwD (fun r => .str r.1) (fun _ => true) (esl_log T (ev_var rfl) b) (by omega) (fun _ => rfl) (fun _ _ => rfl) (fun r u H2 e2 _ d => lc_yes) (fun r u H2 e2 _ d _ => eq_val (ev_rw0 (ev_var rfl) d) fun _ => .str _)) (by rw [filter_yes, List.map_map]; rfl)))
      (fun H1 e1 => esl_lq (lq_eq (lq_lc vwD (fun v => .str (vwR v)) (fun _ => true) (esl_promises T (ev_var rfl) (b.mono e1)) (by omega) (fun _ => rfl) (fun _ _ => rfl) (fun r u H2 e2 _ d => lc_yes) (fun r u H2 e2 _ d _ => eq_val (ev_vw1 (ev_var rfl) d) fun _ => .str _)) (by rw [filter_yes, List.map_map]; rfl))) (by simp only [List.length_map]; omega)) fun l us H1 hl e1 h1 d1 => ?_
    refine q_lq (lq_eq (lq_lc vwD (fun v => .str (vwX v)) isQ (esl_promises T (ev_var rfl) (b.mono e1)) (by omega) (fun _ => rfl) (fun _ _ => rfl) (fun v u H2 e2 _ d => et_is (et_test (ev_op (ev_vw0 (ev_var rfl) d) ev_c (rv_eq rfl))) (by cases v <;> rfl)) (fun v u H2 e2 _ d hf => ?_)) (others_eq vs)) fun m ws H2 hm e2 h2 d2 => ?_
    · cases v with
      | quick a b => exact eq_val (ev_vw2 (ev_var rfl) d) fun _ => .str _
      | lead r lo hi => cases hf
    · rw [← List.map_append] at d1
      exact s_rlq (lq_eq (lq_sortedSet (ks := named rs vs) (esl_eq (esl_lq (lq_catS (esl_ref (ev_var rfl) (e2 l _ h1) (d1.mono e2)) (fun H3 e3 => esl_ref (ev_var rfl) (e3 m _ h2) (d2.mono e3)) (by simp only [List.length_map, List.length_append]; have := List.length_filterMap_le vwO vs; omega))) (by rw [← List.map_append]; rfl)) (by have := named_len rs vs; omega)) rfl) fun q us H3 hq e3 h3 d3 => k q us H3 (fresh_back (e1.trans e2) hq) ((e1.trans e2).trans e3) h3 d3
end
end K32
end
section
set_option maxHeartbeats 4000000
namespace K32
open PySem L2 Evl G OW BK TD
/-! ### new books -/
/-- a list or tuple, old or new, that reads as ds -/
def EvSq (te : TE) (σ : L2.St) (H : Hp) (ds : List PyData) : Prop := ∀ H1, Ex H H1 → ∀ Q : VK, (∀ a us H2, Ex H1 H2 → SeqT H2 a us → DqAll H2 us ds → Q (.ref a) H2) → te σ H1 Q
def EvB (C : Addr) (te : TE) (σ : L2.St) (H : Hp) (rs : List Rw) (vs : List Vow) : Prop := ∀ H1, Ex H H1 → ∀ Q : VK, RetB C rs vs H1 Q → te σ H1 Q
theorem u65 {k : Nat} {A : Around} (h : Room k A) : A.units + 65 < cLine := by have := h.un; omega
theorem niDK {X : Cx} {K : PySem.W.Frag} (hK : X.K = K) (hu : X.A.units + 65 < cLine) : OpR X (compareOp .NotIn) (rNotInD K) := hK ▸ op_notInD hu
theorem inDK {X : Cx} {K : PySem.W.Frag} (hK : X.K = K) (hu : X.A.units + 65 < cLine) : OpR X (compareOp .In) (rInD K) := hK ▸ op_inD hu
section
variable {P : Program} {w : World} {K : PySem.W.Frag} {mg : Str → Option Value} {base : Heap} {C : Addr} {σ : L2.St} {H : Hp} {p : Addr} {rs rs' : List Rw} {vs vs' : List Vow} {te ta tb : TE} {ds : List PyData} {E : XK}
theorem esq (h : EvSl te σ H ds) : EvSq te σ H ds := fun H1 e Q q => h H1 e _ fun a us H2 e2 h2 d2 => q a us H2 e2 (.inl h2) d2
theorem init_of {H1 : Hp} {Q : VK} {x dx a b : Addr} {us ws : List V} (hx : H1 x = none) (hdx : H1 dx = none) (ne : dx ≠ x) (hs : SeqT H1 a us) (d : DqAll H1 us (rs.map rwD)) (ht : SeqT H1 b ws) (dt : DqAll H1 ws (vs.map vwD)) (fit : Fit rs vs)
    (k : RetB C (srtR rs) (srtV vs) H1 Q) : sp_init C [.ref x, .ref a, .ref b] (upd (upd H1 dx (.own x)) x (.ins C dx [])) (fun v H2 => v = .non ∧ Q (.ref x) H2) E := by
  have e0 : Ex H1 (upd (upd H1 dx (.own x)) x (.ins C dx [])) := (Ex.new hdx).trans (Ex.new (by rw [upd_ne (Ne.symm ne)]; exact hx))
  exact ⟨x, dx, a, b, us, ws, rs, vs, rfl, upd_same, hs.mono e0, d.mono e0, ht.mono e0, dt.mono e0, fit, fun l m us' ws' H' _ _ keep hx' hl dl hm dm =>
    ⟨rfl, k x H' hx (fun y o hy => keep y o (e0 y o hy) fun z => by rw [z, hx] at hy; cases hy) ⟨dx, l, m, us', ws', hx', hl, dl, hm, dm⟩⟩⟩
theorem eb_make (ha : EvSq ta σ H (rs.map rwD)) (hb : ∀ H1, Ex H H1 → EvSq tb σ H1 (vs.map vwD)) (fit : Fit rs vs) : EvB C (tMake C (sp_init C) [] E (tCons ta (tCons tb tNil))) σ H (srtR rs) (srtV vs) := fun H1 e Q q =>
  ha H1 e _ fun a us H2 e2 h2 d2 => hb H2 (e.trans e2) H2 (Ex.refl _) _ fun b ws H3 e3 h3 d3 x dx hx hdx ne =>
    init_of hx hdx ne (h2.mono e3) (d2.mono e3) h3 d3 fit fun p H' hp e' b => q p H' (fresh_back (e2.trans e3) hp) ((e2.trans e3).trans e') b
theorem eb_eq (h : EvB C te σ H rs vs) (e1 : rs = rs') (e2 : vs = vs') : EvB C te σ H rs' vs' := e1 ▸ e2 ▸ h
theorem eb_mono {H' : Hp} (h : EvB C te σ H rs vs) (e : Ex H H') : EvB C te σ H' rs vs := fun H1 e1 Q q => h H1 (e.trans e1) Q q
theorem s_rb {D : Ends} (h : EvB C te σ H rs vs) (k : RetB C rs vs H D.rt) : tRet te D σ H := h H (Ex.refl H) _ k
theorem RetB.on {Q : VK} {H H' : Hp} (k : RetB C rs vs H Q) (e : Ex H H') : RetB C rs vs H' Q := fun p H2 hp e2 b => k p H2 (fresh_back e hp) (e.trans e2) b
theorem esl_one {v : V} {d : PyData} (h : Ev te σ H v) (hd : Dq H v d) : EvSl (tLst (tCons te tNil)) σ H [d] := fun H1 e Q q =>
  h H1 e _ fun H2 e2 => ⟨sz_of (show 1 ≤ 100000 by decide), fun a ha => q a [v] _ (e2.trans (Ex.new ha)) upd_same (.cons (hd.mono ((e.trans e2).trans (Ex.new ha))) .nil)⟩
/-- book.log, book.promises: read from without -/
theorem lq_pr {ts : TE} {sp : Sp} {ds : List PyData} {q : Addr} {rs : List Rw} {vs : List Vow} (h : Ev ts σ H (.ref q)) (b : BkAt H C q rs vs) (hs : SpQs sp ([.ref q] ++ []) H ds) : EvLq (tProp C sp [] E ts) σ H ds := fun H1 e Q k =>
  h H1 e _ fun H2 e2 => by
    obtain ⟨dx, l, m, us, ws, h1, _⟩ := b.mono (e.trans e2)
    exact ⟨q, dx, _, rfl, h1, hs H2 (e.trans e2) _ (fun p xs H3 hp e3 h3 d3 => k p xs H3 (fresh_back e2 hp) (e2.trans e3) h3 d3) E⟩
end
end K32
end
section
set_option maxHeartbeats 4000000
namespace K32
open PySem L2 Evl G OW BK TD
section
variable {P : Program} {w : World} {K : PySem.W.Frag} {mg : Str → Option Value} {base : Heap} {C : Addr}
theorem ev_int1 {σ : L2.St} {H : Hp} {te : TE} {i : Int} (h : Ev te σ H (.int i)) : Ev (tCB (fun xs H Q => (∃ i, xs = [.int i] ∧ Q (.int i) H) ∨ ∃ k, xs = [.bl k] ∧ Q (.int (if k then 1 else 0)) H) (tCons te tNil)) σ H (.int i) := fun H1 e Q q => h H1 e _ fun H2 e2 => .inl ⟨i, rfl, q H2 e2⟩
theorem ok_pot {f : Addr} {fd : FuncData} (F : Fun K "_law_pot" "_law_pot" s__law_pot f fd) (T : Txt P w K mg C) : FnOk P w K mg base CX0 1 f fd ["_law_script", "_law_k"] (sp_pot K) := by
  refine F.ok sc__law_pot (fun vs H Q E h => ?_) (fun cdv A outer s H vs Q E hr h => ?_)
  · obtain ⟨s, ns, k, rfl, _⟩ := h
    rfl
  · obtain ⟨s, ns, k, rfl, hs, hk0, hk1, kq⟩ := h
    refine ⟨_, (pss_cons (ps_set (i := 2) sc__law_pot.nd rfl (Or.inl rfl) (pe_op op_add (pe_op op_mul pe_int (pv 1)) pe_int)) (pss_cons (ps_if (pt_cmpR op_lt (pv 1) (pe_callB (lenS (K := K) rfl) (by rfl) T.b_len (by decide +kernel) (pa_cons (pv 0) pa_nil)) (nomark _)) (pss_one (ps_set (i := 2) sc__law_pot.nd rfl (Or.inl rfl) (pe_callB call_abs (by rfl) T.b_abs (by decide +kernel) (pa_cons (pe_ix (ixL (K := K) rfl) (pv 0) (pv 1) (fun _ _ => rfl)) pa_nil)))) pss_nil) (pss_one (ps_ret (pe_lst (pa_cons (pe_callB (call_max2 rfl) (by rfl) T.b_max (by decide +kernel) (pa_cons pe_int (pa_cons (pe_op op_sub (pv 2) (pe_op op_pow pe_int pe_int)) pa_nil))) (pa_cons (pe_op op_add (pe_op op_modN (pe_callTy call_int1 (by rfl) T.b_int (by decide +kernel) (pa_cons (pe_op op_add (pe_op op_mul (pe_op op_modN (pe_callTy call_int1 (by rfl) T.b_int (by decide +kernel) (pa_cons (pv 2) pa_nil)) pe_int) (pe_op op_add (pe_op op_mul pe_int (pv 1)) pe_int)) pe_int) pa_nil)) pe_int) pe_int) pa_nil))))))), ?_⟩
    refine q_asg (v := .int (151 * k + 37)) (ev_op (ev_op ev_c (ev_var rfl) (rv_I (.inl ⟨by decide, by decide⟩))) ev_c rv_I0) fun H1 e1 => ?_
    have hcell : ∃ c : Int, 0 ≤ c ∧ ∀ (D : Ends) (tz : TS), (∀ H2, Ex H1 H2 → tz D [some (.ref s), some (.int k), some (.int c)] H2) → tSeq (tIfS (tTest (tOp (rI0 fun i j => .bl (decide (i < j))) (tVar 1) (tCB (fun xs H Q => ∃ p ys, xs = [.ref p] ∧ (SqL K H p ys ∨ SqT K H p ys) ∧ Q (.int (ys.length : Int)) H) (tCons (tVar 0) tNil))))
        (tAsg (tCB (fun xs H Q => ∃ i, xs = [.int i] ∧ Q (.int (if i < 0 then -i else i)) H) (tCons (tOp (rIxL K) (tVar 0) (tVar 1)) tNil)) (gName 2)) tNext) tz D [some (.ref s), some (.int k), some (.int (151 * k + 37))] H1 := by
      by_cases hlt : k < (ns.length : Int)
      · refine ⟨if ns.getD k.toNat 0 < 0 then - ns.getD k.toNat 0 else ns.getD k.toNat 0, by split <;> omega, fun D tz kz => ?_⟩
        exact q_ifAsg (b := true) (et_test (ev_op (ev_var rfl) (ev_cb (ea_cons (ev_var rfl) ea_nil) (rc_len (.inl (ex_l e1 hs)) (by rw [List.length_map]))) (rv_res rv_I0 (congrArg V.bl (decide_eq_true hlt))))) (fun _ => ev_cb (ea_cons (ev_op (ev_var rfl) (ev_var rfl) (rv_ixL (ex_l e1 hs) (atI_int hk0 hlt))) ea_nil) rc_abs) (fun q => nomatch q) kz
      · refine ⟨151 * k + 37, by omega, fun D tz kz => ?_⟩
        exact q_ifAsg (b := false) (et_test (ev_op (ev_var rfl) (ev_cb (ea_cons (ev_var rfl) ea_nil) (rc_len (.inl (ex_l e1 hs)) (by rw [List.length_map]))) (rv_res rv_I0 (congrArg V.bl (decide_eq_false hlt))))) (fun q => nomatch q) (fun _ => rfl) kz
    obtain ⟨c, hc, ec⟩ := hcell
    refine ec _ _ fun H2 e2 => ?_
    have m1 := fmod_pos (a := c) (show (0 : Int) < 2147483549 by decide)
    refine s_retL (el_lst (ea_cons (ev_cb (ea_cons ev_c (ea_cons (ev_op (ev_var rfl) (ev_op ev_c ev_c (rv_I ⟨by decide, by decide, by decide⟩)) rv_I0) ea_nil)) rc_max2) (ea_cons (ev_op (ev_op (ev_int1 (ev_op (ev_op (ev_op (ev_int1 (ev_var rfl)) ev_c (rv_I (by decide))) (ev_op (ev_op ev_c (ev_var rfl) (rv_I (.inl ⟨by decide, by decide⟩))) ev_c rv_I0) (rv_I (.inr ⟨by omega, by omega⟩))) ev_c rv_I0)) ev_c (rv_I (by decide))) ev_c rv_I0) ea_nil)) (by show 2 ≤ 100000; decide)) fun p H3 hp e3 h3 => ?_
    refine kq p H3 (fresh_back (e1.trans e2) hp) ((e1.trans e2).trans e3) ⟨_, _, ⟨?_, ?_, ?_⟩, h3⟩
    · split <;> omega
    · have := fmod_pos (a := c.fmod 2147483549 * (2 * k + 11) + 563) (show (0 : Int) < 2147483543 by decide)
      omega
    · have := fmod_pos (a := c.fmod 2147483549 * (2 * k + 11) + 563) (show (0 : Int) < 2147483543 by decide)
      omega
theorem ok_draw {f : Addr} {fd : FuncData} (F : Fun K "_law_draw" "_law_draw" s__law_draw f fd) (T : Txt P w K mg C) : FnOk P w K mg base CX0 1 f fd ["_law_pot_here", "_law_size"] sp_draw := by
  refine F.ok sc__law_draw (fun vs H Q E h => ?_) (fun cdv A outer s H vs Q E hr h => ?_)
  · obtain ⟨p, n, rfl, _⟩ := h
    rfl
  · obtain ⟨p, n, rfl, ⟨a, b, ⟨a0, b0, b1⟩, hp⟩, n0, n1, k⟩ := h
    have hq : SqL K H p [.int a, .int b] := sq_of hp
    refine ⟨_, (pss_cons (ps_if (pt_cmpR op_gt (pe_ix (ixL (K := K) rfl) (pv 0) pe_int (fun _ _ => rfl)) pe_int (nomark _)) (pss_cons (ps_asg (pe_callB call_divmod (by rfl) T.b_divmod (by decide +kernel) (pa_cons (pe_ix (ixL (K := K) rfl) (pv 0) pe_int (fun _ _ => rfl)) (pa_cons (pv 1) pa_nil))) (pg_tup (by rfl) (pgs_cons (pg_sub (pv 0) pe_int set_list) (pgs_cons (pg_name (i := 2) sc__law_draw.nd rfl (Or.inl rfl)) pgs_nil)))) (pss_one (ps_ret (pv 2)))) pss_nil) (pss_cons (ps_asg (pe_op op_modN (pe_callTy call_int1 (by rfl) T.b_int (by decide +kernel) (pa_cons (pe_op op_add (pe_op op_mul (pe_ix (ixL (K := K) rfl) (pv 0) pe_int (fun _ _ => rfl)) pe_int) pe_int) pa_nil)) pe_int) (pg_sub (pv 0) pe_int set_list)) (pss_one (ps_ret (pe_op op_modN (pe_callTy call_int1 (by rfl) T.b_int (by decide +kernel) (pa_cons (pe_op op_fdivN (pe_op op_modN (pe_callTy call_int1 (by rfl) T.b_int (by decide +kernel) (pa_cons (pe_op op_mul (pe_ix (ixL (K := K) rfl) (pv 0) pe_int (fun _ _ => rfl)) (pe_ix (ixL (K := K) rfl) (pv 0) pe_int (fun _ _ => rfl))) pa_nil)) pe_int) pe_int) pa_nil)) (pv 1)))))), ?_⟩
    refine q_when (et_test (ev_op (ev_op (ev_var rfl) ev_c (rv_ixL (v := .int a) hq rfl)) ev_c rv_I0)) (fun hb H1 e1 => ?_) (fun hb H1 e1 => ?_)
    · have ha : 0 < a := of_decide_eq_true hb
      refine q_asgG (eu_divmod (ev_op (ev_var rfl) ev_c (rv_ixL (v := .int a) (ex_l e1 hq) rfl)) (ev_var rfl) n0 n1) fun u H2 hu e2 h2 => ?_
      have e3 := e1.trans e2
      have hp2 := e3 p _ hp
      refine ⟨u, _, rfl, st_of h2, rfl, _, _, rfl, .ref p, rfl, ⟨p, [.int a, .int b], 0, 0, rfl, rfl, hp2, rfl, ?_⟩⟩
      refine ⟨_, _, rfl, rfl, ?_⟩
      refine s_ret (ev_var rfl) fun H3 e4 => ?_
      refine k _ H3 (Int.emod_nonneg _ (by omega)) (Int.emod_lt_of_pos _ n0) ((wo_mono e3).trans (wo_upd.trans e4)) ⟨a / n, b, ⟨Int.ediv_nonneg a0 (by omega), b0, b1⟩, e4 p _ upd_same⟩
    · have hq1 := ex_l e1 hq
      have m1 := fmod_pos (a := b * 48271 + 17401) (show (0 : Int) < 2147483587 by decide)
      refine q_setL (xs := [.int a, .int b]) (j := 1) (v := .int ((b * 48271 + 17401).fmod 2147483587)) (e1 p _ hp) (ev_op (ev_int1 (ev_op (ev_op (ev_op (ev_var rfl) ev_c (rv_ixL (v := .int b) hq1 rfl)) ev_c (rv_I (.inr ⟨by decide, by decide⟩))) ev_c rv_I0)) ev_c (rv_I (by decide))) (ev_var rfl) ev_c (by show 1 < 2; decide) fun H2 e2 => ?_
      generalize hb' : (b * 48271 + 17401).fmod 2147483587 = b' at m1 ⊢
      have hp3 : SqL K (upd H2 p (.lst ([.int a, .int b].set 1 (.int b')))) p [.int a, .int b'] := sq_of upd_same
      have m2 := fmod_pos (a := ((b' * b').fmod 2147483549).fdiv 13) n0
      refine s_ret (ev_op (ev_int1 (ev_op (ev_op (ev_int1 (ev_op (ev_op (ev_var rfl) ev_c (rv_ixL (v := .int b') hp3 rfl)) (ev_op (ev_var rfl) ev_c (rv_ixL (v := .int b') hp3 rfl)) (rv_I (.inl ⟨by omega, by omega⟩)))) ev_c (rv_I (by decide))) ev_c (rv_I ⟨by decide, by decide⟩))) (ev_var rfl) (rv_I (by omega))) fun H3 e3 => ?_
      exact k _ H3 m2.1 m2.2 ((wo_mono (e1.trans e2)).trans (wo_upd.trans e3)) ⟨a, b', ⟨a0, m1.1, by omega⟩, e3 p _ upd_same⟩
theorem ok_pick {f f1 : Addr} {fd fd1 : FuncData} (F : Fun K "_law_pick" "_law_pick" s__law_pick f fd) (T : Txt P w K mg C) (c__law_draw : Cal P w K mg base "_law_draw" f1 fd1 ["_law_pot_here", "_law_size"] 1 sp_draw) : FnOk P w K mg base CX0 2 f fd ["_law_pot_here", "_law_some"] (sp_pick K) := by
  refine F.ok sc__law_pick (fun vs H Q E h => ?_) (fun cdv A outer s H vs Q E hr h => ?_)
  · obtain ⟨p, s, xs, rfl, _⟩ := h
    rfl
  · obtain ⟨p, l, xs, rfl, hp, hs, h0, h1, k⟩ := h
    refine ⟨_, (pss_one (ps_ret (pe_ix (ixL (K := K) rfl) (pv 1) (pe_call c__law_draw.ok (hr.mono (by decide)) (by rfl) c__law_draw.mgx c__law_draw.kp c__law_draw.bd .nil pass0 (pa_cons (pv 0) (pa_cons (pe_callB (lenS (K := K) rfl) (by rfl) T.b_len (by decide +kernel) (pa_cons (pv 1) pa_nil)) pa_nil))) (fun _ _ => rfl)))), ?_⟩
    refine ⟨_, rfl, (ea_cons (ev_var rfl) (ea_cons (ev_cb (ea_cons (ev_var rfl) ea_nil) (rc_len (.inl (ex_l wo_ex hs)) rfl)) ea_nil)) H (Ex.refl H) _ fun H1 e1 => ?_⟩
    have hp1 : PotAt H1 p := by obtain ⟨a, b, h, q⟩ := hp; exact ⟨a, b, h, e1 p _ q⟩
    refine ⟨p, (xs.length : Int), rfl, hp1, by omega, by omega, fun d H2 d0 d1 e2 hp2 => ?_⟩
    obtain ⟨i, rfl⟩ : ∃ i : Nat, d = (i : Int) := ⟨d.toNat, by omega⟩
    have hi : i < xs.length := by omega
    have e3 : Ex (wo H p) H2 := (wo_mono e1).trans e2
    exact ⟨l, xs, (i : Int), xs[i], rfl, rfl, ex_l e3 hs, atI_nat (List.getElem?_eq_getElem hi), k i _ H2 (List.getElem?_eq_getElem hi) e3 hp2⟩
end
/-- draws one after another -/
theorem dr_k {σ : L2.St} {H : Hp} {i : Nat} {p : Addr} {n : Int} {E : XK} {Q : VK} (hp : PotAt H p) (hv : σ[i]? = some (some (.ref p))) (h0 : 0 < n) (h1 : n < 1073741824) (k : ∀ d H2, 0 ≤ d → d < n → Rg p H H2 → Q (.int d) H2) :
    tCall sp_draw [] E (tCons (tVar i) (tCons (tC (.int n)) tNil)) σ H Q := drawC hp hv ev_c h0 h1 fun d H2 d0 d1 e h => k d H2 d0 d1 ⟨e, h⟩
section
variable {P : Program} {w : World} {K : PySem.W.Frag} {mg : Str → Option Value} {base : Heap} {C : Addr}
theorem rg_fresh {H H1 : Hp} {p q : Addr} (hp : PotAt H p) (r : Rg p H H1) (h : H1 q = none) : H q = none := by
  cases e : H q with
  | none => rfl
  | some o =>
    by_cases z : q = p
    · obtain ⟨o', ho⟩ := r.hp.some
      rw [z, ho] at h; cases h
    · have := r.x q o (by rw [wo_ne z]; exact e)
      rw [this] at h; cases h
theorem rg_ne {H1 : Hp} {p q : Addr} (hp : PotAt H1 p) (h : H1 q = none) : q ≠ p := fun z => by
  obtain ⟨o', ho⟩ := hp.some
  rw [z, ho] at h; cases h
end
end K32
end
section
set_option maxHeartbeats 4000000
namespace K32
open PySem L2 Evl G OW BK TD
/-! ### the law's key, its lists without doubles, its sorted lists -/
def sp_once : Sp := fun as H Q _ => ∃ (α : Type) (_ : DecidableEq α) (enc : α → PyData) (ok : α → Prop) (_ : EncOk enc ok) (a : Addr) (us : List V) (xs : List α), as = [.ref a] ∧ H a = some (.lst us) ∧ DqAll H us (xs.map enc) ∧ (∀ x ∈ xs, ok x) ∧ xs.length ≤ 1000 ∧ RetLq ((once xs).map enc) H Q
theorem spq_once {α : Type} [DecidableEq α] {enc : α → PyData} {ok : α → Prop} (O : EncOk enc ok) {a : Addr} {us : List V} {xs : List α} {H : Hp} (h : H a = some (.lst us)) (d : DqAll H us (xs.map enc)) (hx : ∀ x ∈ xs, ok x) (hz : xs.length ≤ 1000) : SpQs sp_once ([.ref a] ++ []) H ((once xs).map enc) := fun H1 e Q q E => ⟨α, _, enc, ok, O, a, us, xs, rfl, e a _ h, d.mono e, hx, hz, q⟩
def sp_named : Sp := fun as H Q _ => ∃ (a b : Addr) (us ws : List V) (xs : List Rw) (ys : List Vow), as = [.ref a, .ref b] ∧ H a = some (.lst us) ∧ DqAll H us (xs.map rwD) ∧ H b = some (.lst ws) ∧ DqAll H ws (ys.map vwD) ∧ (∀ x ∈ xs, rwOk x) ∧ (∀ y ∈ ys, vwOk y) ∧ xs.length ≤ 100 ∧ ys.length ≤ 100 ∧ RetLq ((nrm (named xs ys)).map PyData.str) H Q
theorem spq_named {a b : Addr} {us ws : List V} {xs : List Rw} {ys : List Vow} {H : Hp} (h : H a = some (.lst us)) (d : DqAll H us (xs.map rwD)) (h' : H b = some (.lst ws)) (d' : DqAll H ws (ys.map vwD)) (hx : ∀ x ∈ xs, rwOk x) (hy : ∀ y ∈ ys, vwOk y) (hz : xs.length ≤ 100) (hz' : ys.length ≤ 100) : SpQs sp_named ([.ref a, .ref b] ++ []) H ((nrm (named xs ys)).map PyData.str) := fun H1 e Q q E => ⟨a, b, us, ws, xs, ys, rfl, e a _ h, d.mono e, e b _ h', d'.mono e, hx, hy, hz, hz', q⟩
theorem slK {X : Cx} {K : PySem.W.Frag} (hK : X.K = K) : SlR X (rSlL K) := hK ▸ sl_list
section
variable {P : Program} {w : World} {K : PySem.W.Frag} {mg : Str → Option Value} {base : Heap} {C : Addr} {σ : L2.St} {H : Hp} {te tl ta tb : TE} {tt : TT} {i j : Nat} {vs : List Nat} {ds es : List PyData}
theorem lq_if {b : Bool} {c : TT} (h : EvT c σ H b) (h1 : b = true → EvLq ta σ H ds) (h2 : b = false → EvLq tb σ H ds) : EvLq (tIf c ta tb) σ H ds := fun H1 e Q q => h H1 e _ fun H2 e2 => by
  cases b with
  | true => rw [if_pos rfl]; exact h1 rfl H2 (e.trans e2) Q fun p us H3 hp e3 h3 d3 => q p us H3 (fresh_back e2 hp) (e2.trans e3) h3 d3
  | false => rw [if_neg Bool.false_ne_true]; exact h2 rfl H2 (e.trans e2) Q fun p us H3 hp e3 h3 d3 => q p us H3 (fresh_back e2 hp) (e2.trans e3) h3 d3
/-- [x for n, x in enumerate(xs) if ..] -/
theorem lq_lcE {α : Type} {enc : α → PyData} (f : Nat → α → Bool) {a : Addr} {us : List V} {xs : List α} (h : Ev tl σ H (.ref a)) (ha : H a = some (.lst us)) (d : DqAll H us (xs.map enc)) (hz : xs.length ≤ 40000) (hw : ∀ x y, wipe (((wipe σ vs).set i (some x)).set j (some y)) vs = wipe σ vs)
    (hi : ∀ x y, (((wipe σ vs).set i (some x)).set j (some y))[i]? = some (some x)) (hj : ∀ x y, (((wipe σ vs).set i (some x)).set j (some y))[j]? = some (some y))
    (ht : ∀ (n : Nat) x u H1, Ex H H1 → xs[n]? = some x → Dq H1 u (enc x) → EvT tt (((wipe σ vs).set i (some (.int (n : Int)))).set j (some u)) H1 (f n x)) :
    EvLq (tLc (iEnum K (tCons tl tNil)) (gTup K 2 (gCons (gName i) (gCons (gName j) gNil))) tt (tVar j) vs) σ H (((xs.zipIdx.filter fun p => f p.2 p.1).map (·.1)).map enc) := fun H0 e Q q => h H0 e _ fun H1 e1 => by
  have hl : us.length = xs.length := by rw [d.len, List.length_map]
  have e01 := e.trans e1
  have hs1 : SqL K H1 a us := sq_of (e01 a _ ha)
  refine ⟨a, us, rfl, hs1, fun Dl hD => ?_⟩
  refine ⟨fun i0 m H' => m = us.length - i0 ∧ i0 ≤ us.length ∧ ∃ acc : List V, Ex H1 H' ∧ H' Dl = some (.lst acc) ∧ acc.length ≤ i0 ∧ DqAll H1 acc ((((xs.zipIdx.take i0).filter fun p => f p.2 p.1).map (·.1)).map enc), ⟨us.length, by simp, Nat.zero_le _, [], Ex.new hD, upd_same, Nat.le_refl _, by rw [List.take_zero]; exact .nil⟩, ?_⟩
  rintro i0 m H' ⟨rfl, hi0, acc, ex, hd, hn, hc⟩
  have hs2 : SqL K H' a us := sq_of (ex a _ (e01 a _ ha))
  by_cases hlt : i0 < us.length
  · refine .inr ⟨⟨us, us[i0], hs2, List.getElem?_eq_getElem hlt⟩, fun H'' => ∃ acc : List V, Ex H1 H'' ∧ H'' Dl = some (.lst acc) ∧ acc.length ≤ i0 + 1 ∧ DqAll H1 acc ((((xs.zipIdx.take (i0 + 1)).filter fun p => f p.2 p.1).map (·.1)).map enc), fun H'' p' => ⟨us.length - (i0 + 1), by omega, rfl, hlt, p'⟩, fun x0 H'' y => ?_⟩
    obtain ⟨T, u, rfl, hT, rfl, hx⟩ := y
    have hu := hx us hs2
    obtain ⟨dd, hdd, hq⟩ := d.get hu
    rw [List.getElem?_map] at hdd
    obtain ⟨x, hx0, rfl⟩ := Option.map_eq_some_iff.mp hdd
    have tk : (xs.zipIdx.take (i0 + 1)).filter (fun p => f p.2 p.1) = (xs.zipIdx.take i0).filter (fun p => f p.2 p.1) ++ [(x, i0)].filter (fun p => f p.2 p.1) := by
      rw [List.take_add_one, List.getElem?_zipIdx, hx0, List.filter_append]
      simp
    have eT : Ex H' (upd H' T (.tup [.int (i0 : Int), u])) := Ex.new hT
    refine ⟨T, [.int (i0 : Int), u], rfl, st_of upd_same, rfl, _, _, rfl, _, _, rfl, rfl, hw _ _, ?_⟩
    refine ht i0 x u _ ((e01.trans ex).trans eT) hx0 (hq.mono ((e01.trans ex).trans eT)) _ (Ex.refl _) _ fun H3 e3 => ?_
    have hd3 := e3 _ _ (eT _ _ hd)
    have x3 := (ex.trans eT).trans e3
    cases hf : f i0 x with
    | false =>
      rw [if_neg Bool.false_ne_true]
      refine ⟨acc, x3, hd3, Nat.le_succ_of_le hn, ?_⟩
      rw [tk, List.filter_cons, if_neg (by simp [hf]), List.filter_nil, List.append_nil]
      exact hc
    | true =>
      rw [if_pos rfl]
      refine ⟨u, hj _ _, acc, hd3, sz_lt (by omega), acc ++ [u], x3.mut hD, upd_same, by rw [List.length_append]; exact Nat.succ_le_succ hn, ?_⟩
      rw [tk, List.filter_cons, if_pos (by simp [hf]), List.filter_nil, List.map_append, List.map_append]
      exact hc.app (.cons (hq.mono e01) .nil)
  · refine .inl ⟨⟨us, hs2, by omega⟩, ?_⟩
    have tk : xs.zipIdx.take i0 = xs.zipIdx := List.take_of_length_le (by rw [List.length_zipIdx]; omega)
    rw [tk] at hc
    exact q Dl acc H' (fresh_back e1 hD) (e1.trans ex) hd (hc.mono ex)
theorem esl_take {a : Addr} {us : List V} {n : Nat} (h : Ev ta σ H (.ref a)) (hn : Ev tb σ H (.int (n : Int))) (ha : H a = some (.lst us)) (d : DqAll H us ds) (hl : n ≤ us.length) : EvSl (tSl (rSlL K) ta tNoPart (tPart tb)) σ H (ds.take n) := fun H1 e Q q =>
  el_sl h eo_none (eo_some hn) (sq_of (K := K) ha) H1 e _ fun p H2 hp e2 h2 => q p (us.take n) H2 e2 (by rw [h2, cut_take hl]) ((d.mono (e.trans e2)).take n)
theorem esl_drop {a : Addr} {us : List V} {n : Nat} (h : Ev ta σ H (.ref a)) (hn : Ev tb σ H (.int (n : Int))) (ha : H a = some (.lst us)) (d : DqAll H us ds) : EvSl (tSl (rSlL K) ta (tPart tb) tNoPart) σ H (ds.drop n) := fun H1 e Q q =>
  el_sl h (eo_some hn) eo_none (sq_of (K := K) ha) H1 e _ fun p H2 hp e2 h2 => q p (us.drop n) H2 e2 (by rw [h2, cut_drop]) ((d.mono (e.trans e2)).drop n)
theorem ok_once {f : Addr} {fd : FuncData} (F : Fun K "_law_once" "_law_once" s__law_once f fd) (T : Txt P w K mg C) : FnOk P w K mg base CX0 1 f fd ["_law_some"] sp_once := by
  refine F.ok sc__law_once (fun vs H Q E h => ?_) (fun cdv A outer s H vs Q E hr h => ?_)
  · obtain ⟨α, _, enc, ok, O, a, us, xs, rfl, _⟩ := h
    rfl
  · obtain ⟨α, _, enc, ok, O, a, us, xs, rfl, ha, d, hx, hz, k⟩ := h
    refine ⟨_, (pss_one (ps_ret (pe_lc (own := [("_law_at", 1), ("_law_one", 2)]) (g := (gTup K 2 (gCons (gName 1) (gCons (gName 2) gNil)))) (by rfl) sc__law_once.nd (pi_enum (by rfl) T.b_enumerate (pa_cons (pv 0) pa_nil)) (blkOk_by (own := [("_law_at", 1), ("_law_one", 2)]) (N := ["_law_some", "_law_at", "_law_one"]) (sc := defScope s__law_once) (by decide +kernel)) (fun _ _ _ _ _ => (pg_tup (by rfl) (pgs_cons (pg_name (i := 1) sc__law_once.nd rfl (Or.inl rfl)) (pgs_cons (pg_name (i := 2) sc__law_once.nd rfl (Or.inl rfl)) pgs_nil)))) (fun _ _ _ _ _ => (pts_one (pt_cmpR (niDK (K := K) rfl (u65 hr)) (pv 2) (pe_slice (slK (K := K) rfl) (pv 0) po_none (po_some (pv 1))) (by rfl)))) (fun _ _ _ _ _ => (pv 2))))), ?_⟩
    have hl : us.length = xs.length := by rw [d.len, List.length_map]
    refine s_rlq (lq_eq (lq_lcE (fun n x => !decide (x ∈ xs.take n)) (ev_var rfl) ha d (by omega) (fun _ _ => rfl) (fun _ _ => rfl) (fun _ _ => rfl) fun n x u H1 e1 hn hu => ?_) (by rw [show (List.filter (fun p : α × Nat => !decide (p.1 ∈ xs.take p.2)) xs.zipIdx).map (·.1) = once xs from firsts_eq xs])) k
    have hlt : n < xs.length := (List.getElem?_eq_some_iff.mp hn).1
    refine et_test (ev_niE O (ev_var rfl) hu (fun H2 e2 => esl_eq (esl_take (ev_var rfl) (ev_var rfl) ((e1.trans e2) a _ ha) (d.mono (e1.trans e2)) (by omega)) List.map_take.symm) (hx x (List.mem_of_getElem? hn)) fun y hy => hx y (List.mem_of_mem_take hy))
end
end K32
end
section
/-! steps to goals, breadth first: mathematics -/
namespace BK
section
variable {α : Type} [DecidableEq α]
/-- x comes to a goal by just n steps along E -/
def Rch (E : List (α × α)) (G : List α) : Nat → α → Prop
  | 0, x => x ∈ G
  | n + 1, x => ∃ y, (x, y) ∈ E ∧ Rch E G n y
/-- the queue, those taken out too: the goals, then what was added -/
def Tq (G : List α) (A : List (α × Nat)) : List (α × Nat) := G.map (fun x => (x, 0)) ++ A
structure Bfs (E : List (α × α)) (G : List α) (A : List (α × Nat)) (k : Nat) : Prop where
  nd : (A.map (·.1)).Nodup
  off : ∀ p ∈ A, p.1 ∉ G
  rch : ∀ p ∈ Tq G A, Rch E G p.2 p.1
  low : ∀ p ∈ Tq G A, ∀ m, Rch E G m p.1 → p.2 ≤ m
  up : (Tq G A).Pairwise fun a b => a.2 ≤ b.2
  near : ∀ h, (Tq G A)[k]? = some h → ∀ p ∈ Tq G A, p.2 ≤ h.2 + 1
  done : ∀ i, i < k → ∀ p, (Tq G A)[i]? = some p → ∀ x, (x, p.1) ∈ E → x ∈ (Tq G A).map (·.1)
variable {E : List (α × α)} {G : List α} {A : List (α × Nat)} {k : Nat}
theorem bfs_start : Bfs E G [] 0 where
  nd := .nil
  off := fun _ h => nomatch h
  rch := fun p hp => by
    rw [Tq, List.append_nil] at hp
    obtain ⟨x, hx, rfl⟩ := List.mem_map.mp hp
    exact hx
  low := fun p hp m _ => by
    rw [Tq, List.append_nil] at hp
    obtain ⟨x, hx, rfl⟩ := List.mem_map.mp hp
    exact Nat.zero_le _
  up := by
    rw [Tq, List.append_nil, List.pairwise_map]
    exact List.pairwise_of_forall fun _ _ => Nat.le_refl _
  near := fun h _ p hp => by
    rw [Tq, List.append_nil] at hp
    obtain ⟨x, hx, rfl⟩ := List.mem_map.mp hp
    exact Nat.zero_le _
  done := fun i hi => absurd hi (Nat.not_lt_zero _)
/-- what is nearer than the one at k has been taken out -/
theorem Bfs.before (B : Bfs E G A k) {g : α} {d : Nat} (hg : (Tq G A)[k]? = some (g, d)) : ∀ (m : Nat) (y : α), m < d → Rch E G m y → ∃ i v, i < k ∧ (Tq G A)[i]? = some (y, v) := by
  have place : ∀ (m : Nat) (y : α), m < d → Rch E G m y → y ∈ (Tq G A).map (·.1) → ∃ i v, i < k ∧ (Tq G A)[i]? = some (y, v) := fun m y hm hr hy => by
    obtain ⟨⟨y', v⟩, hp, rfl⟩ := List.mem_map.mp hy
    have lv := B.low _ hp m hr
    obtain ⟨i, hi, e⟩ := List.mem_iff_getElem.mp hp
    refine ⟨i, v, Classical.byContradiction fun z => ?_, by rw [List.getElem?_eq_getElem hi, e]⟩
    obtain ⟨hk, ek⟩ := List.getElem?_eq_some_iff.mp hg
    rcases Nat.lt_or_ge k i with q | q
    · have := List.pairwise_iff_getElem.mp B.up k i hk hi q
      rw [ek, e] at this
      have : d ≤ v := this
      omega
    · have : i = k := by omega
      subst this
      rw [ek] at e
      cases e
      omega
  intro m
  induction m with
  | zero => exact fun y hm hr => place 0 y hm hr (List.mem_map.mpr ⟨(y, 0), List.mem_append.mpr (.inl (List.mem_map.mpr ⟨y, hr, rfl⟩)), rfl⟩)
  | succ m ih =>
    intro y hm hr
    obtain ⟨z, hz, hrz⟩ := id hr
    obtain ⟨i, v, hi, e⟩ := ih z (by omega) hrz
    exact place (m + 1) y hm hr (B.done i hi _ e y hz)
theorem Bfs.add (B : Bfs E G A k) {g x : α} {d : Nat} (hg : (Tq G A)[k]? = some (g, d)) (he : (x, g) ∈ E) (hx : x ∉ (Tq G A).map (·.1)) : Bfs E G (A ++ [(x, d + 1)]) k := by
  have eT : Tq G (A ++ [(x, d + 1)]) = Tq G A ++ [(x, d + 1)] := by rw [Tq, Tq, List.append_assoc]
  have mg := List.mem_of_getElem? hg
  obtain ⟨hk, _⟩ := List.getElem?_eq_some_iff.mp hg
  have hg' : (Tq G A ++ [(x, d + 1)])[k]? = some (g, d) := by rw [List.getElem?_append_left hk]; exact hg
  have mem : ∀ p, p ∈ Tq G A ++ [(x, d + 1)] → p ∈ Tq G A ∨ p = (x, d + 1) := fun p hp => (List.mem_append.mp hp).imp id List.mem_singleton.mp
  refine ⟨?_, fun p hp => ?_, fun p hp => ?_, fun p hp m hr => ?_, ?_, fun h hh p hp => ?_, fun i hi p hp y hy => ?_⟩
  · rw [List.map_append, List.nodup_append]
    refine ⟨B.nd, by simp, fun a ha b hb e => ?_⟩
    have hb : b = x := by simpa using hb
    rw [hb] at e
    rw [e] at ha
    obtain ⟨q, hq, rfl⟩ := List.mem_map.mp ha
    exact hx (List.mem_map.mpr ⟨q, List.mem_append.mpr (.inr hq), rfl⟩)
  · rcases List.mem_append.mp hp with h | h
    · exact B.off p h
    · rw [List.mem_singleton.mp h]
      exact fun z => hx (List.mem_map.mpr ⟨(x, 0), List.mem_append.mpr (.inl (List.mem_map.mpr ⟨x, z, rfl⟩)), rfl⟩)
  · rw [eT] at hp
    rcases mem p hp with h | rfl
    · exact B.rch p h
    · exact ⟨g, he, B.rch _ mg⟩
  · rw [eT] at hp
    rcases mem p hp with h | rfl
    · exact B.low p h m hr
    · refine Classical.byContradiction fun z => ?_
      cases m with
      | zero => exact hx (List.mem_map.mpr ⟨(x, 0), List.mem_append.mpr (.inl (List.mem_map.mpr ⟨x, hr, rfl⟩)), rfl⟩)
      | succ m =>
        obtain ⟨y, hy, hry⟩ := hr
        have hm : m < d := by
          have : ¬ d + 1 ≤ m + 1 := z
          omega
        obtain ⟨i, v, hi, e⟩ := B.before hg m y hm hry
        exact hx (B.done i hi _ e x hy)
  · rw [eT, List.pairwise_append]
    refine ⟨B.up, List.pairwise_singleton _ _, fun a ha b hb => ?_⟩
    rw [List.mem_singleton.mp hb]
    exact B.near _ hg a ha
  · rw [eT] at hh hp
    rw [hg'] at hh
    cases hh
    rcases mem p hp with h | rfl
    · exact B.near _ hg p h
    · exact Nat.le_refl _
  · rw [eT] at hp ⊢
    rw [List.getElem?_append_left (by omega)] at hp
    rw [List.map_append]
    exact List.mem_append.mpr (.inl (B.done i hi p hp y hy))
theorem Bfs.next (B : Bfs E G A k) {g : α} {d : Nat} (hg : (Tq G A)[k]? = some (g, d)) (all : ∀ x, (x, g) ∈ E → x ∈ (Tq G A).map (·.1)) : Bfs E G A (k + 1) := by
  refine ⟨B.nd, B.off, B.rch, B.low, B.up, fun h hh p hp => ?_, fun i hi p hp x hx => ?_⟩
  · have h1 := B.near _ hg p hp
    obtain ⟨hk, ek⟩ := List.getElem?_eq_some_iff.mp hg
    obtain ⟨hk', ek'⟩ := List.getElem?_eq_some_iff.mp hh
    have := List.pairwise_iff_getElem.mp B.up k (k + 1) hk hk' (Nat.lt_succ_self _)
    rw [ek, ek'] at this
    have : d ≤ h.2 := this
    have : p.2 ≤ d + 1 := h1
    omega
  · rcases Nat.lt_or_ge i k with q | q
    · exact B.done i q p hp x hx
    · have : i = k := by omega
      subst this
      rw [hg] at hp
      cases hp
      exact all x hx
/-- all that comes to a goal is there when the queue is empty -/
theorem Bfs.full (B : Bfs E G A k) (hk : (Tq G A).length ≤ k) : ∀ (m : Nat) (x : α), Rch E G m x → x ∈ (Tq G A).map (·.1)
  | 0, x, h => List.mem_map.mpr ⟨(x, 0), List.mem_append.mpr (.inl (List.mem_map.mpr ⟨x, h, rfl⟩)), rfl⟩
  | m + 1, x, h => by
    obtain ⟨y, hy, hr⟩ := h
    obtain ⟨p, hp, rfl⟩ := List.mem_map.mp (B.full hk m y hr)
    obtain ⟨i, hi, e⟩ := List.mem_iff_getElem.mp hp
    exact B.done i (by omega) p (by rw [List.getElem?_eq_getElem hi, e]) x hy
end
end BK
end
section
set_option maxHeartbeats 4000000
namespace K32
open PySem L2 Evl G OW BK TD
/-! ### pairs of rules, steps to goals -/
abbrev Ed := Str × Str
def edD (p : Ed) : PyData := .tuple [.str p.1, .str p.2]
def edV (p : Ed) : List V := [.str p.1, .str p.2]
def edOf : Vow → Option Ed
  | .quick a b => some (a, b)
  | .lead .. => none
def eds (vs : List Vow) : List Ed := vs.filterMap edOf
def isQ' : Vow → Bool
  | .quick .. => true
  | .lead .. => false
def edX (v : Vow) : Ed := (edOf v).getD ("", "")
theorem eds_eq : ∀ vs : List Vow, ((vs.filter isQ').map fun v => edD (edX v)) = (eds vs).map edD
  | [] => rfl
  | .quick a b :: vs => by
    rw [List.filter_cons, if_pos (show isQ' (.quick a b) = true from rfl), List.map_cons, eds_eq vs]
    rfl
  | .lead r lo hi :: vs => by
    rw [List.filter_cons, if_neg (show ¬isQ' (.lead r lo hi) = true from Bool.false_ne_true), eds_eq vs]
    rfl
theorem ed_of {H : Hp} {v : V} {p : Ed} (h : Dq H v (edD p)) : ∃ a, v = .ref a ∧ H a = some (.tup (edV p)) := by
  cases h with
  | tup ha k =>
    cases k with
    | cons h1 k => cases k with
      | cons h2 k => cases k; cases h1; cases h2; exact ⟨_, rfl, ha⟩
def sp_quick (C : Addr) : Sp := fun as H Q _ => ∃ (p : Addr) (rs : List Rw) (vs : List Vow), as = [.ref p] ∧ BkAt H C p rs vs ∧ vs.length ≤ 100 ∧ RetLq ((eds vs).map edD) H Q
theorem spq_quick {C p : Addr} {rs : List Rw} {vs : List Vow} {H : Hp} (h : BkAt H C p rs vs) (hz : vs.length ≤ 100) : SpQs (sp_quick C) ([.ref p] ++ []) H ((eds vs).map edD) := fun H1 e Q q E => ⟨p, rs, vs, rfl, h.mono e, hz, q⟩
def isL : Vow → Bool := fun v => !isQ' v
def sp_leads (C : Addr) : Sp := fun as H Q _ => ∃ (p : Addr) (rs : List Rw) (vs : List Vow), as = [.ref p] ∧ BkAt H C p rs vs ∧ vs.length ≤ 100 ∧ RetLq ((vs.filter isL).map vwD) H Q
theorem spq_leads {C p : Addr} {rs : List Rw} {vs : List Vow} {H : Hp} (h : BkAt H C p rs vs) (hz : vs.length ≤ 100) : SpQs (sp_leads C) ([.ref p] ++ []) H ((vs.filter isL).map vwD) := fun H1 e Q q E => ⟨p, rs, vs, rfl, h.mono e, hz, q⟩
abbrev Dkl := List (Str × Nat)
def dkv (L : Dkl) : List (Key × V) := L.map fun p => (Sum.inr p.1, V.int (p.2 : Int))
/-- the steps: the goals once each, then what was added -/
def Tk (G : List Str) (A : Dkl) : Dkl := (once G).map (fun x => (x, 0)) ++ A
theorem dkv_none {x : Str} : ∀ {L : Dkl}, x ∉ L.map (·.1) → valV (dkv L) (Sum.inr x) = none
  | [], _ => rfl
  | p :: L, h => by
    rw [List.map_cons, List.mem_cons, not_or] at h
    show valV ((Sum.inr p.1, V.int (p.2 : Int)) :: dkv L) (Sum.inr x) = none
    rw [valV_neg (by simpa using Ne.symm h.1)]
    exact dkv_none h.2
theorem dkv_some {x : Str} {n : Nat} : ∀ {L : Dkl}, (L.map (·.1)).Nodup → (x, n) ∈ L → valV (dkv L) (Sum.inr x) = some (.int (n : Int))
  | p :: L, nd, h => by
    rw [List.map_cons, List.nodup_cons] at nd
    show valV ((Sum.inr p.1, V.int (p.2 : Int)) :: dkv L) (Sum.inr x) = some _
    rcases List.mem_cons.mp h with rfl | h
    · exact valV_pos rfl
    · rw [valV_neg (fun e => nd.1 (by
        have e : p.1 = x := by simpa using e
        rw [e]; exact List.mem_map.mpr ⟨(x, n), h, rfl⟩))]
      exact dkv_some nd.2 h
theorem tk_keys {G : List Str} {A : Dkl} {x : Str} : x ∈ (Tk G A).map (·.1) ↔ x ∈ (Tq G A).map (·.1) := by
  unfold Tk Tq
  simp only [List.map_append, List.mem_append, List.map_map]
  refine or_congr ?_ Iff.rfl
  simp [Function.comp_def, mem_once']
theorem tk_mem {G : List Str} {A : Dkl} {p : Str × Nat} : p ∈ Tk G A ↔ p ∈ Tq G A := by
  unfold Tk Tq
  rw [List.mem_append, List.mem_append]
  refine or_congr ?_ Iff.rfl
  simp [mem_once']
theorem tk_nodup {E : List Ed} {G : List Str} {A : Dkl} {k : Nat} (B : Bfs E G A k) : ((Tk G A).map (·.1)).Nodup := by
  unfold Tk
  rw [List.map_append, List.map_map]
  have e : ((fun x : Str × Nat => x.1) ∘ fun x : Str => (x, 0)) = id := rfl
  rw [e, List.map_id, List.nodup_append]
  refine ⟨once_nodup G, B.nd, fun a ha b hb z => ?_⟩
  obtain ⟨p, hp, rfl⟩ := List.mem_map.mp hb
  exact B.off p hp (mem_once'.mp (z ▸ ha))
theorem put_zero {G : List Str} {z : Str} : ∀ {M : List Str}, putK (dkv (M.map fun x => (x, 0))) (Sum.inr z) (.int 0) = dkv ((if z ∈ M then M else M ++ [z]).map fun x => (x, 0)) := by
  intro M
  by_cases h : z ∈ M
  · rw [if_pos h]
    unfold putK
    have hany : ((dkv (M.map fun x => (x, 0))).any fun kv => decide (kv.1 = Sum.inr z)) = true := List.any_eq_true.mpr ⟨((Sum.inr z : Key), V.int ((0 : Nat) : Int)), List.mem_map.mpr ⟨(z, 0), List.mem_map.mpr ⟨z, h, rfl⟩, rfl⟩, by simp⟩
    rw [if_pos hany]
    unfold dkv
    rw [List.map_map, List.map_map, List.map_map]
    refine List.map_congr_left fun x _ => ?_
    show (if (Sum.inr x : Key) = Sum.inr z then (Sum.inr x, V.int 0) else (Sum.inr x, V.int ((0 : Nat) : Int))) = _
    split <;> rfl
  · rw [if_neg h, putK_new _ (dkv_none (by simpa [Function.comp_def] using h))]
    unfold dkv
    rw [List.map_append, List.map_append]
    rfl
theorem once_snoc (xs : List Str) (z : Str) : once (xs ++ [z]) = if z ∈ once xs then once xs else once xs ++ [z] := by
  rw [once_app]
  by_cases h : z ∈ xs
  · rw [if_pos (mem_once'.mpr h)]
    simp [once, h]
  · rw [if_neg (fun q => h (mem_once'.mp q))]
    simp [once, h]
section
variable {P : Program} {w : World} {K : PySem.W.Frag} {mg : Str → Option Value} {base : Heap} {C : Addr} {σ : L2.St} {H : Hp} {te tl ta tb : TE} {tt : TT} {i j : Nat} {vs : List Nat}
theorem ok_quick {f gp qp : Addr} {fd fp : FuncData} (F : Fun K "_quick" "_quick" s__quick f fd) (T : Txt P w K mg C) (m_promises : Prp P w K mg base C "promises" qp gp fp ["self"] 1 (sp_promises C)) : FnOk P w K mg base CX0 3 f fd ["book"] (sp_quick C) := by
  refine F.ok sc__quick (fun vs H Q E h => ?_) (fun cdv A outer s H vs Q E hr h => ?_)
  · obtain ⟨p, rs, vs, rfl, _⟩ := h
    rfl
  · obtain ⟨p, rs, vs, rfl, b, few, k⟩ := h
    refine ⟨_, (pss_one (ps_ret (pe_lc (own := [("promise", 1)]) (g := (gName 1)) (by rfl) sc__quick.nd (piL (K := K) rfl (pe_prop (pv 0) T.cl m_promises.pr m_promises.ok (hr.mono (by decide)) m_promises.bd .nil pass0 (by rfl))) (blkOk_by (own := [("promise", 1)]) (N := ["book", "promise"]) (sc := defScope s__quick) (by decide +kernel)) (fun _ _ _ _ _ => (pg_name (i := 1) sc__quick.nd rfl (Or.inl rfl))) (fun _ _ _ _ _ => (pts_one (pt_cmpR op_eq (pe_ix (ixT (K := K) rfl) (pv 1) pe_int (fun _ _ => rfl)) pe_str (nomark _)))) (fun _ _ _ _ _ => (pe_slice (slA (K := K) rfl) (pv 1) (po_some pe_int) po_none))))), ?_⟩
    refine s_rlq (lq_eq (lq_lc vwD (fun v => edD (edX v)) isQ' (esl_lq (lq_pr (ev_var rfl) b (spq_promises b))) (by omega) (fun _ => rfl) (fun _ _ => rfl) (fun v u H2 e2 _ d => et_is (et_test (ev_op (ev_vw0 (ev_var rfl) d) ev_c (rv_eq rfl))) (by cases v <;> rfl)) (fun v u H2 e2 _ d hf => ?_)) (eds_eq vs)) k
    cases v with
    | quick x y =>
      obtain ⟨a, rfl, ha⟩ := vw_of d
      exact fun H3 e3 Q q => (eu_drop (K := K) (k := 0) (ev_var rfl) ev_c (e3 a _ ha) (by show 0 < 3; decide)) H3 (Ex.refl _) _ fun b H4 _ e4 h4 => q _ H4 e4 (.tup h4 (.cons (.str _) (.cons (.str _) .nil)))
    | lead r lo hi => cases hf
theorem ok_leads {f gp qp : Addr} {fd fp : FuncData} (F : Fun K "_leads" "_leads" s__leads f fd) (T : Txt P w K mg C) (m_promises : Prp P w K mg base C "promises" qp gp fp ["self"] 1 (sp_promises C)) : FnOk P w K mg base CX0 3 f fd ["book"] (sp_leads C) := by
  refine F.ok sc__leads (fun vs H Q E h => ?_) (fun cdv A outer s H vs Q E hr h => ?_)
  · obtain ⟨p, rs, vs, rfl, _⟩ := h
    rfl
  · obtain ⟨p, rs, vs, rfl, b, few, k⟩ := h
    refine ⟨_, (pss_one (ps_ret (pe_lc (own := [("promise", 1)]) (g := (gName 1)) (by rfl) sc__leads.nd (piL (K := K) rfl (pe_prop (pv 0) T.cl m_promises.pr m_promises.ok (hr.mono (by decide)) m_promises.bd .nil pass0 (by rfl))) (blkOk_by (own := [("promise", 1)]) (N := ["book", "promise"]) (sc := defScope s__leads) (by decide +kernel)) (fun _ _ _ _ _ => (pg_name (i := 1) sc__leads.nd rfl (Or.inl rfl))) (fun _ _ _ _ _ => (pts_one (pt_cmpR op_eq (pe_ix (ixT (K := K) rfl) (pv 1) pe_int (fun _ _ => rfl)) pe_str (nomark _)))) (fun _ _ _ _ _ => (pv 1))))), ?_⟩
    exact s_rlq (lq_lc vwD vwD isL (esl_lq (lq_pr (ev_var rfl) b (spq_promises b))) (by omega) (fun _ => rfl) (fun v _ => vw_flat v) (fun v u H2 e2 _ d => et_is (et_test (ev_op (ev_vw0 (ev_var rfl) d) ev_c (rv_eq rfl))) (by cases v <;> rfl)) (fun v u H2 e2 _ d hf => eq_of (ev_var rfl) fun H3 e3 => d.mono e3)) k
/-- {x: 0 for x in goals} -/
theorem dc_zero {g : Addr} {G : List Str} {Q : VK} (h : Ev tl σ H (.ref g)) (hg : H g = some (.lst (G.map V.str))) (few : G.length ≤ 1000) (hw : ∀ x, wipe ((wipe σ vs).set j (some x)) vs = wipe σ vs) (hj : ∀ x, ((wipe σ vs).set j (some x))[j]? = some (some x))
    (k : ∀ D H2, H D = none → Ex H H2 → H2 D = some (.dK (dkv (Tk G []))) → Q (.ref D) H2) : tDc (iList K tl) (gName j) tYes (tVar j) (tC (.int 0)) vs σ H Q := h H (Ex.refl H) _ fun H1 e1 => by
  have hs := e1 g _ hg
  refine ⟨g, rfl, ⟨_, sq_of hs⟩, fun D hD => ⟨fun i m H' => m = G.length - i ∧ i ≤ G.length ∧ Ex H1 H' ∧ H' D = some (.dK (dkv ((once (G.take i)).map fun x => (x, 0)))), ⟨G.length, by simp, Nat.zero_le _, Ex.new hD, by rw [List.take_zero]; exact upd_same⟩, ?_⟩⟩
  rintro i m H' ⟨rfl, hi, ex, hd⟩
  by_cases hlt : i < G.length
  · refine .inr ⟨⟨G.map V.str, V.str G[i], sq_of (ex g _ hs), by rw [List.getElem?_map, List.getElem?_eq_getElem hlt]; rfl⟩, fun H'' => Ex H1 H'' ∧ H'' D = some (.dK (dkv ((once (G.take (i + 1))).map fun x => (x, 0)))), fun H'' p' => ⟨G.length - (i + 1), by omega, rfl, hlt, p'⟩, fun x H'' y => ?_⟩
    obtain ⟨rfl, hx⟩ := y
    have hx0 := hx _ (sq_of (ex g _ hs))
    rw [List.getElem?_map, List.getElem?_eq_getElem hlt] at hx0
    cases hx0
    refine ⟨hw _, lc_yes H'' (Ex.refl _) _ fun H3 e3 => ?_⟩
    rw [if_pos rfl]
    have len : (dkv ((once (G.take i)).map fun x => (x, 0))).length ≤ 1000 := by
      unfold dkv
      rw [List.length_map, List.length_map]
      have := once_len (G.take i)
      rw [List.length_take] at this
      omega
    refine ⟨_, hj _, _, Sum.inr G[i], rfl, e3 _ _ hd, sz_lt (by omega), (ex.trans e3).mut hD, ?_⟩
    rw [upd_same, put_zero (G := G), List.take_add_one, List.getElem?_eq_getElem hlt]
    show _ = some (HO.dK (dkv ((once (G.take i ++ [G[i]])).map fun x => (x, 0))))
    rw [once_snoc]
  · refine .inl ⟨⟨_, sq_of (ex g _ hs), by rw [List.length_map]; omega⟩, ?_⟩
    have : i = G.length := by omega
    subst this
    rw [List.take_length] at hd
    exact k D H' (fresh_back e1 hD) (e1.trans ex) (by unfold Tk; rw [List.append_nil]; exact hd)
end
end K32
end
section
set_option maxHeartbeats 2000000
/-! a local name = {k: v for ..} -/
namespace BK
open PySem PySem.Spec PyProof.Rows L2
theorem sw_dc {a b : Expr} {gs : List Comprehension} {sc : Scope} {p q : Pos} {y : Str} {l : Nat} {env : Env} (fk : env.scope.kind = .function) (ly : env.scope.names.lookup y = some .local) (sl : (q.line == p.line) = true) (no : (sc.names.any fun (n, k) => n == y && (k == .local || k == .cell)) = false) :
    swapsWith (.DictComp a b gs sc p) (some (.Name y q)) l env = pure true := by
  have e1 : env.kindOf y = some .local := ly
  have e2 : env.blockKind = .function := (show env.blockKind = _ by unfold Env.blockKind; rw [fk] <;> rfl)
  unfold swapsWith; simp only [e2, e1, no, Expr.pos, sl] <;> rfl
section
variable {X : Cx} {i : Nat} {y : Str} {py pos spos : Pos} {kx vx tg iter : Expr} {ifs : List Expr} {scope : Scope} {own : List (Str × Nat)} {wi : TI} {g : TG} {tt : TT} {tk tv : TE}
abbrev InBlk (X : Cx) (scope : Scope) (p : Cx → Prop) : Prop := ∀ (s : Shared) (H : Hp) (C : Addr) (cl : List (Str × Addr)) (fp : List Addr), p (X.blk s H scope (compEnvC scope cl C X.env) fp)
theorem ps_setDc (hc : X.calm = true) (hN : X.N.Nodup) (hy : X.N[i]? = some y) (ly : X.env.scope.names.lookup y = some .local) (sw : swapsWith (.DictComp kx vx [⟨tg, iter, ifs, 0⟩] scope pos) (some (.Name y py)) spos.line X.env = pure true) (hi : PI X tg iter wi) (ok : BlkOk X.N X.env.scope scope own)
    (hg : InBlk X scope fun Z => PG Z tg g) (ht : InBlk X scope fun Z => PTs Z ifs tt) (hk : InBlk X scope fun Z => PE Z kx tk) (he : InBlk X scope fun Z => PE Z vx tv) (hs : ∀ x, foldedSetIterable iter X.env x = pure x := by intro _; rfl) :
    PS X (.Assign [.Name y py] (.DictComp kx vx [⟨tg, iter, ifs, 0⟩] scope pos) spos) (tAsg (tDc wi g tt tk tv (own.map (·.2))) (gName i)) := ⟨fun pins s σ H D I h => by
  rw [exec_Assign_Name_used _ _ _ _ sw]
  have h' : tDc wi g tt tk tv (own.map (·.2)) σ H (fun x H1 => gName i x σ H1 D.nx) := h
  refine wpAny_bind (wpAny_standAt (wpAny_bind (show wpAny _ X.A (do let _ ← comprehension (.DictComp kx vx [⟨tg, iter, ifs, 0⟩] scope pos) scope X.env (firstIterPos [⟨tg, iter, ifs, 0⟩] pos) newDict false (eval iter X.env) (some (assign (.Name y py) X.env))) _ _ s from
    wpAny_bind (thn (dc_core (Qf := fun _ s' => SP X pins D .next s') hc hN I hi ok hg ht hk he hs h' fun M C s' m H' J q hn f => ?_) fun _ s' hq => wpAny_pure (wpAny_pure hq)))))
  show wpAny _ _ (assign (.Name y py) X.env (Value.ref M)) _ _ _
  obtain ⟨f0, f1, _, f3, f4, f5⟩ := f
  refine wpAny_assign_Name (store_ok2 (v := V.ref M) J hN hy (.inl ly) rfl (fun s2 J2 st => ?_) (.inr ly))
  obtain ⟨a, sb, ha⟩ := st
  exact ⟨m, hn.sameBut sb (ha.elim (fun z => by rw [z]; exact f1) fun z e => f4 y a z e.symm), fun h3 sb3 => ⟨_, H', J2.turned (t' := s2.toks) (fun b o hb e => (sb3.2 b hb).trans e) f0 f1 f3 f4 f5, q⟩⟩⟩
end
end BK
end
section
set_option maxHeartbeats 8000000
namespace K32
open PySem L2 Evl G OW BK TD
section
variable {X : Cx} {o i value : Expr} {pos pos' : Pos} {td ty tv : TE}
theorem ps_dputR (hu : X.A.units + 64 < cLine) (ho : PE X o td) (hi : PE X i ty) (hv : PE X value tv) (hs : swapsWith value (some (.Subscript o i pos')) pos.line X.env = pure false) : PS X (.Assign [.Subscript o i pos'] value pos) (sDPut td ty tv) := ps_dput (by omega) ho hi hv hs
end
theorem seqIndex_0 {n : Nat} (h : 0 < n) : seqIndex? (0 : Int) n = some 0 := by
  unfold seqIndex?
  have h1 : ¬ ((0 : Int) < 0) := by omega
  simp only [h1, if_false]
  rw [if_pos (by simp; omega)]
  simp
section
variable {P : Program} {w : World} {K : PySem.W.Frag} {mg : Str → Option Value} {base : Heap} {C : Addr} {σ : L2.St} {H : Hp} {te tl ta tb : TE} {tt : TT} {i j : Nat} {vs : List Nat} {D : Ends} {tz tu : TS} {g : TG}
theorem et_fullV {l : Addr} {xs : List V} (h : σ[i]? = some (some (.ref l))) (hl : H l = some (.lst xs)) : EvT (fun σ H Q => tVar i σ H fun x H' => ∃ k, TruV K x H' k ∧ Q k H') σ H (!xs.isEmpty) := fun H1 e Q q => (ev_var h) H1 e _ fun H2 e2 => ⟨!xs.isEmpty, Or.inl ⟨xs, sq_of ((e.trans e2) l _ hl), rfl⟩, q H2 e2⟩
theorem s_forP {a : Addr} {us : List V} (h : Ev tl σ H (.ref a)) (ha : H a = some (.lst us)) (Pv : Nat → L2.St → Hp → Prop) (h0 : ∀ H1, Ex H H1 → Pv 0 σ H1) (hl : ∀ i σ' H', Pv i σ' H' → H' a = some (.lst us))
    (hs : ∀ (i : Nat) u σ' H', us[i]? = some u → Pv i σ' H' → g u σ' H' fun σ2 H2 => tu { D with nx := Pv (i + 1), ct := Pv (i + 1), bk := D.nx } σ2 H2) (hd : ∀ σ' H', Pv us.length σ' H' → D.nx σ' H') : tFor (iList K tl) g tu D σ H :=
  h H (Ex.refl H) _ fun H1 e1 => ⟨a, rfl, ⟨us, sq_of (e1 a _ ha)⟩, fun i m σ' H' => i ≤ us.length ∧ m = us.length - i ∧ Pv i σ' H', ⟨_, Nat.zero_le _, rfl, h0 H1 e1⟩, fun i m σ' H' ⟨hi, hm, pv⟩ => by
    have hs2 := sq_of (K := K) (hl i σ' H' pv)
    by_cases hlt : i < us.length
    · refine .inr ⟨⟨us, us[i], hs2, List.getElem?_eq_getElem hlt⟩, fun σ2 H2 => Pv (i + 1) σ2 H2, fun σ2 H2 p => ⟨us.length - (i + 1), by omega, hlt, rfl, p⟩, fun x H2 y => ?_⟩
      obtain ⟨rfl, hx⟩ := y
      exact hs i x σ' _ (hx us hs2) pv
    · have : i = us.length := by omega
      subst this
      exact .inl ⟨⟨us, hs2, Nat.le_refl _⟩, hd σ' H' pv⟩⟩
end
/-- the steps of all that comes to a goal -/
structure Stp (E : List Ed) (G : List Str) (A : Dkl) : Prop where
  b : ∃ k, Bfs E G A k ∧ (Tq G A).length ≤ k
  r : ∀ p ∈ A, p.1 ∈ ruleL
def RetS (E : List Ed) (G : List Str) (H : Hp) (Q : VK) : Prop := ∀ D A H2, H D = none → Ex H H2 → H2 D = some (.dK (dkv (Tk G A))) → Stp E G A → Q (.ref D) H2
def sp_steps : Sp := fun as H Q _ => ∃ (g e : Addr) (us : List V) (G : List Str) (E : List Ed), as = [.ref g, .ref e] ∧ H g = some (.lst (G.map V.str)) ∧ H e = some (.lst us) ∧ DqAll H us (E.map edD) ∧ (∀ p ∈ E, p.1 ∈ ruleL) ∧ G.length ≤ 100 ∧ E.length ≤ 100 ∧ RetS E G H Q
theorem few_rules {A : Dkl} (nd : (A.map (·.1)).Nodup) (h : ∀ p ∈ A, p.1 ∈ ruleL) : A.length ≤ 8 := by
  have : (A.map (·.1)).length ≤ ruleL.length := sub_len nd fun x hx => by
    obtain ⟨p, hp, rfl⟩ := List.mem_map.mp hx
    exact h p hp
  rw [List.length_map, show ruleL.length = 8 by decide +kernel] at this
  exact this
section
variable {P : Program} {w : World} {K : PySem.W.Frag} {mg : Str → Option Value} {base : Heap} {C : Addr}
theorem ok_steps_to {f : Addr} {fd : FuncData} (F : Fun K "_steps_to" "_steps_to" s__steps_to f fd) (T : Txt P w K mg C) : FnOk P w K mg base CX0 1 f fd ["goals", "quick"] sp_steps := by
  refine F.ok sc__steps_to (fun vs H Q E h => ?_) (fun cdv A outer s H vs Q E hr h => ?_)
  · obtain ⟨g, e, us, G, E, rfl, _⟩ := h
    rfl
  · obtain ⟨g, e, us, G, E, rfl, hg, he, dE, rE, lG, lE, k⟩ := h
    have hu := hr.units
    refine ⟨_, (pss_cons (BK.ps_setDc (i := 2) (own := [("rule", 5)]) (g := (gName 5)) (by rfl) sc__steps_to.nd rfl rfl (BK.sw_dc rfl rfl rfl (by decide +kernel)) (piL (K := K) rfl (pv 0)) (blkOk_by (own := [("rule", 5)]) (N := ["goals", "quick", "steps", "reached", "goal", "rule", "other"]) (sc := defScope s__steps_to) (by decide +kernel)) (fun _ _ _ _ _ => (pg_name (i := 5) sc__steps_to.nd rfl (Or.inl rfl))) (fun _ _ _ _ _ => pts_nil) (fun _ _ _ _ _ => (pv 5)) (fun _ _ _ _ _ => pe_int)) (pss_cons (ps_set (i := 3) sc__steps_to.nd rfl (Or.inl rfl) (pe_callTy call_list_of (by rfl) T.b_list (by decide +kernel) (pa_cons (pv 0) pa_nil))) (pss_cons (ps_while PassesOwn.never (pt_truth (pv 3) (fun _ => rfl)) (pss_cons (ps_set (i := 4) sc__steps_to.nd rfl (Or.inl rfl) (pe_bm PySem.F.plainAttrs_list PySem.F.slot_list_pop PySem.F.type_list_pop mt_popAt (pv 3) (pa_cons pe_int pa_nil))) (pss_one (ps_for PassesOwn.never rfl (piL (K := K) rfl (pv 1)) (pg_tup (by rfl) (pgs_cons (pg_name (i := 5) sc__steps_to.nd rfl (Or.inl rfl)) (pgs_cons (pg_name (i := 6) sc__steps_to.nd rfl (Or.inl rfl)) pgs_nil))) (pss_one (ps_if (PW.pt (pw_and (pt_cmpR op_eq (pv 6) (pv 4) (nomark _)) (pw_and1 (pt_cmp (pc_dniR hr.units (pv 5) (pv 2)))))) (pss_cons (ps_dputR hr.units (pv 2) (pv 5) (pe_op op_add (pe_dgetR hr.units (pv 2) (pv 4) (fun _ _ => rfl)) pe_int) (by rfl)) (pss_one (ps_expr (pe_bm PySem.F.plainAttrs_list PySem.F.slot_list_append PySem.F.type_list_append mt_append (pv 3) (pa_cons (pv 5) pa_nil))))) pss_nil)))))) (pss_one (ps_ret (pv 2)))))), ?_⟩
    refine asg_k (dc_zero (ev_var rfl) hg (by omega) (fun _ => rfl) (fun _ => rfl) fun D H1 nD e1 hD => ?_)
    refine q_asgL (el_cb (ea_cons (ev_var rfl) ea_nil) (rc_list (.inl (sq_of (e1 g _ hg))))) fun r H2 nr e2 hr2 => ?_
    have nr0 := fresh_back e1 nr
    have Dr : D ≠ r := ne_of_none hD nr
    have e12 := e1.trans e2
    refine q_while (fun m σ' H' => ∃ (A : Dkl) (kk : Nat) (x4 x5 x6 : Option V), σ' = [some (.ref g), some (.ref e), some (.ref D), some (.ref r), x4, x5, x6] ∧ Ex H H' ∧ H' D = some (.dK (dkv (Tk G A))) ∧ H' r = some (.lst (((Tq G A).drop kk).map fun p => V.str p.1)) ∧ Bfs E G A kk ∧ (∀ p ∈ A, p.1 ∈ ruleL) ∧ m = G.length + 9 - kk)
      (G.length + 9) ⟨[], 0, none, none, none, rfl, e12, e2 _ _ hD, by rw [List.drop_zero, Tq, List.append_nil, List.map_map]; exact hr2, bfs_start, (fun _ h => nomatch h), rfl⟩ fun m σ' H' pv => ?_
    obtain ⟨A, kk, x4, x5, x6, rfl, ex, hD', hr', B, rA, rfl⟩ := pv
    refine ⟨_, et_fullV (K := K) rfl hr', fun full H3 e3 => ?_, fun empty H3 e3 => ?_⟩
    · have hk : kk < (Tq G A).length := by
        refine Classical.byContradiction fun z => ?_
        rw [List.drop_of_length_le (by omega)] at full
        cases full
      have lA := few_rules B.nd rA
      have lT : (Tq G A).length = G.length + A.length := by rw [Tq, List.length_append, List.length_map]
      obtain ⟨⟨gl, d⟩, hgl⟩ : ∃ q, (Tq G A)[kk]? = some q := ⟨_, List.getElem?_eq_getElem hk⟩
      have hd0 : (((Tq G A).drop kk).map fun p => V.str p.1) = V.str gl :: (((Tq G A).drop (kk + 1)).map fun p => V.str p.1) := by
        rw [List.drop_eq_getElem_cons hk, List.map_cons]
        rw [List.getElem?_eq_getElem hk] at hgl
        rw [Option.some.inj hgl]
      rw [hd0] at hr'
      refine ⟨fun σ2 H5 => ∃ (A : Dkl) (x4 x5 x6 : Option V), σ2 = [some (.ref g), some (.ref e), some (.ref D), some (.ref r), x4, x5, x6] ∧ Ex H H5 ∧ H5 D = some (.dK (dkv (Tk G A))) ∧ H5 r = some (.lst (((Tq G A).drop (kk + 1)).map fun p => V.str p.1)) ∧ Bfs E G A (kk + 1) ∧ (∀ p ∈ A, p.1 ∈ ruleL), fun σ2 H5 ⟨A', y4, y5, y6, q1, q2, q3, q4, q5, q6⟩ => ⟨G.length + 9 - (kk + 1), by omega, A', kk + 1, y4, y5, y6, q1, q2, q3, q4, q5, q6, rfl⟩, ?_⟩
      refine asg_k (bm_k (v_k (ev_var rfl) fun H4 e4 => ⟨Or.inl ⟨rfl, _, sq_of ((e3.trans e4) r _ hr')⟩, ac_v ev_c fun H5 e5 => ac_nil ⟨r, _, 0, 0, V.str gl, rfl, rfl, (e3.trans (e4.trans e5)) r _ hr', by decide, by decide, seqIndex_0 (Nat.succ_pos _), rfl, ?_⟩⟩))
      have e345 := e3.trans (e4.trans e5)
      have exP := (ex.trans e345).mut nr0 (o := .lst ((V.str gl :: (((Tq G A).drop (kk + 1)).map fun p => V.str p.1)).eraseIdx 0))
      have hDP : upd H5 r (.lst ((V.str gl :: (((Tq G A).drop (kk + 1)).map fun p => V.str p.1)).eraseIdx 0)) D = some (.dK (dkv (Tk G A))) := by rw [upd_ne Dr]; exact e345 _ _ hD'
      have hrP : upd H5 r (.lst ((V.str gl :: (((Tq G A).drop (kk + 1)).map fun p => V.str p.1)).eraseIdx 0)) r = some (.lst (((Tq G A).drop (kk + 1)).map fun p => V.str p.1)) := upd_same
      generalize upd H5 r (.lst ((V.str gl :: (((Tq G A).drop (kk + 1)).map fun p => V.str p.1)).eraseIdx 0)) = HP at exP hDP hrP
      show tFor _ _ _ _ [some (V.ref g), some (V.ref e), some (V.ref D), some (V.ref r), some (V.str gl), x5, x6] HP
      refine s_forP (K := K) (ev_var rfl) (exP e _ he) (fun j σ2 H6 => ∃ (A : Dkl) (x5 x6 : Option V), σ2 = [some (.ref g), some (.ref e), some (.ref D), some (.ref r), some (.str gl), x5, x6] ∧ Ex H H6 ∧ H6 D = some (.dK (dkv (Tk G A))) ∧ H6 r = some (.lst (((Tq G A).drop (kk + 1)).map fun p => V.str p.1)) ∧ Bfs E G A kk ∧ (∀ p ∈ A, p.1 ∈ ruleL) ∧ (Tq G A)[kk]? = some (gl, d) ∧ ∀ i, i < j → ∀ x, E[i]? = some (x, gl) → x ∈ (Tq G A).map (·.1))
        (fun H6 e6 => ⟨A, x5, x6, rfl, exP.trans e6, e6 _ _ hDP, e6 _ _ hrP, B, rA, hgl, fun i hi => absurd hi (Nat.not_lt_zero _)⟩) (fun i σ2 H6 ⟨A', y5, y6, _, q2, _⟩ => q2 e _ he) (fun j u σ2 H6 hu pv => ?_) (fun σ2 H6 pv => ?_)
      · obtain ⟨A', y5, y6, rfl, ex6, hD6, hr6, B6, rA6, hgl6, part⟩ := pv
        obtain ⟨dd, hdd, hq⟩ := (dE.mono ex6).get hu
        rw [List.getElem?_map] at hdd
        obtain ⟨⟨x, y⟩, hxy, rfl⟩ := Option.map_eq_some_iff.mp hdd
        obtain ⟨ua, rfl, hua⟩ := ed_of hq
        have hm := List.mem_of_getElem? hxy
        have lA' := few_rules B6.nd rA6
        have lT' : (Tq G A').length = G.length + A'.length := by rw [Tq, List.length_append, List.length_map]
        have lK : (dkv (Tk G A')).length ≤ 1000 := by
          unfold dkv Tk
          rw [List.length_map, List.length_append, List.length_map]
          have := once_len G
          omega
        refine ⟨ua, edV (x, y), rfl, st_of hua, rfl, _, _, rfl, _, _, rfl, rfl, ?_⟩
        show tIfS _ _ _ _ [some (V.ref g), some (V.ref e), some (V.ref D), some (V.ref r), some (V.str gl), some (V.str x), some (V.str y)] H6
        refine s_when (et_and (et_test (ev_op (ev_var rfl) (ev_var rfl) (rv_eq rfl))) fun _ => et_test (ev_dni (k := Sum.inr x) (ev_var rfl) (ev_var rfl) hD6)) (fun c H7 e7 => ?_) (fun c H7 e7 => ?_)
        · rw [Bool.and_eq_true] at c
          have hy : y = gl := by have := of_decide_eq_true c.1; simpa using this
          subst hy
          have hx : x ∉ (Tq G A').map (·.1) := fun z => by
            obtain ⟨⟨x', n⟩, hp, rfl⟩ := List.mem_map.mp (tk_keys.mpr z)
            rw [dkv_some (tk_nodup B6) hp] at c
            cases c.2
          have mg := tk_mem.mpr (List.mem_of_getElem? hgl6)
          have B7 := B6.add hgl6 hm hx
          have eT : Tq G (A' ++ [(x, d + 1)]) = Tq G A' ++ [(x, d + 1)] := by rw [Tq, Tq, List.append_assoc]
          obtain ⟨hk6, _⟩ := List.getElem?_eq_some_iff.mp hgl6
          refine v_k (v := .int ((d : Int) + 1)) (ev_op (ev_dget (k := Sum.inr y) (ev_var rfl) (ev_var rfl) (e7 _ _ hD6) (dkv_some (tk_nodup B6) mg)) ev_c rv_I0) fun H8 e8 => v_k (ev_var rfl) fun H9 e9 => v_k (ev_var rfl) fun H10 e10 => ⟨D, _, rfl, .inl ⟨_, Sum.inr x, (e7.trans (e8.trans (e9.trans e10))) _ _ hD6, rfl, sz_lt (by omega), rfl⟩, ?_⟩
          have e710 := e7.trans (e8.trans (e9.trans e10))
          have nx : valV (dkv (Tk G A')) (Sum.inr x) = none := dkv_none fun z => hx (tk_keys.mp z)
          have eK : putK (dkv (Tk G A')) (Sum.inr x) (.int ((d : Int) + 1)) = dkv (Tk G (A' ++ [(x, d + 1)])) := by
            rw [putK_new _ nx, show Tk G (A' ++ [(x, d + 1)]) = Tk G A' ++ [(x, d + 1)] by (unfold Tk; rw [List.append_assoc])]
            unfold dkv
            rw [List.map_append]
            rfl
          rw [eK]
          refine s_app (l := r) (xs := ((Tq G A').drop (kk + 1)).map fun p => V.str p.1) (by rw [upd_ne Dr.symm]; exact e710 _ _ hr6) (ev_var rfl) (ev_var rfl) (by rw [List.length_map, List.length_drop]; omega) fun H11 e11 => ?_
          refine ⟨A' ++ [(x, d + 1)], _, _, rfl, (((ex6.trans e710).mut nD).trans e11).mut nr0, ?_, ?_, B7, fun p hp => ?_, ?_, fun i hi x' hx' => ?_⟩
          · rw [upd_ne Dr]; exact e11 _ _ upd_same
          · rw [upd_same, eT, List.drop_append_of_le_length (by omega), List.map_append]; rfl
          · rcases List.mem_append.mp hp with h | h
            · exact rA6 p h
            · rw [List.mem_singleton.mp h]; exact rE _ hm
          · rw [eT, List.getElem?_append_left hk6]; exact hgl6
          · rw [eT, List.map_append]
            rcases Nat.lt_or_ge i j with q | q
            · exact List.mem_append.mpr (.inl (part i q x' hx'))
            · have : i = j := by omega
              subst this
              rw [hxy] at hx'
              cases hx'
              exact List.mem_append.mpr (.inr (List.mem_singleton.mpr rfl))
        · refine ⟨A', _, _, rfl, ex6.trans e7, e7 _ _ hD6, e7 _ _ hr6, B6, rA6, hgl6, fun i hi x' hx' => ?_⟩
          rcases Nat.lt_or_ge i j with q | q
          · exact part i q x' hx'
          · have : i = j := by omega
            subst this
            rw [hxy] at hx'
            cases hx'
            refine Classical.byContradiction fun z => ?_
            rw [dkv_none (fun q => z (tk_keys.mp q))] at c
            simp at c
      · obtain ⟨A', y5, y6, rfl, ex6, hD6, hr6, B6, rA6, hgl6, part⟩ := pv
        refine ⟨A', _, _, _, rfl, ex6, hD6, hr6, B6.next hgl6 fun x hx => ?_, rA6⟩
        obtain ⟨i, hi, ei⟩ := List.mem_iff_getElem.mp hx
        have hlen : us.length = E.length := by rw [dE.len, List.length_map]
        exact part i (by omega) x (by rw [List.getElem?_eq_getElem hi, ei])
    · have hk : (Tq G A).length ≤ kk := by
        refine Classical.byContradiction fun z => ?_
        rw [List.drop_eq_getElem_cons (by omega)] at empty
        cases empty
      exact s_ret (ev_var rfl) fun H4 e4 => k D A H4 nD (ex.trans (e3.trans e4)) ((e3.trans e4) _ _ hD') ⟨⟨kk, B, hk⟩, rA⟩
end
end K32
end
section
set_option maxHeartbeats 2000000
/-! max(numbers, default=..), min(numbers, default=..), min(pairs) -/
namespace BK
open PySem PySem.Spec PyProof.Rows L2 ZS
theorem aa_ints (ns : List Int) : PySem.W.AlikeAll (ns.map PyData.int) := ⟨fun x hx y hy => by
  obtain ⟨i, _, rfl⟩ := List.mem_map.mp hx
  obtain ⟨j, _, rfl⟩ := List.mem_map.mp hy
  rfl, fun x hx e => by
  obtain ⟨i, _, rfl⟩ := List.mem_map.mp hx
  cases e⟩
theorem dep_ints : ∀ ns : List Int, PyData.depthAll (ns.map PyData.int) = 0
  | [] => rfl
  | n :: ns => by rw [List.map_cons, PyData.depthAll, PyData.depth, dep_ints ns]; rfl
theorem reads_ints {h : Heap} : ∀ {vs : List Value} {ns : List Int}, IntsAre vs ns → ReadsAll h vs (ns.map PyData.int) []
  | _, _, .nil => .nil
  | _, _, .cons _ _ r => .cons (as := []) (bs := []) (.int _ _) (reads_ints r)
variable {X : Cx}
def mxN (z : V) : List Int → V
  | [] => z
  | n :: r => .int (r.foldl max n)
def mnN (z : V) : List Int → V
  | [] => z
  | n :: r => .int (r.foldl min n)
def rMaxN (K : PySem.W.Frag) : List V → List V → Hp → VK → Prop := fun vs zs H Q => ∃ (a : Addr) (ns : List Int) (z : V), vs = [V.ref a] ∧ zs = [z] ∧ SqL K H a (ns.map V.int) ∧ Q (mxN z ns) H
def rMinN (K : PySem.W.Frag) : List V → List V → Hp → VK → Prop := fun vs zs H Q => ∃ (a : Addr) (ns : List Int) (z : V), vs = [V.ref a] ∧ zs = [z] ∧ SqL K H a (ns.map V.int) ∧ Q (mnN z ns) H
theorem call_maxN (hc : X.calm = true) (hu : X.A.units + 64 < cLine) : CallRK X (.builtin "max") [Str.ofString "default"] (rMaxN X.K) := by
  intro pins s σ H vs zs us ws Q I r rz h
  obtain ⟨a, ns, z, rfl, rfl, hl, q⟩ := h
  obtain rfl := Vals.ref1 r
  obtain ⟨w1, rfl, ew⟩ := vals1 rz
  obtain ⟨its, rv, p, _⟩ := I.list hl
  have hr : ReadsAll s.heap its.toArray.toList (ns.map PyData.int) [] := reads_ints rv.ints
  refine PySem.W.max_list_default (I.ok.hd hc) p.isList hr (aa_ints ns) (by rw [dep_ints]; omega) (fun e h' tk hk => ?_) (fun y ys i v h' tk bs e hi rd hk => ?_)
  · cases ns with
    | nil => exact ⟨z, H, I.kept hk, ew, q⟩
    | cons n ns => cases e
  · cases ns with
    | nil => cases e
    | cons n ns =>
      rw [List.map_cons] at e
      cases e
      rw [PySem.W.maxD_ints] at rd
      cases rd
      exact ⟨.int _, H, I.kept hk, ⟨_, rfl⟩, q⟩
theorem call_minN (hc : X.calm = true) (hu : X.A.units + 64 < cLine) : CallRK X (.builtin "min") [Str.ofString "default"] (rMinN X.K) := by
  intro pins s σ H vs zs us ws Q I r rz h
  obtain ⟨a, ns, z, rfl, rfl, hl, q⟩ := h
  obtain rfl := Vals.ref1 r
  obtain ⟨w1, rfl, ew⟩ := vals1 rz
  obtain ⟨its, rv, p, _⟩ := I.list hl
  have hr : ReadsAll s.heap its.toArray.toList (ns.map PyData.int) [] := reads_ints rv.ints
  refine PySem.W.min_list_default (I.ok.hd hc) p.isList hr (aa_ints ns) (by rw [dep_ints]; omega) (fun e h' tk hk => ?_) (fun y ys i v h' tk bs e hi rd hk => ?_)
  · cases ns with
    | nil => exact ⟨z, H, I.kept hk, ew, q⟩
    | cons n ns => cases e
  · cases ns with
    | nil => cases e
    | cons n ns =>
      rw [List.map_cons] at e
      cases e
      rw [PySem.W.minD_ints] at rd
      cases rd
      exact ⟨.int _, H, I.kept hk, ⟨_, rfl⟩, q⟩
/-! ### min of a list of pairs (number, text) -/
abbrev NS := Int × Str
def nsD (p : NS) : PyData := .tuple [.int p.1, .str p.2]
def ltN (a b : NS) : Bool := if a.1 = b.1 then decide (a.2.cps.toList < b.2.cps.toList) else decide (a.1 < b.1)
theorem lt_nsD (a b : NS) : PySem.W.dataLt (nsD a) (nsD b) = ltN a b := by
  have e : PySem.W.dataLt (nsD a) (nsD b) = PySem.W.rowLt [.int a.1, .str a.2] [.int b.1, .str b.2] := by
    unfold nsD
    rw [PySem.W.dataLt_tuple]
    rfl
  rw [e, row_int, row_str, row_nil]
  unfold ltN
  split
  · split
    · next h => rw [h]; simp
    · rfl
  · rfl
theorem ltN_no {a b : NS} : ltN b a = false ↔ a.1 < b.1 ∨ a.1 = b.1 ∧ sLt b.2 a.2 = false := by
  unfold ltN sLt
  split
  · next h => exact ⟨fun e => .inr ⟨h.symm, e⟩, fun e => e.elim (fun z => by omega) fun z => z.2⟩
  · next h => exact ⟨fun e => .inl (by have := of_decide_eq_false e; omega), fun e => e.elim (fun z => decide_eq_false (by omega)) fun z => absurd z.1.symm h⟩
theorem ordN : Ord ltN where
  tot a b h1 h2 := by
    rcases ltN_no.mp h1 with k | ⟨k, l⟩
    · rcases ltN_no.mp h2 with k' | ⟨k', l'⟩ <;> omega
    · rcases ltN_no.mp h2 with k' | ⟨k', l'⟩
      · omega
      · exact Prod.ext (by omega) (by first | exact sLt_tot _ _ l l' | exact sLt_tot _ _ l' l)
  asym a b h := by
    refine ltN_no.mpr ?_
    unfold ltN at h
    split at h
    · next e =>
      refine .inr ⟨by first | exact e | exact e.symm, decide_eq_false (List.not_lt.mpr (List.le_of_lt (of_decide_eq_true h)))⟩
    · exact .inl (of_decide_eq_true h)
  trans a b c h1 h2 := by
    refine ltN_no.mpr ?_
    rcases ltN_no.mp h1 with k | ⟨k, l⟩
    · rcases ltN_no.mp h2 with k' | ⟨k', l'⟩
      · exact .inl (by omega)
      · exact .inl (by omega)
    · rcases ltN_no.mp h2 with k' | ⟨k', l'⟩
      · exact .inl (by omega)
      · exact .inr ⟨by omega, sLt_trans _ _ _ l l'⟩
def mnP (x : NS) (xs : List NS) : NS := xs.foldl (fun a y => if ltN y a then y else a) x
theorem minD_ns (x : NS) : ∀ xs : List NS, PySem.W.minD (nsD x) (xs.map nsD) = nsD (mnP x xs) := fun xs => by
  unfold PySem.W.minD mnP
  induction xs generalizing x with
  | nil => rfl
  | cons y ys ih =>
    rw [List.map_cons, List.foldl_cons, List.foldl_cons, lt_nsD]
    split <;> exact ih _
theorem mnP_least : ∀ (xs : List NS) (x : NS), mnP x xs ∈ x :: xs ∧ ∀ y ∈ x :: xs, ltN y (mnP x xs) = false
  | [], x => ⟨List.mem_cons_self, fun y hy => by
    rcases List.mem_cons.mp hy with rfl | h
    · show ltN y y = false
      refine ltN_no.mpr (.inr ⟨rfl, decide_eq_false (List.lt_irrefl _)⟩)
    · cases h⟩
  | z :: xs, x => by
    have e : mnP x (z :: xs) = mnP (if ltN z x then z else x) xs := rfl
    obtain ⟨h1, h2⟩ := mnP_least xs (if ltN z x then z else x)
    rw [e]
    refine ⟨?_, fun y hy => ?_⟩
    · rcases List.mem_cons.mp h1 with q | q
      · rw [q]
        split
        · exact List.mem_cons_of_mem _ List.mem_cons_self
        · exact List.mem_cons_self
      · exact List.mem_cons_of_mem _ (List.mem_cons_of_mem _ q)
    · have hb := h2 _ List.mem_cons_self
      rcases List.mem_cons.mp hy with rfl | hy
      · cases hz : ltN z y with
        | true => simp only [hz, if_true] at hb ⊢; exact ordN.trans _ _ _ hb (ordN.asym _ _ hz)
        | false => simp only [hz, Bool.false_eq_true, if_false] at hb ⊢; exact hb
      · rcases List.mem_cons.mp hy with rfl | hy
        · cases hz : ltN y x with
          | true => simp only [hz, if_true] at hb ⊢; exact hb
          | false => simp only [hz, Bool.false_eq_true, if_false] at hb ⊢; exact ordN.trans _ _ _ hb hz
        · exact h2 y (List.mem_cons_of_mem _ hy)
def nsV (p : NS) : List V := [.int p.1, .str p.2]
def rMinP (K : PySem.W.Frag) : List V → Hp → VK → Prop := fun vs H Q => ∃ (a : Addr) (L : List (NS × Addr)), vs = [V.ref a] ∧ SqL K H a (L.map fun p => V.ref p.2) ∧ (∀ p ∈ L, SqT K H p.2 (nsV p.1)) ∧ L ≠ [] ∧ ∀ p ∈ L, (∀ q ∈ L, ltN q.1 p.1 = false) → Q (.ref p.2) H
theorem reads_ns {pins : List (Addr × Obj)} {σ : L2.St} {H : Hp} {s : Shared} (I : L2.Inv X pins σ H s) {b : Addr} {r : NS} (h : SqT X.K H b (nsV r)) : Reads s.heap (.ref b) (nsD r) [] := by
  obtain ⟨its, rv, ⟨o, e, c, n, d⟩, _⟩ := I.tuple h
  refine .tuple e c d ?_
  show ReadsAll s.heap its.toArray.toList _ _
  rw [List.toList_toArray]
  cases rv with
  | cons h1 t1 =>
    cases t1 with
    | cons h2 t2 =>
      cases t2
      obtain ⟨_, rfl⟩ := h1
      obtain ⟨_, rfl⟩ := h2
      exact .cons (as := []) (.int _ _) (.cons (as := []) (.str _ _) .nil)
theorem aa_ns (L : List NS) : PySem.W.AlikeAll (L.map nsD) := ⟨fun x hx y hy => by
  obtain ⟨i, _, rfl⟩ := List.mem_map.mp hx
  obtain ⟨j, _, rfl⟩ := List.mem_map.mp hy
  simp [nsD, PySem.W.alike, PySem.W.alikeAll], fun x hx e => by
  obtain ⟨i, _, rfl⟩ := List.mem_map.mp hx
  cases e⟩
theorem dep_ns : ∀ L : List NS, PyData.depthAll (L.map nsD) ≤ 1
  | [] => Nat.zero_le _
  | p :: L => by
    rw [List.map_cons, PyData.depthAll]
    exact Nat.max_le.mpr ⟨by simp [nsD, PyData.depth, PyData.depthAll], dep_ns L⟩
theorem reads_nss {pins : List (Addr × Obj)} {σ : L2.St} {H : Hp} {s : Shared} (I : L2.Inv X pins σ H s) : ∀ {L : List (NS × Addr)} {us : List Value}, Vals (L.map fun p => V.ref p.2) us → (∀ p ∈ L, SqT X.K H p.2 (nsV p.1)) → ReadsAll s.heap us (L.map fun p => nsD p.1) []
  | [], _, .nil, _ => .nil
  | p :: L, _, .cons r t, h => by
    cases r
    exact .cons (as := []) (bs := []) (reads_ns I (h p List.mem_cons_self)) (reads_nss I t fun q hq => h q (List.mem_cons_of_mem _ hq))
theorem nth_ref : ∀ {L : List (NS × Addr)} {us : List Value} {i : Nat} {v : Value}, Vals (L.map fun p => V.ref p.2) us → us[i]? = some v → ∃ p, L[i]? = some p ∧ v = .ref p.2
  | [], _, i, _, .nil, h => by simp at h
  | p :: L, _, 0, _, .cons r t, h => by cases r; cases h; exact ⟨p, rfl, rfl⟩
  | p :: L, _, i + 1, _, .cons (l₂ := _) r t, h => nth_ref (L := L) t (by simpa using h)
theorem cr_minP (hc : X.calm = true) (hu : X.A.units + 64 < cLine) : CallR X (.builtin "min") (rMinP X.K) := by
  intro pins s σ H vs us Q I r h
  obtain ⟨a, L, rfl, hl, ht, ne, q⟩ := h
  obtain rfl := Vals.ref1 r
  obtain ⟨its, rv, p, _⟩ := I.list hl
  cases L with
  | nil => exact absurd rfl ne
  | cons x xs =>
    have hr : ReadsAll s.heap its.toArray.toList (nsD x.1 :: (xs.map (·.1)).map nsD) [] := by
      have := reads_nss I rv ht
      rwa [List.map_cons, show xs.map (fun p => nsD p.1) = (xs.map (·.1)).map nsD by rw [List.map_map]; rfl] at this
    have dep := dep_ns ((x :: xs).map (·.1))
    rw [List.map_cons, List.map_cons] at dep
    refine PySem.W.min_list_data (I.ok.hd hc) p.isList hr (by have := aa_ns ((x :: xs).map (·.1)); rwa [List.map_cons, List.map_cons] at this) (by omega) (fun i v h' tk bs hi rd hk => ?_)
    rw [minD_ns] at rd
    obtain ⟨z, hz, rfl⟩ := nth_ref rv (by simpa using hi)
    have hm := List.mem_of_getElem? hz
    have I2 := I.kept (t' := tk) hk
    have rd : Reads ({ s with heap := h', toks := tk } : Shared).heap (.ref z.2) (.tuple [.int (mnP x.1 (xs.map (·.1))).1, .str (mnP x.1 (xs.map (·.1))).2]) bs := rd
    have e := reads_keys (xs := [.int z.1.1, .str z.1.2]) (ys := [.int (mnP x.1 (xs.map (·.1))).1, .str (mnP x.1 (xs.map (·.1))).2]) rfl rfl (reads_ns I2 (ht z hm)) rd
    have ez : z.1 = mnP x.1 (xs.map (·.1)) := by
      obtain ⟨⟨i, t⟩, b⟩ := z
      injection e with e1 e2
      injection e2 with e2 _
      injection e1 with e1
      injection e2 with e2
      exact Prod.ext e1 e2
    refine ⟨.ref z.2, H, I2, rfl, q z hm fun y hy => ?_⟩
    rw [ez]
    exact (mnP_least (xs.map (·.1)) x.1).2 y.1 (by
      rcases List.mem_cons.mp hy with rfl | hy
      · exact List.mem_cons_self
      · exact List.mem_cons_of_mem _ (List.mem_map.mpr ⟨y, hy, rfl⟩))
end BK
namespace BK
open PySem L2
section
variable {X : Cx} {o e : Expr} {apos cpos : Pos} {td ty : TE}
theorem pe_dget1R (hu : X.A.units + 64 < cLine) (ho : PE X o td) (he : PE X e ty) (m : M1 X o "get" apos e cpos) : PE X (.Call (.Attribute o "get" apos) [e] [] cpos) (tDGet1 td ty) := pe_dget1 (by omega) ho he m
end
end BK
end
section
set_option maxHeartbeats 4000000
namespace K32
open PySem PyProof.Rows L2 Evl G OW BK TD
/-! ### sorted lists of rules -/
theorem ordS : BK.Ord sLt := ⟨fun a b h1 h2 => sLt_tot a b h1 h2, fun a b h => decide_eq_false (List.not_lt.mpr (List.le_of_lt (of_decide_eq_true h))), fun a b c h1 h2 => sLt_trans a b c h1 h2⟩
theorem pw_rising : ∀ {p : Str} {l : List Str}, (p :: l).Pairwise (fun a b => sLt b a = false) → risingS p l = true
  | p, [], _ => rfl
  | p, x :: r, h => by
    obtain ⟨h1, h2⟩ := List.pairwise_cons.mp h
    have := h1 x List.mem_cons_self
    rw [risingS, pw_rising h2, Bool.and_true]
    unfold sLt at this
    rw [ltCps_eq, this]; rfl
theorem nrm_is (xs : List Str) : IsNrm xs (nrm xs) := by
  have hy : IsNrm xs (srt sLt xs) := ⟨by
    have := srt_up ordS xs
    cases e : srt sLt xs with
    | nil => rfl
    | cons x r => rw [e] at this; exact pw_rising this, srt_nodup xs, fun k => mem_srt⟩
  rw [nrm_eq hy]
  exact hy
theorem mem_nrm {xs : List Str} {z : Str} : z ∈ nrm xs ↔ z ∈ xs := (nrm_is xs).2.2 z
theorem nrm_nodup {xs : List Str} : (nrm xs).Nodup := (nrm_is xs).2.1

theorem inV_str (x : Str) (xs : List Str) : inV (.str x) (xs.map V.str) = decide (x ∈ xs) := by
  unfold inV
  induction xs with
  | nil => rfl
  | cons y xs ih =>
    rw [List.map_cons, List.any_cons, ih, Bool.eq_iff_iff]
    show (y == x || decide (x ∈ xs)) = true ↔ _
    rw [Bool.or_eq_true, beq_iff_eq, decide_eq_true_eq, decide_eq_true_eq, List.mem_cons]
    exact or_congr ⟨Eq.symm, Eq.symm⟩ Iff.rfl
open Classical in
/-- what comes to a goal, sorted -/
noncomputable def rchL (E : List Ed) (G : List Str) : List Str := nrm (ruleL.filter fun x => decide (∃ m, Rch E G m x))
structure Fits (E : List Ed) (G : List Str) : Prop where
  e : ∀ p ∈ E, p.1 ∈ ruleL
  g : ∀ x ∈ G, x ∈ ruleL
theorem rch_rule {E : List Ed} {G : List Str} (F : Fits E G) : ∀ {m : Nat} {x : Str}, Rch E G m x → x ∈ ruleL
  | 0, x, h => F.g x h
  | m + 1, x, ⟨y, h, _⟩ => F.e _ h
theorem mem_rchL {E : List Ed} {G : List Str} (F : Fits E G) {x : Str} : x ∈ rchL E G ↔ ∃ m, Rch E G m x := by
  unfold rchL
  rw [mem_nrm, List.mem_filter]
  simp only [decide_eq_true_eq]
  exact ⟨fun h => h.2, fun h => ⟨h.elim fun m hm => rch_rule F hm, h⟩⟩
theorem Stp.keys {E : List Ed} {G : List Str} {A : Dkl} (S : Stp E G A) {x : Str} : x ∈ (Tk G A).map (·.1) ↔ ∃ m, Rch E G m x := by
  obtain ⟨k, B, hk⟩ := S.b
  rw [tk_keys]
  constructor
  · intro h
    obtain ⟨p, hp, rfl⟩ := List.mem_map.mp h
    exact ⟨p.2, B.rch p hp⟩
  · rintro ⟨m, hm⟩
    exact B.full hk m x hm
theorem Stp.nd {E : List Ed} {G : List Str} {A : Dkl} (S : Stp E G A) : ((Tk G A).map (·.1)).Nodup := let ⟨_, B, _⟩ := S.b; tk_nodup B
/-- the number that stands beside x is its distance -/
theorem Stp.dist {E : List Ed} {G : List Str} {A : Dkl} (S : Stp E G A) {x : Str} {n : Nat} (h : (x, n) ∈ Tk G A) : Rch E G n x ∧ ∀ m, Rch E G m x → n ≤ m := let ⟨_, B, _⟩ := S.b; ⟨B.rch _ (tk_mem.mp h), fun m hm => B.low _ (tk_mem.mp h) m hm⟩
def EvS (te : TE) (σ : L2.St) (H : Hp) (E : List Ed) (G : List Str) : Prop := ∀ H1, Ex H H1 → ∀ Q : VK, RetS E G H1 Q → te σ H1 Q
section
variable {P : Program} {w : World} {K : PySem.W.Frag} {mg : Str → Option Value} {base : Heap} {C : Addr} {σ : L2.St} {H : Hp} {te tl ta tb : TE} {tt : TT} {i j : Nat} {vs : List Nat} {E : List Ed} {G : List Str}
theorem lq_sortD (F : Fits E G) (h : EvS te σ H E G) : EvLq (tCB (fun xs H Q => ∃ (a : Addr) (kvs : List (Key × V)) (ks : List Str), xs = [.ref a] ∧ Rd H a (.dK kvs) ∧ kvs.map (·.1) = ks.map Sum.inr ∧ ks.length < 64 ∧ ∀ ys p, ys.Perm ks → sortedS ys = true → H p = none → Q (.ref p) (upd H p (.lst (ys.map V.str)))) (tCons te tNil)) σ H ((rchL E G).map PyData.str) := fun H1 e Q q =>
  h H1 e _ fun D A H2 nD e2 hD S => ⟨D, dkv (Tk G A), (Tk G A).map (·.1), rfl, .inl hD, by unfold dkv; rw [List.map_map, List.map_map]; rfl, by
    have := sub_len (ys := ruleL) S.nd fun x hx => (S.keys.mp hx).elim fun m hm => rch_rule F hm
    rw [show ruleL.length = 8 by decide +kernel] at this
    omega, fun ys p pm sd hp => by
    have en : rchL E G = ys := nrm_eq ⟨sd, pm.nodup_iff.mpr S.nd, fun x => by
      rw [pm.mem_iff, S.keys, ← mem_rchL F, rchL, mem_nrm]⟩
    rw [en] at q
    exact q p _ _ (fresh_back e2 hp) (e2.trans (Ex.new hp)) upd_same (of_strs _)⟩
/-- _steps_to(list, pairs): as they are written -/
theorem es_call {Eh : XK} (hg : EvSl ta σ H (G.map PyData.str)) (he : ∀ H1, Ex H H1 → EvSl tb σ H1 (E.map edD)) (rE : ∀ p ∈ E, p.1 ∈ ruleL) (lG : G.length ≤ 100) (lE : E.length ≤ 100) : EvS (tCall sp_steps [] Eh (tCons ta (tCons tb tNil))) σ H E G := fun H1 e Q q =>
  hg H1 e _ fun a us H2 e2 h2 d2 => he H2 (e.trans e2) H2 (Ex.refl _) _ fun b ws H3 e3 h3 d3 => ac_nil ⟨a, b, ws, G, E, rfl, by rw [e3 _ _ h2, strs_of d2], h3, d3, rE, lG, lE, fun D A H4 nD e4 hD S => q D A H4 (fresh_back (e2.trans e3) nD) ((e2.trans e3).trans e4) hD S⟩
end
theorem eds_rule {vs : List Vow} (h : ∀ v ∈ vs, vwOk v) : ∀ p ∈ eds vs, p.1 ∈ ruleL ∧ p.2 ∈ ruleL := fun p hp => by
  obtain ⟨v, hv, e⟩ := List.mem_filterMap.mp hp
  cases v with
  | quick a b => cases e; exact ⟨(h _ hv).1, (h _ hv).2.1⟩
  | lead r lo hi => cases e
theorem eds_len (vs : List Vow) : (eds vs).length ≤ vs.length := List.length_filterMap_le _ _
def bk (E : List Ed) : List Ed := E.map fun p => (p.2, p.1)
theorem fitU {vs : List Vow} (h : ∀ v ∈ vs, vwOk v) {r : Str} (hr : r ∈ ruleL) : Fits (eds vs) [r] := ⟨fun p hp => (eds_rule h p hp).1, fun x hx => by rw [List.mem_singleton.mp hx]; exact hr⟩
theorem fitO {vs : List Vow} (h : ∀ v ∈ vs, vwOk v) {r : Str} (hr : r ∈ ruleL) : Fits (bk (eds vs)) [r] := ⟨fun p hp => by
  obtain ⟨q, hq, rfl⟩ := List.mem_map.mp hp
  exact (eds_rule h q hq).2, fun x hx => by rw [List.mem_singleton.mp hx]; exact hr⟩
noncomputable def undL (vs : List Vow) (r : Str) : List Str := rchL (eds vs) [r]
noncomputable def ovrL (vs : List Vow) (r : Str) : List Str := rchL (bk (eds vs)) [r]
/-- a deed that asks a book and a rule -/
def sp_ask (C : Addr) (f : List Vow → Str → VK → Hp → Prop) : Sp := fun as H Q _ => ∃ (p : Addr) (rs : List Rw) (vs : List Vow) (r : Str), as = [.ref p, .str r] ∧ BkAt H C p rs vs ∧ (∀ v ∈ vs, vwOk v) ∧ vs.length ≤ 12 ∧ r ∈ ruleL ∧ f vs r Q H
def tellL (g : List Vow → Str → List PyData) : List Vow → Str → VK → Hp → Prop := fun vs r Q H => RetLq (g vs r) H Q
def tellV (g : List Vow → Str → V) : List Vow → Str → VK → Hp → Prop := fun vs r Q H => RetV (g vs r) H Q
noncomputable def sp_beneath (C : Addr) : Sp := sp_ask C (tellL fun vs r => (undL vs r).map PyData.str)
noncomputable def sp_above (C : Addr) : Sp := sp_ask C (tellL fun vs r => (ovrL vs r).map PyData.str)
section
variable {P : Program} {w : World} {K : PySem.W.Frag} {mg : Str → Option Value} {base : Heap} {C : Addr}
theorem ok_beneath {f f1 f2 f3 : Addr} {fd fd1 fd2 fd3 : FuncData} (F : Fun K "beneath" "beneath" s_beneath f fd) (T : Txt P w K mg C) (c_need_rule : Cal P w K mg base "need_rule" f1 fd1 ["value"] 2 sp_need_rule) (c__steps_to : Cal P w K mg base "_steps_to" f2 fd2 ["goals", "quick"] 1 sp_steps) (c__quick : Cal P w K mg base "_quick" f3 fd3 ["book"] 3 (sp_quick C)) :
    FnOk P w K mg base CX0 4 f fd ["book", "rule"] (sp_beneath C) := by
  refine F.ok sc_beneath (fun vs H Q E h => ?_) (fun cdv A outer s H vs Q E hr h => ?_)
  · obtain ⟨p, rs, vs, r, rfl, _⟩ := h
    rfl
  · obtain ⟨p, rs, vs, r, rfl, b, ok, few, hr', k⟩ := h
    refine ⟨_, (pss_cons (ps_expr (pe_call c_need_rule.ok (hr.mono (by decide)) (by rfl) c_need_rule.mgx c_need_rule.kp c_need_rule.bd .nil pass0 (pa_cons (pv 1) pa_nil))) (pss_one (ps_ret (pe_callB (call_sortedD rfl) (by rfl) T.b_sorted (by decide +kernel) (pa_cons (pe_call c__steps_to.ok (hr.mono (by decide)) (by rfl) c__steps_to.mgx c__steps_to.kp c__steps_to.bd .nil pass0 (pa_cons (pe_lst (pa_cons (pv 1) pa_nil)) (pa_cons (pe_call c__quick.ok (hr.mono (by decide)) (by rfl) c__quick.mgx c__quick.kp c__quick.bd .nil pass0 (pa_cons (pv 0) pa_nil)) pa_nil))) pa_nil))))), ?_⟩
    have le := eds_len vs
    refine q_dropV (ev_call (ea_cons (ev_var rfl) ea_nil) (spv_need_rule hr')) fun H1 e1 => ?_
    refine s_rlq (lq_sortD (fitU ok hr') (es_call (E := eds vs) (G := [r]) (esl_one (ev_var rfl) (.str r)) (fun H2 e2 => esl_lq (lq_call (ea_cons (ev_var rfl) ea_nil) (spq_quick (b.mono (e1.trans e2)) (by omega)))) (fun p hp => (eds_rule ok p hp).1) (by show 1 ≤ 100; decide) (by omega))) fun q us H2 hq e2 h2 d2 => k q us H2 (fresh_back e1 hq) (e1.trans e2) h2 d2
end
end K32
end
section
set_option maxHeartbeats 4000000
namespace K32
open PySem PyProof.Rows L2 Evl G OW BK TD
section
variable {P : Program} {w : World} {K : PySem.W.Frag} {mg : Str → Option Value} {base : Heap} {C : Addr} {σ : L2.St} {H : Hp} {te tl ta tb : TE} {tt : TT} {i j : Nat} {vs : List Nat} {E : List Ed}
/-- [.. for a, b in pairs if ..] -/
theorem lq_lcP (g : Ed → PyData) (f : Ed → Bool) (h : EvSl tl σ H (E.map edD)) (hz : E.length ≤ 40000) (hw : ∀ x y, wipe (((wipe σ vs).set i (some x)).set j (some y)) vs = wipe σ vs) (fl : ∀ x, flatD (g x) = true)
    (ht : ∀ p H1, Ex H H1 → p ∈ E → EvT tt (((wipe σ vs).set i (some (.str p.1))).set j (some (.str p.2))) H1 (f p)) (he : ∀ p H1, Ex H H1 → p ∈ E → f p = true → EvQ te (((wipe σ vs).set i (some (.str p.1))).set j (some (.str p.2))) H1 (g p)) :
    EvLq (tLc (iList K tl) (gTup K 2 (gCons (gName i) (gCons (gName j) gNil))) tt te vs) σ H ((E.filter f).map g) := fun H0 e Q q => h H0 e _ fun a us H1 e1 ha d => by
  have hl : us.length = E.length := by rw [d.len, List.length_map]
  have e01 := e.trans e1
  refine ⟨a, rfl, ⟨us, sq_of ha⟩, fun Dl hD => ⟨fun n m H' => m = us.length - n ∧ n ≤ us.length ∧ ∃ acc : List V, Ex H1 H' ∧ H' Dl = some (.lst acc) ∧ acc.length ≤ n ∧ DqAll H' acc (((E.take n).filter f).map g), ⟨us.length, by simp, Nat.zero_le _, [], Ex.new hD, upd_same, Nat.le_refl _, by rw [List.take_zero]; exact .nil⟩, ?_⟩⟩
  rintro n m H' ⟨rfl, hn, acc, x1, x2, x3, x4⟩
  have hs2 : SqL K H' a us := sq_of (x1 a _ ha)
  by_cases hlt : n < us.length
  · refine .inr ⟨⟨us, us[n], hs2, List.getElem?_eq_getElem hlt⟩, fun H'' => ∃ acc : List V, Ex H1 H'' ∧ H'' Dl = some (.lst acc) ∧ acc.length ≤ n + 1 ∧ DqAll H'' acc (((E.take (n + 1)).filter f).map g), fun H'' p' => ⟨us.length - (n + 1), by omega, rfl, hlt, p'⟩, fun x0 H'' y => ?_⟩
    obtain ⟨rfl, hx⟩ := y
    have hu := hx us hs2
    obtain ⟨dd, hdd, hq⟩ := d.get hu
    rw [List.getElem?_map] at hdd
    obtain ⟨p, hp, rfl⟩ := Option.map_eq_some_iff.mp hdd
    obtain ⟨pa, rfl, hpa⟩ := ed_of hq
    have hm := List.mem_of_getElem? hp
    have tk : (E.take (n + 1)).filter f = (E.take n).filter f ++ [p].filter f := by
      rw [List.take_add_one, hp, List.filter_append]; rfl
    refine ⟨pa, edV p, rfl, st_of (x1 _ _ hpa), rfl, _, _, rfl, _, _, rfl, rfl, hw _ _, ?_⟩
    refine ht p H'' (e01.trans x1) hm H'' (Ex.refl _) _ fun H3 e3 => ?_
    cases hf : f p with
    | false =>
      rw [if_neg Bool.false_ne_true]
      refine ⟨acc, x1.trans e3, e3 _ _ x2, Nat.le_succ_of_le x3, ?_⟩
      rw [tk, List.filter_cons, if_neg (by rw [hf]; exact Bool.false_ne_true), List.filter_nil, List.append_nil]
      exact x4.mono e3
    | true =>
      rw [if_pos rfl]
      refine he p H3 ((e01.trans x1).trans e3) hm hf H3 (Ex.refl _) _ fun y H4 e4 hy => ?_
      have h4 := e4 _ _ (e3 _ _ x2)
      refine ⟨acc, h4, sz_lt (by omega), acc ++ [y], ((x1.trans e3).trans e4).mut hD, upd_same, by rw [List.length_append]; exact Nat.succ_le_succ x3, ?_⟩
      have tups : ∀ b zs, H4 b = some (.tup zs) → upd H4 Dl (.lst (acc ++ [y])) b = some (.tup zs) := fun b zs hb => by rw [upd_ne (show b ≠ Dl from fun z => by rw [z, h4] at hb; cases hb)]; exact hb
      refine flats_in tups (fun z hz => by obtain ⟨y, _, rfl⟩ := List.mem_map.mp hz; exact fl y) ?_
      rw [tk, List.filter_cons, if_pos hf, List.filter_nil, List.map_append]
      exact (x4.mono (e3.trans e4)).app (.cons hy .nil)
  · refine .inl ⟨⟨us, hs2, by omega⟩, ?_⟩
    rw [List.take_of_length_le (by omega)] at x4
    exact q Dl acc H' (fresh_back e1 hD) (e1.trans x1) x2 x4
theorem ok_above {f f1 f2 f3 : Addr} {fd fd1 fd2 fd3 : FuncData} (F : Fun K "above" "above" s_above f fd) (T : Txt P w K mg C) (c_need_rule : Cal P w K mg base "need_rule" f1 fd1 ["value"] 2 sp_need_rule) (c__steps_to : Cal P w K mg base "_steps_to" f2 fd2 ["goals", "quick"] 1 sp_steps) (c__quick : Cal P w K mg base "_quick" f3 fd3 ["book"] 3 (sp_quick C)) :
    FnOk P w K mg base CX0 4 f fd ["book", "rule"] (sp_above C) := by
  refine F.ok sc_above (fun vs H Q E h => ?_) (fun cdv A outer s H vs Q E hr h => ?_)
  · obtain ⟨p, rs, vs, r, rfl, _⟩ := h
    rfl
  · obtain ⟨p, rs, vs, r, rfl, b, ok, few, hr', k⟩ := h
    refine ⟨_, (pss_cons (ps_expr (pe_call c_need_rule.ok (hr.mono (by decide)) (by rfl) c_need_rule.mgx c_need_rule.kp c_need_rule.bd .nil pass0 (pa_cons (pv 1) pa_nil))) (pss_one (ps_ret (pe_callB (call_sortedD rfl) (by rfl) T.b_sorted (by decide +kernel) (pa_cons (pe_call c__steps_to.ok (hr.mono (by decide)) (by rfl) c__steps_to.mgx c__steps_to.kp c__steps_to.bd .nil pass0 (pa_cons (pe_lst (pa_cons (pv 1) pa_nil)) (pa_cons (pe_lc (own := [("first", 2), ("other", 3)]) (g := (gTup K 2 (gCons (gName 2) (gCons (gName 3) gNil)))) (by rfl) sc_above.nd (piL (K := K) rfl (pe_call c__quick.ok (hr.mono (by decide)) (by rfl) c__quick.mgx c__quick.kp c__quick.bd .nil pass0 (pa_cons (pv 0) pa_nil))) (blkOk_by (own := [("first", 2), ("other", 3)]) (N := ["book", "rule", "first", "other"]) (sc := defScope s_above) (by decide +kernel)) (fun _ _ _ _ _ => (pg_tup (by rfl) (pgs_cons (pg_name (i := 2) sc_above.nd rfl (Or.inl rfl)) (pgs_cons (pg_name (i := 3) sc_above.nd rfl (Or.inl rfl)) pgs_nil)))) (fun _ _ _ _ _ => pts_nil) (fun _ _ _ _ _ => (pe_tup (pa_cons (pv 3) (pa_cons (pv 2) pa_nil))))) pa_nil))) pa_nil))))), ?_⟩
    have le := eds_len vs
    have FO := fitO ok hr'
    refine q_dropV (ev_call (ea_cons (ev_var rfl) ea_nil) (spv_need_rule hr')) fun H1 e1 => ?_
    refine s_rlq (lq_sortD FO (es_call (E := bk (eds vs)) (G := [r]) (esl_one (ev_var rfl) (.str r)) (fun H2 e2 => esl_lq (lq_eq (lq_lcP (fun p => edD (p.2, p.1)) (fun _ => true) (esl_lq (lq_call (ea_cons (ev_var rfl) ea_nil) (spq_quick (b.mono (e1.trans e2)) (by omega)))) (by omega) (fun _ _ => rfl) (fun _ => rfl) (fun _ _ _ _ => lc_yes) (fun p H3 e3 _ _ => eq_tup (aq_cons (eq_of (ev_var rfl) fun _ _ => .str _) (aq_cons (eq_of (ev_var rfl) fun _ _ => .str _) aq_nil)) (by show 2 ≤ 100000; decide))) (by rw [filter_yes, bk, List.map_map]; rfl))) FO.e (by show 1 ≤ 100; decide) (by rw [bk, List.length_map]; omega))) fun q us H2 hq e2 h2 d2 => k q us H2 (fresh_back e1 hq) (e1.trans e2) h2 d2
end
/-! ### bounds -/
def loO : Vow → Option Int
  | .quick .. => none
  | .lead _ lo _ => lo
def hiO : Vow → Option Int
  | .quick .. => none
  | .lead _ _ hi => hi
def bnds (o : Vow → Option Int) (vs : List Vow) (U : List Str) : List Int := ((vs.filter isL).filter fun v => decide (vwR v ∈ U) && (o v).isSome).map fun v => (o v).getD 0
noncomputable def lowV (vs : List Vow) (r : Str) : V := mxN .non (bnds loO vs (undL vs r))
noncomputable def highV (vs : List Vow) (r : Str) : V := mnN .non (bnds hiO vs (ovrL vs r))
theorem ints_of {H : Hp} : ∀ {us : List V} {ns : List Int}, DqAll H us (ns.map PyData.int) → us = ns.map V.int
  | [], [], _ => rfl
  | [], _ :: _, h => by cases h
  | _ :: _, [], h => by cases h
  | u :: us, k :: ks, h => by
    cases h with
    | cons h1 h2 => cases h1; rw [ints_of h2]; rfl
noncomputable def sp_low (C : Addr) : Sp := sp_ask C (tellV lowV)
noncomputable def sp_high (C : Addr) : Sp := sp_ask C (tellV highV)
section
variable {P : Program} {w : World} {K : PySem.W.Frag} {mg : Str → Option Value} {base : Heap} {C : Addr} {σ : L2.St} {H : Hp} {te tl ta tb : TE} {tt : TT} {i j : Nat} {vs : List Nat} {E : List Ed}
theorem ev_maxN {ns : List Int} {z : V} (h : EvLq ta σ H (ns.map PyData.int)) (hz : ∀ H1, Ex H H1 → Ev tb σ H1 z) : Ev (tCKw (rMaxN K) (tCons ta tNil) (tCons tb tNil)) σ H (mxN z ns) := fun H1 e Q q =>
  h H1 e _ fun p us H2 _ e2 h2 d2 => ac_nil (hz H2 (e.trans e2) H2 (Ex.refl _) _ fun H3 e3 => ac_nil ⟨p, ns, z, rfl, rfl, sq_of (by rw [← ints_of d2]; exact e3 _ _ h2), q H3 (e2.trans e3)⟩)
theorem ev_minN {ns : List Int} {z : V} (h : EvLq ta σ H (ns.map PyData.int)) (hz : ∀ H1, Ex H H1 → Ev tb σ H1 z) : Ev (tCKw (rMinN K) (tCons ta tNil) (tCons tb tNil)) σ H (mnN z ns) := fun H1 e Q q =>
  h H1 e _ fun p us H2 _ e2 h2 d2 => ac_nil (hz H2 (e.trans e2) H2 (Ex.refl _) _ fun H3 e3 => ac_nil ⟨p, ns, z, rfl, rfl, sq_of (by rw [← ints_of d2]; exact e3 _ _ h2), q H3 (e2.trans e3)⟩)
theorem flat_strs (ks : List Str) : (ks.map V.str).all flatV = true := by
  rw [List.all_eq_true]
  intro x hx
  obtain ⟨k, _, rfl⟩ := List.mem_map.mp hx
  rfl
theorem ev_inS {a : Addr} {ks : List Str} {x : Str} (h : Ev ta σ H (.str x)) (hb : Ev tb σ H (.ref a)) (ha : H a = some (.lst (ks.map V.str))) : Ev (tOp (rIn K false) ta tb) σ H (.bl (decide (x ∈ ks))) := ev_is (ev_op h hb (rv_isL (sq_of ha) rfl (flat_strs ks))) (by rw [inV_str])
theorem ev_notN {v : V} (h : Ev ta σ H v) : Ev (tOp (fun x y H Q => y = V.non ∧ Q (V.bl (!decide (x = V.non))) H) ta (tC .non)) σ H (.bl (!decide (v = .non))) := ev_op h ev_c fun H1 e Q q => ⟨rfl, q H1 (Ex.refl _)⟩
theorem non_oV (o : Option Int) : (!decide (oV o = V.non)) = o.isSome := by cases o <;> simp [oV]
theorem q_els {D : Ends} {tz : TS} {ks : List Str} (h : EvLq te σ H (ks.map PyData.str)) (k : ∀ a H1, H a = none → Ex H H1 → H1 a = some (.lst (ks.map V.str)) → tz D (σ.set i (some (.ref a))) H1) : tSeq (tAsg te (gName i)) tz D σ H := h H (Ex.refl H) _ fun p us H1 hp e h d => k p H1 hp e (by rw [h, strs_of d])
theorem lq_ask {g : List Vow → Str → List PyData} {p : Addr} {rs : List Rw} {vs : List Vow} {r : Str} {Eh : XK} (h : Ev ta σ H (.ref p)) (h' : Ev tb σ H (.str r)) (b : BkAt H C p rs vs) (ok : ∀ v ∈ vs, vwOk v) (few : vs.length ≤ 12) (hr : r ∈ ruleL) : EvLq (tCall (sp_ask C (tellL g)) [] Eh (tCons ta (tCons tb tNil))) σ H (g vs r) := lq_call (ea_cons h (ea_cons h' ea_nil)) fun H1 e Q q E => ⟨p, rs, vs, r, rfl, b.mono e, ok, few, hr, q⟩
theorem ev_ask {g : List Vow → Str → V} {p : Addr} {rs : List Rw} {vs : List Vow} {r : Str} {Eh : XK} (h : Ev ta σ H (.ref p)) (h' : Ev tb σ H (.str r)) (b : BkAt H C p rs vs) (ok : ∀ v ∈ vs, vwOk v) (few : vs.length ≤ 12) (hr : r ∈ ruleL) : Ev (tCall (sp_ask C (tellV g)) [] Eh (tCons ta (tCons tb tNil))) σ H (g vs r) := ev_call (ea_cons h (ea_cons h' ea_nil)) fun H1 e Q q E => ⟨p, rs, vs, r, rfl, b.mono e, ok, few, hr, q⟩
theorem ok_low {f f1 f2 : Addr} {fd fd1 fd2 : FuncData} (F : Fun K "low" "low" s_low f fd) (T : Txt P w K mg C) (c_beneath : Cal P w K mg base "beneath" f1 fd1 ["book", "rule"] 4 (sp_beneath C)) (c__leads : Cal P w K mg base "_leads" f2 fd2 ["book"] 3 (sp_leads C)) : FnOk P w K mg base CX0 5 f fd ["book", "rule"] (sp_low C) := by
  refine F.ok sc_low (fun vs H Q E h => ?_) (fun cdv A outer s H vs Q E hr h => ?_)
  · obtain ⟨p, rs, vs, r, rfl, _⟩ := h
    rfl
  · obtain ⟨p, rs, vs, r, rfl, b, ok, few, hr', k⟩ := h
    refine ⟨_, (pss_cons (ps_set (i := 2) sc_low.nd rfl (Or.inr rfl) (pe_call c_beneath.ok (hr.mono (by decide)) (by rfl) c_beneath.mgx c_beneath.kp c_beneath.bd .nil pass0 (pa_cons (pv 0) (pa_cons (pv 1) pa_nil)))) (pss_one (ps_ret (pe_callBK (BK.call_maxN rfl hr.units) (by rfl) T.b_max (by decide +kernel) (pa_cons (pe_lc (own := [("lead", 3)]) (g := (gName 3)) (by rfl) sc_low.nd (piL (K := K) rfl (pe_call c__leads.ok (hr.mono (by decide)) (by rfl) c__leads.mgx c__leads.kp c__leads.bd .nil pass0 (pa_cons (pv 0) pa_nil))) (blkOk_by (own := [("lead", 3)]) (N := ["book", "rule", "under", "lead"]) (sc := defScope s_low) (by decide +kernel)) (fun _ _ _ _ _ => (pg_name (i := 3) sc_low.nd rfl (Or.inl rfl))) (fun _ _ _ _ _ => (pts_one (PW.pt (pw_and (pt_cmpR (inS (K := K) rfl) (pe_ix (ixT (K := K) rfl) (pv 3) pe_int (fun _ _ => rfl)) (pv 2) (by rfl)) (pw_and1 (pt_cmpR op_notN (pe_ix (ixT (K := K) rfl) (pv 3) pe_int (fun _ _ => rfl)) pe_non (nomark _))))))) (fun _ _ _ _ _ => (pe_ix (ixT (K := K) rfl) (pv 3) pe_int (fun _ _ => rfl)))) pa_nil) (pk_cons pe_non pk_nil))))), ?_⟩
    refine q_els (ks := undL vs r) (lq_ask (ev_var rfl) (ev_var rfl) b ok few hr') fun u H1 hu e1 h1 => ?_
    refine s_ret (ev_maxN (ns := bnds loO vs (undL vs r)) (lq_eq (lq_lc vwD (fun v => .int ((loO v).getD 0)) (fun v => decide (vwR v ∈ undL vs r) && (loO v).isSome) (esl_lq (lq_call (ea_cons (ev_var rfl) ea_nil) (spq_leads (b.mono e1) (by omega)))) (by have := List.length_filter_le isL vs; omega) (fun _ => rfl) (fun _ _ => rfl) (fun v x H2 e2 hv d => ?_) (fun v x H2 e2 hv d hf => ?_)) (by rw [bnds, List.map_map]; rfl)) fun _ _ => ev_c) fun H2 e2 => k H2 (e1.trans e2)
    · cases v with
      | quick a c => cases (List.mem_filter.mp hv).2
      | lead a lo hi =>
        obtain ⟨va, rfl, hva⟩ := vw_of d
        exact et_and (et_test (ev_inS (ev_at1 (ev_var rfl) hva) (ev_var rfl) (e2 _ _ h1))) fun _ => et_is (et_test (ev_notN (ev_at2 (ev_var rfl) hva))) (non_oV lo)
    · cases v with
      | quick a c => cases (List.mem_filter.mp hv).2
      | lead a lo hi =>
        obtain ⟨va, rfl, hva⟩ := vw_of d
        cases lo with
        | none => simp [loO] at hf
        | some n => exact eq_of (ev_at2 (ev_var rfl) hva) fun _ _ => .int n
end
end K32
end
section
set_option maxHeartbeats 4000000
namespace K32
open PySem PyProof.Rows L2 Evl G OW BK TD
section
variable {P : Program} {w : World} {K : PySem.W.Frag} {mg : Str → Option Value} {base : Heap} {C : Addr} {σ : L2.St} {H : Hp} {te tl ta tb : TE} {tt : TT} {i j : Nat} {vs : List Nat} {E : List Ed}
theorem ok_high {f f1 f2 : Addr} {fd fd1 fd2 : FuncData} (F : Fun K "high" "high" s_high f fd) (T : Txt P w K mg C) (c_above : Cal P w K mg base "above" f1 fd1 ["book", "rule"] 4 (sp_above C)) (c__leads : Cal P w K mg base "_leads" f2 fd2 ["book"] 3 (sp_leads C)) : FnOk P w K mg base CX0 5 f fd ["book", "rule"] (sp_high C) := by
  refine F.ok sc_high (fun vs H Q E h => ?_) (fun cdv A outer s H vs Q E hr h => ?_)
  · obtain ⟨p, rs, vs, r, rfl, _⟩ := h
    rfl
  · obtain ⟨p, rs, vs, r, rfl, b, ok, few, hr', k⟩ := h
    refine ⟨_, (pss_cons (ps_set (i := 2) sc_high.nd rfl (Or.inr rfl) (pe_call c_above.ok (hr.mono (by decide)) (by rfl) c_above.mgx c_above.kp c_above.bd .nil pass0 (pa_cons (pv 0) (pa_cons (pv 1) pa_nil)))) (pss_one (ps_ret (pe_callBK (BK.call_minN rfl hr.units) (by rfl) T.b_min (by decide +kernel) (pa_cons (pe_lc (own := [("lead", 3)]) (g := (gName 3)) (by rfl) sc_high.nd (piL (K := K) rfl (pe_call c__leads.ok (hr.mono (by decide)) (by rfl) c__leads.mgx c__leads.kp c__leads.bd .nil pass0 (pa_cons (pv 0) pa_nil))) (blkOk_by (own := [("lead", 3)]) (N := ["book", "rule", "over", "lead"]) (sc := defScope s_high) (by decide +kernel)) (fun _ _ _ _ _ => (pg_name (i := 3) sc_high.nd rfl (Or.inl rfl))) (fun _ _ _ _ _ => (pts_one (PW.pt (pw_and (pt_cmpR (inS (K := K) rfl) (pe_ix (ixT (K := K) rfl) (pv 3) pe_int (fun _ _ => rfl)) (pv 2) (by rfl)) (pw_and1 (pt_cmpR op_notN (pe_ix (ixT (K := K) rfl) (pv 3) pe_int (fun _ _ => rfl)) pe_non (nomark _))))))) (fun _ _ _ _ _ => (pe_ix (ixT (K := K) rfl) (pv 3) pe_int (fun _ _ => rfl)))) pa_nil) (pk_cons pe_non pk_nil))))), ?_⟩
    refine q_els (ks := ovrL vs r) (lq_ask (ev_var rfl) (ev_var rfl) b ok few hr') fun u H1 hu e1 h1 => ?_
    refine s_ret (ev_minN (ns := bnds hiO vs (ovrL vs r)) (lq_eq (lq_lc vwD (fun v => .int ((hiO v).getD 0)) (fun v => decide (vwR v ∈ ovrL vs r) && (hiO v).isSome) (esl_lq (lq_call (ea_cons (ev_var rfl) ea_nil) (spq_leads (b.mono e1) (by omega)))) (by have := List.length_filter_le isL vs; omega) (fun _ => rfl) (fun _ _ => rfl) (fun v x H2 e2 hv d => ?_) (fun v x H2 e2 hv d hf => ?_)) (by rw [bnds, List.map_map]; rfl)) fun _ _ => ev_c) fun H2 e2 => k H2 (e1.trans e2)
    · cases v with
      | quick a c => cases (List.mem_filter.mp hv).2
      | lead a lo hi =>
        obtain ⟨va, rfl, hva⟩ := vw_of d
        exact et_and (et_test (ev_inS (ev_at1 (ev_var rfl) hva) (ev_var rfl) (e2 _ _ h1))) fun _ => et_is (et_test (ev_notN (ev_op (ev_var rfl) ev_c (rv_ixT (st_of hva) (atI_nat (j := 3) rfl))))) (non_oV hi)
    · cases v with
      | quick a c => cases (List.mem_filter.mp hv).2
      | lead a lo hi =>
        obtain ⟨va, rfl, hva⟩ := vw_of d
        cases hi with
        | none => simp [hiO] at hf
        | some n => exact eq_of (ev_op (ev_var rfl) ev_c (rv_ixT (st_of hva) (atI_nat (j := 3) rfl))) fun _ _ => .int n

def gtV : V → V → Bool
  | .int a, .int b => decide (a > b)
  | _, _ => false
noncomputable def tornB (vs : List Vow) (r : Str) : Bool := gtV (lowV vs r) (highV vs r)
noncomputable def sp_is_torn (C : Addr) : Sp := sp_ask C (tellV fun vs r => .bl (tornB vs r))
theorem mx_is (ns : List Int) : mxN .non ns = .non ∨ ∃ i, mxN .non ns = .int i := by cases ns; exact .inl rfl; exact .inr ⟨_, rfl⟩
theorem mn_is (ns : List Int) : mnN .non ns = .non ∨ ∃ i, mnN .non ns = .int i := by cases ns; exact .inl rfl; exact .inr ⟨_, rfl⟩
theorem ok_is_torn {f f1 f2 : Addr} {fd fd1 fd2 : FuncData} (F : Fun K "_is_torn" "_is_torn" s__is_torn f fd) (T : Txt P w K mg C) (c_low : Cal P w K mg base "low" f1 fd1 ["book", "rule"] 5 (sp_low C)) (c_high : Cal P w K mg base "high" f2 fd2 ["book", "rule"] 5 (sp_high C)) : FnOk P w K mg base CX0 6 f fd ["book", "rule"] (sp_is_torn C) := by
  refine F.ok sc__is_torn (fun vs H Q E h => ?_) (fun cdv A outer s H vs Q E hr h => ?_)
  · obtain ⟨p, rs, vs, r, rfl, _⟩ := h
    rfl
  · obtain ⟨p, rs, vs, r, rfl, b, ok, few, hr', k⟩ := h
    refine ⟨_, (pss_cons (ps_par (i := 2) (j := 3) (by rfl) sc__is_torn.nd rfl rfl (by decide) rfl rfl (pa_cons (pe_call c_low.ok (hr.mono (by decide)) (by rfl) c_low.mgx c_low.kp c_low.bd .nil pass0 (pa_cons (pv 0) (pa_cons (pv 1) pa_nil))) (pa_cons (pe_call c_high.ok (hr.mono (by decide)) (by rfl) c_high.mgx c_high.kp c_high.bd .nil pass0 (pa_cons (pv 0) (pa_cons (pv 1) pa_nil))) pa_nil)) (by rfl)) (pss_one (ps_ret (pe_and (pe_cmpR op_notN (pv 2) pe_non (nomark _)) (pe_and (pe_cmpR op_notN (pv 3) pe_non (nomark _)) (pe_one (pe_cmpR op_gt (pv 2) (pv 3) (nomark _)))))))), ?_⟩
    refine par_k (ac_v (ev_ask (ev_var rfl) (ev_var rfl) b ok few hr') fun H1 e1 => ac_v (ev_ask (ev_var rfl) (ev_var rfl) (b.mono e1) ok few hr') fun H2 e2 => ac_nil ⟨_, _, rfl, ?_⟩)
    have key : ∀ H3, Ex H2 H3 → Q (.bl (gtV (lowV vs r) (highV vs r))) H3 := fun H3 e3 => k H3 ((e1.trans e2).trans e3)
    show tRet _ _ [some (V.ref p), some (V.str r), some (lowV vs r), some (highV vs r)] H2
    rcases mx_is (bnds loO vs (undL vs r)) with h1 | ⟨i, h1⟩
    · have h1 : lowV vs r = .non := h1
      rw [h1] at key ⊢
      exact s_ret (ev_andV (a := false) (b := false) (ev_is (ev_notN (ev_var rfl)) rfl) fun q => nomatch q) key
    · have h1 : lowV vs r = .int i := h1
      rcases mn_is (bnds hiO vs (ovrL vs r)) with h2 | ⟨j, h2⟩
      · have h2 : highV vs r = .non := h2
        rw [h1, h2] at key ⊢
        exact s_ret (ev_andV (a := true) (b := false) (ev_is (ev_notN (ev_var rfl)) rfl) fun _ => ev_andV (a := false) (b := false) (ev_is (ev_notN (ev_var rfl)) rfl) fun q => nomatch q) key
      · have h2 : highV vs r = .int j := h2
        rw [h1, h2] at key ⊢
        exact s_ret (ev_andV (a := true) (b := decide (i > j)) (ev_is (ev_notN (ev_var rfl)) rfl) fun _ => ev_andV (a := true) (b := decide (i > j)) (ev_is (ev_notN (ev_var rfl)) rfl) fun _ => ev_op (ev_var rfl) (ev_var rfl) rv_I0) key
noncomputable def sp_torn (C : Addr) : Sp := fun as H Q _ => ∃ (p : Addr) (rs : List Rw) (vs : List Vow), as = [.ref p] ∧ BkAt H C p rs vs ∧ (∀ r ∈ rs, rwOk r) ∧ (∀ v ∈ vs, vwOk v) ∧ rs.length ≤ 24 ∧ vs.length ≤ 12 ∧ RetLq (((nrm (named rs vs)).filter (tornB vs)).map PyData.str) H Q
theorem named_ok {xs : List Rw} {ys : List Vow} (hx : ∀ x ∈ xs, rwOk x) (hy : ∀ y ∈ ys, vwOk y) : ∀ s ∈ named xs ys, s ∈ ruleL := fun s hs => by
  rcases List.mem_append.mp hs with h | h
  · rcases List.mem_append.mp h with h | h
    · obtain ⟨x, hx', rfl⟩ := List.mem_map.mp h
      exact hx x hx'
    · obtain ⟨y, hy', rfl⟩ := List.mem_map.mp h
      cases y <;> exact (hy _ hy').1
  · obtain ⟨y, hy', e⟩ := List.mem_filterMap.mp h
    cases y with
    | quick a b => cases e; exact (hy _ hy').2.1
    | lead r lo hi => cases e
theorem rules_len {xs : List Rw} {ys : List Vow} (hx : ∀ x ∈ xs, rwOk x) (hy : ∀ y ∈ ys, vwOk y) : (nrm (named xs ys)).length ≤ 8 := by
  have := sub_len (ys := ruleL) (nrm_nodup (xs := named xs ys)) fun x h => named_ok hx hy x (mem_nrm.mp h)
  rw [show ruleL.length = 8 by decide +kernel] at this
  exact this
theorem ok_torn {f f1 gr qr : Addr} {fd fd1 fr : FuncData} (F : Fun K "torn" "torn" s_torn f fd) (T : Txt P w K mg C) (m_rules : Prp P w K mg base C "rules" qr gr fr ["self"] 1 (sp_rules C)) (c__is_torn : Cal P w K mg base "_is_torn" f1 fd1 ["book", "rule"] 6 (sp_is_torn C)) : FnOk P w K mg base CX0 7 f fd ["book"] (sp_torn C) := by
  refine F.ok sc_torn (fun vs H Q E h => ?_) (fun cdv A outer s H vs Q E hr h => ?_)
  · obtain ⟨p, rs, vs, rfl, _⟩ := h
    rfl
  · obtain ⟨p, rs, vs, rfl, b, okr, ok, fr, few, k⟩ := h
    refine ⟨_, (pss_one (ps_ret (pe_lc (own := [("rule", 1)]) (g := (gName 1)) (by rfl) sc_torn.nd (piL (K := K) rfl (pe_prop (pv 0) T.cl m_rules.pr m_rules.ok (hr.mono (by decide)) m_rules.bd .nil pass0 (by rfl))) (blkOk_by (own := [("rule", 1)]) (N := ["book", "rule"]) (sc := defScope s_torn) (by decide +kernel)) (fun _ _ _ _ _ => (pg_name (i := 1) sc_torn.nd rfl (Or.inl rfl))) (fun _ _ _ _ _ => (pts_one (pt_val (pe_call c__is_torn.ok (hr.mono (by decide)) (by rfl) c__is_torn.mgx c__is_torn.kp c__is_torn.bd .nil pass0 (pa_cons (pv 0) (pa_cons (pv 1) pa_nil)))))) (fun _ _ _ _ _ => (pv 1))))), ?_⟩
    have rl := rules_len okr ok
    refine s_rlq (lq_lc PyData.str PyData.str (tornB vs) (esl_lq (lq_pr (ev_var rfl) b (spq_rules b fr few))) (by omega) (fun _ => rfl) (fun _ _ => rfl) (fun x u H2 e2 hx d => ?_) (fun x u H2 e2 _ d _ => eq_of (ev_var rfl) fun H3 e3 => d.mono e3)) k
    cases d
    exact et_B (ev_ask (ev_var rfl) (ev_var rfl) (b.mono e2) ok few (named_ok okr ok x (mem_nrm.mp hx)))
end
end K32
end
section
/-! the first of the shortest chains: mathematics -/
namespace BK
section
variable {α : Type} [DecidableEq α]
def Pth (E : List (α × α)) : List α → Prop
  | [] => False
  | [_] => True
  | x :: y :: r => (x, y) ∈ E ∧ Pth E (y :: r)
/-- word for word -/
def lexB (lt : α → α → Bool) : List α → List α → Bool
  | [], [] => false
  | [], _ :: _ => true
  | _ :: _, [] => false
  | a :: as, b :: bs => if a = b then lexB lt as bs else lt a b
/-- from one of S to one of G -/
structure Leads (E : List (α × α)) (S G : List α) (c : List α) : Prop where
  pth : Pth E c
  hd : ∃ x r, c = x :: r ∧ x ∈ S
  last : ∃ y, c.getLast? = some y ∧ y ∈ G
structure IsFirst (lt : α → α → Bool) (E : List (α × α)) (S G : List α) (c : List α) : Prop where
  is_ : Leads E S G c
  least : ∀ c', Leads E S G c' → c.length ≤ c'.length ∧ (c'.length = c.length → lexB lt c' c = false)
variable {lt : α → α → Bool} {E : List (α × α)} {S G : List α}
theorem lex_same (O : Ord lt) : ∀ {a b : List α}, a.length = b.length → lexB lt a b = false → lexB lt b a = false → a = b
  | [], [], _, _, _ => rfl
  | [], _ :: _, h, _, _ => by cases h
  | _ :: _, [], h, _, _ => by cases h
  | x :: a, y :: b, h, h1, h2 => by
    rw [lexB] at h1 h2
    by_cases e : x = y
    · subst e
      rw [if_pos rfl] at h1 h2
      rw [lex_same O (Nat.succ.inj h) h1 h2]
    · rw [if_neg e] at h1
      rw [if_neg (Ne.symm e)] at h2
      exact absurd (O.tot _ _ h1 h2) e
theorem first_one (O : Ord lt) {a b : List α} (h : IsFirst lt E S G a) (k : IsFirst lt E S G b) : a = b := by
  have l : a.length = b.length := Nat.le_antisymm (h.least b k.is_).1 (k.least a h.is_).1
  exact lex_same O l ((k.least a h.is_).2 l) ((h.least b k.is_).2 l.symm)
/-- x stands just n steps off -/
def Dst (E : List (α × α)) (G : List α) (x : α) (n : Nat) : Prop := Rch E G n x ∧ ∀ m, Rch E G m x → n ≤ m
theorem dst_ex {x : α} : ∀ {n : Nat}, Rch E G n x → ∃ m, m ≤ n ∧ Dst E G x m := by
  intro n
  induction n using Nat.strongRecOn with
  | ind n ih =>
    intro h
    by_cases k : ∃ m, m < n ∧ Rch E G m x
    · obtain ⟨m, hm, hr⟩ := k
      obtain ⟨j, hj, d⟩ := ih m hm hr
      exact ⟨j, by omega, d⟩
    · exact ⟨n, Nat.le_refl _, h, fun m hm => Classical.byContradiction fun z => k ⟨m, by omega, hm⟩⟩
theorem rch_of : ∀ {r : List α} {x : α}, Pth E (x :: r) → (∃ y, (x :: r).getLast? = some y ∧ y ∈ G) → Rch E G r.length x
  | [], x, _, ⟨y, h, hy⟩ => by cases h; exact hy
  | z :: r, x, p, ⟨y, h, hy⟩ => ⟨z, p.1, rch_of p.2 ⟨y, by rw [List.getLast?_cons_cons] at h; exact h, hy⟩⟩
/-- the greedy chain: each next one the first of those that are a step nearer -/
def Gr (lt : α → α → Bool) (E : List (α × α)) (G : List α) : List α → Nat → Prop
  | [x], 0 => Dst E G x 0
  | x :: y :: r, n + 1 => Dst E G x (n + 1) ∧ (x, y) ∈ E ∧ Dst E G y n ∧ (∀ z, (x, z) ∈ E → Dst E G z n → lt z y = false) ∧ Gr lt E G (y :: r) n
  | _, _ => False
theorem gr_leads : ∀ {c : List α} {n : Nat}, Gr lt E G c n → Pth E c ∧ c.length = n + 1 ∧ ∃ y, c.getLast? = some y ∧ y ∈ G
  | [], n, h => by cases n <;> exact h.elim
  | [x], 0, h => ⟨trivial, rfl, x, rfl, h.1⟩
  | [x], n + 1, h => h.elim
  | x :: y :: r, 0, h => h.elim
  | x :: y :: r, n + 1, h => by
    obtain ⟨_, e, _, _, k⟩ := h
    obtain ⟨p, l, z, hz, hg⟩ := gr_leads k
    exact ⟨⟨e, p⟩, by rw [List.length_cons, l], z, by rw [List.getLast?_cons_cons]; exact hz, hg⟩
theorem gr_lex : ∀ {c c' : List α} {x : α} {n : Nat}, Gr lt E G (x :: c) n → Pth E (x :: c') → (∃ y, (x :: c').getLast? = some y ∧ y ∈ G) → c'.length = n → lexB lt (x :: c') (x :: c) = false
  | [], c', x, 0, _, _, _, l => by
    rw [List.length_eq_zero_iff.mp l]
    simp [lexB]
  | [], c', x, n + 1, h, _, _, _ => h.elim
  | y :: c, c', x, 0, h, _, _, _ => h.elim
  | y :: c, [], x, n + 1, _, _, _, l => by cases l
  | y :: c, y' :: c', x, n + 1, h, p, ⟨z, hz, hg⟩, l => by
    obtain ⟨dx, e, dy, mn, k⟩ := h
    rw [List.getLast?_cons_cons] at hz
    have l' : c'.length = n := Nat.succ.inj l
    have ry := rch_of p.2 ⟨z, hz, hg⟩
    rw [l'] at ry
    have dy' : Dst E G y' n := ⟨ry, fun m hm => by have := dx.2 (m + 1) ⟨y', p.1, hm⟩; omega⟩
    have hlt := mn y' p.1 dy'
    rw [lexB, if_pos rfl]
    by_cases ey : y' = y
    · subst ey
      exact gr_lex k p.2 ⟨z, hz, hg⟩ l'
    · rw [lexB, if_neg ey]
      exact hlt
theorem gr_first {c : List α} {x : α} {n : Nat} (h : Gr lt E G (x :: c) n) (hx : x ∈ S) (mn : ∀ z ∈ S, ∀ m, Dst E G z m → n ≤ m ∧ (m = n → lt z x = false)) : IsFirst lt E S G (x :: c) := by
  obtain ⟨p, l, hl⟩ := gr_leads h
  refine ⟨⟨p, ⟨x, c, rfl, hx⟩, hl⟩, fun c' k => ?_⟩
  obtain ⟨x', r', rfl, hs⟩ := k.hd
  have hr := rch_of k.pth k.last
  obtain ⟨m, hm, d⟩ := dst_ex hr
  obtain ⟨m1, m2⟩ := mn x' hs m d
  refine ⟨by rw [l, List.length_cons]; omega, fun e => ?_⟩
  rw [l, List.length_cons] at e
  have em : m = n := by omega
  by_cases ex : x' = x
  · subst ex
    exact gr_lex h k.pth k.last (by omega)
  · rw [lexB, if_neg ex]
    exact m2 em
/-- the nodes of a shortest chain are all unlike -/
theorem first_nodup : ∀ {c : List α}, Pth E c → (∃ y, c.getLast? = some y ∧ y ∈ G) → (∀ x r, c = x :: r → Dst E G x r.length) → c.Nodup ∧ ∀ x r, c = x :: r → ∀ z ∈ r, ∃ m, m < r.length ∧ Dst E G z m
  | [], _, _, _ => ⟨.nil, fun x r h => by cases h⟩
  | [x], _, _, _ => ⟨by simp, fun x' r h => by cases h; exact fun z hz => nomatch hz⟩
  | x :: y :: r, p, ⟨z, hz, hg⟩, hd => by
    have dx := hd x (y :: r) rfl
    rw [List.getLast?_cons_cons] at hz
    have ry := rch_of p.2 ⟨z, hz, hg⟩
    have dy : Dst E G y r.length := ⟨ry, fun m hm => by have := dx.2 (m + 1) ⟨y, p.1, hm⟩; rw [List.length_cons] at this; omega⟩
    obtain ⟨n1, n2⟩ := first_nodup p.2 ⟨z, hz, hg⟩ (fun x' r' h => by cases h; exact dy)
    have all : ∀ w ∈ y :: r, ∃ m, m < (y :: r).length ∧ Dst E G w m := fun w hw => by
      rcases List.mem_cons.mp hw with rfl | hw
      · exact ⟨r.length, by rw [List.length_cons]; omega, dy⟩
      · obtain ⟨m, hm, d⟩ := n2 y r rfl w hw
        exact ⟨m, by rw [List.length_cons]; omega, d⟩
    refine ⟨List.nodup_cons.mpr ⟨fun hx => ?_, n1⟩, fun x' r' h => by cases h; exact all⟩
    obtain ⟨m, hm, d⟩ := all x hx
    have := dx.2 m d.1
    omega
end
end BK
end
section
set_option maxHeartbeats 8000000
namespace K32
open PySem PyProof.Rows L2 Evl G OW BK TD
theorem keys_pair {A : Dkl} {G : List Str} {x : Str} (h : x ∈ (Tk G A).map (·.1)) : ∃ n, (x, n) ∈ Tk G A := by
  obtain ⟨p, hp, rfl⟩ := List.mem_map.mp h
  exact ⟨p.2, hp⟩
theorem val_of {E : List Ed} {G : List Str} {A : Dkl} (S : Stp E G A) {y : Str} {k : Nat} (h : Dst E G y k) : valV (dkv (Tk G A)) (Sum.inr y) = some (.int (k : Int)) := by
  obtain ⟨n, hn⟩ := keys_pair (S.keys.mpr ⟨k, h.1⟩)
  obtain ⟨d1, d2⟩ := S.dist hn
  have : n = k := Nat.le_antisymm (d2 k h.1) (h.2 n d1)
  rw [dkv_some S.nd hn, this]
theorem val_iff {E : List Ed} {G : List Str} {A : Dkl} (S : Stp E G A) {y : Str} {k : Nat} : ((valV (dkv (Tk G A)) (Sum.inr y)).getD .non = V.int (k : Int)) ↔ Dst E G y k := by
  constructor
  · intro h
    by_cases hy : y ∈ (Tk G A).map (·.1)
    · obtain ⟨n, hn⟩ := keys_pair hy
      rw [dkv_some S.nd hn] at h
      have : n = k := by
        have h : V.int (n : Int) = V.int (k : Int) := h
        injection h with h
        omega
      subst this
      exact S.dist hn
    · rw [dkv_none hy] at h
      cases h
  · intro h
    rw [val_of S h]; rfl
theorem eds_up {vs : List Vow} (h : srtV vs = vs) : (eds vs).Pairwise fun p q => p.1 = q.1 → sLt q.2 p.2 = false := by
  have up := srt_up ordV vs
  rw [show srt ltV vs = vs from h] at up
  unfold eds
  rw [List.pairwise_filterMap]
  refine up.imp fun {v w} hvw p hp q hq e => ?_
  cases v with
  | lead r lo hi => cases hp
  | quick a b =>
    cases w with
    | lead r lo hi => cases hq
    | quick c d =>
      cases hp
      cases hq
      have e : a = c := e
      subst e
      rw [ltV_q, if_pos rfl] at hvw
      exact hvw
theorem head_least {l : List Ed} (up : l.Pairwise fun p q => p.1 = q.1 → sLt q.2 p.2 = false) (irr : ∀ a : Str, sLt a a = false) {f : Ed → Bool} {p : Ed} {r : List Ed} (h : l.filter f = p :: r) : p ∈ l ∧ f p = true ∧ ∀ q ∈ l, f q = true → p.1 = q.1 → sLt q.2 p.2 = false := by
  have hp : p ∈ l.filter f := by rw [h]; exact List.mem_cons_self
  refine ⟨(List.mem_filter.mp hp).1, (List.mem_filter.mp hp).2, fun q hq fq e => ?_⟩
  have hq' : q ∈ l.filter f := List.mem_filter.mpr ⟨hq, fq⟩
  rw [h] at hq'
  have up' := up.filter f
  rw [h] at up'
  rcases List.mem_cons.mp hq' with rfl | hq'
  · exact irr _
  · exact (List.pairwise_cons.mp up').1 q hq' e
theorem sLt_irr (a : Str) : sLt a a = false := decide_eq_false (List.lt_irrefl _)
theorem prs_ns {H : Hp} : ∀ {us : List V} {rs : List NS}, DqAll H us (rs.map nsD) → ∃ L : List (NS × Addr), us = L.map (fun p => V.ref p.2) ∧ L.map (·.1) = rs ∧ ∀ p ∈ L, H p.2 = some (.tup (nsV p.1))
  | [], [], _ => ⟨[], rfl, rfl, fun _ h => nomatch h⟩
  | [], _ :: _, h => by cases h
  | _ :: _, [], h => by cases h
  | u :: us, r :: rs, h => by
    cases h with
    | cons h1 h2 =>
      obtain ⟨L, e1, e2, e3⟩ := prs_ns h2
      obtain ⟨i, x⟩ := r
      have h1 : Dq H u (.tuple [.int i, .str x]) := h1
      cases h1 with
      | @tup a _ _ ha k =>
        cases k with
        | cons k1 k => cases k with
          | cons k2 k =>
            cases k; cases k1; cases k2
            exact ⟨((i, x), a) :: L, by rw [e1]; rfl, by rw [← e2]; rfl, fun p hp => by
              rcases List.mem_cons.mp hp with rfl | hp
              · exact ha
              · exact e3 p hp⟩
theorem rch_path {E : List Ed} {G : List Str} : ∀ {n : Nat} {x : Str}, Rch E G n x → ∃ r, r.length = n ∧ Pth E (x :: r) ∧ ∃ y, (x :: r).getLast? = some y ∧ y ∈ G
  | 0, x, h => ⟨[], rfl, trivial, x, rfl, h⟩
  | n + 1, x, ⟨y, hy, h⟩ => by
    obtain ⟨r, h1, h2, z, h3, h4⟩ := rch_path h
    exact ⟨y :: r, by rw [List.length_cons, h1], ⟨hy, h2⟩, z, by rw [List.getLast?_cons_cons]; exact h3, h4⟩
theorem dst_small {E : List Ed} {G : List Str} (F : Fits E G) {x : Str} {n : Nat} (d : Dst E G x n) : n ≤ 7 := by
  obtain ⟨r, h1, h2, h3⟩ := rch_path d.1
  obtain ⟨nd, ds⟩ := first_nodup h2 h3 fun x' r' h => by cases h; rw [h1]; exact d
  have := sub_len (ys := ruleL) nd fun z hz => by
    rcases List.mem_cons.mp hz with rfl | hz
    · exact rch_rule F d.1
    · obtain ⟨m, _, dz⟩ := ds x r rfl z hz
      exact rch_rule F dz.1
  rw [show ruleL.length = 8 by decide +kernel, List.length_cons, h1] at this
  omega
def sp_chain (C : Addr) : Sp := fun as H Q _ => ∃ (p s g : Addr) (rs : List Rw) (vs : List Vow) (S G : List Str), as = [.ref p, .ref s, .ref g] ∧ BkAt H C p rs vs ∧ srtV vs = vs ∧ (∀ v ∈ vs, vwOk v) ∧ vs.length ≤ 12 ∧ H s = some (.lst (S.map V.str)) ∧ H g = some (.lst (G.map V.str)) ∧ (∀ x ∈ G, x ∈ ruleL) ∧ S.length ≤ 100 ∧ G.length ≤ 100 ∧ (∃ x ∈ S, ∃ m, Rch (eds vs) G m x) ∧
  ∀ q c H2, H q = none → Ex H H2 → H2 q = some (.lst (c.map V.str)) → IsFirst sLt (eds vs) S G c → Q (.ref q) H2
section
variable {P : Program} {w : World} {K : PySem.W.Frag} {mg : Str → Option Value} {base : Heap} {C : Addr} {σ : L2.St} {H : Hp} {te tl ta tb : TE} {i j : Nat} {a : Addr}
theorem ev_din {k : Key} {kvs : List (Key × V)} (hk : Ev ta σ H (kV k)) (h : Ev tb σ H (.ref a)) (hd : H a = some (.dK kvs)) : Ev (tDIn ta tb) σ H (.bl (valV kvs k).isSome) := fun H1 e Q q =>
  hk H1 e _ fun H2 e2 => h H2 (e.trans e2) _ fun H3 e3 => ⟨a, _, rfl, DGet.k (((e.trans e2).trans e3) a _ hd), q H3 (e2.trans e3)⟩
theorem ev_dget1 {k : Key} {kvs : List (Key × V)} (h : Ev ta σ H (.ref a)) (hk : Ev tb σ H (kV k)) (hd : H a = some (.dK kvs)) : Ev (tDGet1 ta tb) σ H ((valV kvs k).getD .non) := fun H1 e Q q =>
  h H1 e _ fun H2 e2 => ⟨a, rfl, .inl ⟨kvs, .inl ((e.trans e2) a _ hd)⟩, hk H2 (e.trans e2) _ fun H3 e3 => ⟨_, DGet.k (((e.trans e2).trans e3) a _ hd), q H3 (e2.trans e3)⟩⟩
theorem lqk {ds : List PyData} {Q : VK} (h : EvLq te σ H ds) (k : ∀ p us H1, H p = none → Ex H H1 → H1 p = some (.lst us) → DqAll H1 us ds → Q (.ref p) H1) : te σ H Q := h H (Ex.refl H) Q k
theorem ok_chain {f f1 f2 : Addr} {fd fd1 fd2 : FuncData} (F : Fun K "_shortest_chain" "_shortest_chain" s__shortest_chain f fd) (T : Txt P w K mg C) (c__steps_to : Cal P w K mg base "_steps_to" f1 fd1 ["goals", "quick"] 1 sp_steps) (c__quick : Cal P w K mg base "_quick" f2 fd2 ["book"] 3 (sp_quick C)) : FnOk P w K mg base CX0 4 f fd ["book", "starts", "goals"] (sp_chain C) := by
  refine F.ok sc__shortest_chain (fun vs H Q E h => ?_) (fun cdv A outer s H vs Q E hr h => ?_)
  · obtain ⟨p, s, g, rs, vs, S, G, rfl, _⟩ := h
    rfl
  · obtain ⟨p, s, g, rs, vs, S, G, rfl, b, srt0, ok, few, hs, hg, gr, lS, lG, some0, k⟩ := h
    have hu := hr.units
    refine ⟨_, (pss_cons (ps_set (i := 3) sc__shortest_chain.nd rfl (Or.inr rfl) (pe_call c__steps_to.ok (hr.mono (by decide)) (by rfl) c__steps_to.mgx c__steps_to.kp c__steps_to.bd .nil pass0 (pa_cons (pv 2) (pa_cons (pe_call c__quick.ok (hr.mono (by decide)) (by rfl) c__quick.mgx c__quick.kp c__quick.bd .nil pass0 (pa_cons (pv 0) pa_nil)) pa_nil)))) (pss_cons (ps_set (i := 4) sc__shortest_chain.nd rfl (Or.inr rfl) (pe_ix (ixT (K := K) rfl) (pe_callB (BK.cr_minP rfl hr.units) (by rfl) T.b_min (by decide +kernel) (pa_cons (pe_lc (own := [("start", 6)]) (g := (gName 6)) (by rfl) sc__shortest_chain.nd (piL (K := K) rfl (pv 1)) (blkOk_by (own := [("start", 6)]) (N := ["book", "starts", "goals", "steps", "rule", "chain", "start", "first", "other"]) (sc := defScope s__shortest_chain) (by decide +kernel)) (fun _ _ _ _ _ => (pg_name (i := 6) sc__shortest_chain.nd rfl (Or.inl rfl))) (fun _ _ _ _ _ => (pts_one (pt_cmp (pc_dinR hr.units (pv 6) (pv 3))))) (fun _ _ _ _ _ => (pe_tup (pa_cons (pe_dgetR hr.units (pv 3) (pv 6) (fun _ _ => rfl)) (pa_cons (pv 6) pa_nil))))) pa_nil)) pe_int (fun _ _ => rfl))) (pss_cons (ps_set (i := 5) sc__shortest_chain.nd rfl (Or.inl rfl) (pe_lst (pa_cons (pv 4) pa_nil))) (pss_cons (ps_while PassesOwn.never (pt_cmpR op_gt (pe_dgetR hr.units (pv 3) (pv 4) (fun _ _ => rfl)) pe_int (nomark _)) (pss_cons (ps_set (i := 4) sc__shortest_chain.nd rfl (Or.inr rfl) (pe_ix (ixL (K := K) rfl) (pe_lc (own := [("first", 7), ("other", 8)]) (g := (gTup K 2 (gCons (gName 7) (gCons (gName 8) gNil)))) (by rfl) sc__shortest_chain.nd (piL (K := K) rfl (pe_call c__quick.ok (hr.mono (by decide)) (by rfl) c__quick.mgx c__quick.kp c__quick.bd .nil pass0 (pa_cons (pv 0) pa_nil))) (blkOk_by (own := [("first", 7), ("other", 8)]) (N := ["book", "starts", "goals", "steps", "rule", "chain", "start", "first", "other"]) (sc := defScope s__shortest_chain) (by decide +kernel)) (fun _ _ _ _ _ => (pg_tup (by rfl) (pgs_cons (pg_name (i := 7) sc__shortest_chain.nd rfl (Or.inl rfl)) (pgs_cons (pg_name (i := 8) sc__shortest_chain.nd rfl (Or.inl rfl)) pgs_nil)))) (fun _ _ _ _ _ => (pts_one (PW.pt (pw_and (pt_cmpR op_eq (pv 7) (pv 4) (nomark _)) (pw_and1 (pt_cmpR op_eq (BK.pe_dget1R hr.units (pv 3) (pv 8) ⟨rfl, rfl, rfl, rfl⟩) (pe_op op_sub (pe_dgetR hr.units (pv 3) (pv 4) (fun _ _ => rfl)) pe_int) (nomark _))))))) (fun _ _ _ _ _ => (pv 8))) pe_int (fun _ _ => rfl))) (pss_one (ps_expr (pe_bm PySem.F.plainAttrs_list PySem.F.slot_list_append PySem.F.type_list_append mt_append (pv 5) (pa_cons (pv 4) pa_nil)))))) (pss_one (ps_ret (pv 5))))))), ?_⟩
    have le := eds_len vs
    have up := eds_up srt0
    refine asg_k (es_call (E := eds vs) (G := G) (esl_ref (ev_var rfl) hg (of_strs G)) (fun H2 e2 => esl_lq (lq_call (ea_cons (ev_var rfl) ea_nil) (spq_quick (b.mono e2) (by omega)))) (fun p hp => (eds_rule ok p hp).1) lG (by omega) H (Ex.refl H) _ fun D A' H1 nD e1 hD St => ?_)
    -- where to begin
    have isIn : ∀ x, (valV (dkv (Tk G A')) (Sum.inr x)).isSome = true ↔ ∃ m, Dst (eds vs) G x m := fun x => by
      constructor
      · intro h
        by_cases hy : x ∈ (Tk G A').map (·.1)
        · obtain ⟨n, hn⟩ := keys_pair hy
          exact ⟨n, St.dist hn⟩
        · rw [dkv_none hy] at h; cases h
      · rintro ⟨m, hm⟩
        rw [val_of St hm]; rfl
    let dn : Str → Int := fun x => match (valV (dkv (Tk G A')) (Sum.inr x)).getD .non with | .int n => n | _ => 0
    have dn_of : ∀ x m, Dst (eds vs) G x m → dn x = (m : Int) := fun x m hm => by
      show (match (valV (dkv (Tk G A')) (Sum.inr x)).getD .non with | .int n => n | _ => 0) = (m : Int)
      rw [val_of St hm]; rfl
    refine asg_k (op_k (cb_k (ac_k (lqk (lq_lc PyData.str (fun x => nsD (dn x, x)) (fun x => (valV (dkv (Tk G A')) (Sum.inr x)).isSome) (esl_ref (ev_var rfl) (e1 _ _ hs) (of_strs S)) (by omega) (fun _ => rfl) (fun _ _ => rfl) (fun x u H2 e2 _ d => ?_) (fun x u H2 e2 _ d hf => ?_)) fun l us H2 nl e2 h2 d2 => ac_nil ?_))))
    · cases d
      exact et_test (ev_din (k := Sum.inr x) (ev_var rfl) (ev_var rfl) (e2 _ _ hD))
    · cases d
      obtain ⟨m, hm⟩ := (isIn x).mp hf
      exact eq_tup (aq_cons (eq_of (ev_dget (k := Sum.inr x) (ev_var rfl) (ev_var rfl) (e2 _ _ hD) (val_of St hm)) fun _ _ => by rw [dn_of x m hm]; exact .int _) (aq_cons (eq_of (ev_var rfl) fun _ _ => .str x) aq_nil)) (by show 2 ≤ 100000; decide)
    · have d2' : DqAll H2 us (((S.filter fun x => (valV (dkv (Tk G A')) (Sum.inr x)).isSome).map fun x => ((dn x, x) : NS)).map nsD) := by rw [List.map_map]; exact d2
      obtain ⟨L, rfl, eL, hL⟩ := prs_ns d2'
      have memL : ∀ q : NS × Addr, q ∈ L → ∃ x ∈ S, (∃ m, Dst (eds vs) G x m) ∧ q.1 = (dn x, x) := fun q hq => by
        have : q.1 ∈ L.map (·.1) := List.mem_map.mpr ⟨q, hq, rfl⟩
        rw [eL] at this
        obtain ⟨x, hx, e⟩ := List.mem_map.mp this
        exact ⟨x, (List.mem_filter.mp hx).1, (isIn x).mp (List.mem_filter.mp hx).2, e.symm⟩
      have inL : ∀ x ∈ S, (∃ m, Dst (eds vs) G x m) → ∃ q ∈ L, q.1 = (dn x, x) := fun x hx hm => by
        have : ((dn x, x) : NS) ∈ L.map (·.1) := by
          rw [eL]
          exact List.mem_map.mpr ⟨x, List.mem_filter.mpr ⟨hx, (isIn x).mpr hm⟩, rfl⟩
        obtain ⟨q, hq, e⟩ := List.mem_map.mp this
        exact ⟨q, hq, e⟩
      have neL : L ≠ [] := fun z => by
        obtain ⟨x, hx, m, hm⟩ := some0
        obtain ⟨m', _, dm⟩ := dst_ex hm
        obtain ⟨q, hq, _⟩ := inL x hx ⟨m', dm⟩
        rw [z] at hq; cases hq
      refine ⟨l, L, rfl, sq_of h2, fun q hq => st_of (hL q hq), neL, fun q hq least => ⟨q.2, nsV q.1, 1, .str q.1.2, rfl, rfl, st_of (hL q hq), rfl, ?_⟩⟩
      obtain ⟨x0, hx0, ⟨n0, d0⟩, eq0⟩ := memL q hq
      have mn : ∀ z ∈ S, ∀ m, Dst (eds vs) G z m → n0 ≤ m ∧ (m = n0 → sLt z x0 = false) := fun z hz m dm => by
        obtain ⟨q', hq', e'⟩ := inL z hz ⟨m, dm⟩
        have := least q' hq'
        rw [e', eq0, dn_of z m dm, dn_of x0 n0 d0] at this
        rcases ltN_no.mp this with h | ⟨h, h'⟩
        · have h : (n0 : Int) < (m : Int) := h
          exact ⟨by omega, fun e => by omega⟩
        · have h : (n0 : Int) = (m : Int) := h
          exact ⟨by omega, fun _ => h'⟩
      rw [eq0]
      have e12 := e1.trans e2
      refine q_asgL (xs := [V.str x0]) (el_lst (ea_cons (ev_var rfl) ea_nil) (by show 1 ≤ 100000; decide)) fun ch H3 nch e3 hch => ?_
      have nch1 := fresh_back e2 nch
      refine q_while (fun m σ' H' => ∃ (x : Str) (pre : List Str) (x6 x7 x8 : Option V), σ' = [some (.ref p), some (.ref s), some (.ref g), some (.ref D), some (.str x), some (.ref ch), x6, x7, x8] ∧ Ex H1 H' ∧ H' ch = some (.lst ((pre ++ [x]).map V.str)) ∧ pre.length + m = n0 ∧ Dst (eds vs) G x m ∧ (∃ r, pre ++ [x] = x0 :: r) ∧ ∀ t, Gr sLt (eds vs) G (x :: t) m → Gr sLt (eds vs) G (pre ++ x :: t) n0)
        n0 ⟨x0, [], _, _, _, rfl, e2.trans e3, hch, by simp, d0, ⟨[], rfl⟩, fun t h => h⟩ fun m σ' H' pv => ?_
      obtain ⟨x, pre, x6, x7, x8, rfl, ex, hc', hlen, dx, hhead, hgr⟩ := pv
      refine ⟨decide ((m : Int) > 0), et_test (ev_op (ev_dget (k := Sum.inr x) (ev_var rfl) (ev_var rfl) (ex _ _ hD) (val_of St dx)) ev_c rv_I0), fun yes H4 e4 => ?_, fun no H4 e4 => ?_⟩
      · have hm : 0 < m := by have := of_decide_eq_true yes; omega
        obtain ⟨m', rfl⟩ : ∃ m', m = m' + 1 := ⟨m - 1, by omega⟩
        have ex4 := ex.trans e4
        refine ⟨fun σ2 H5 => ∃ (x : Str) (pre : List Str) (x6 x7 x8 : Option V), σ2 = [some (.ref p), some (.ref s), some (.ref g), some (.ref D), some (.str x), some (.ref ch), x6, x7, x8] ∧ Ex H1 H5 ∧ H5 ch = some (.lst ((pre ++ [x]).map V.str)) ∧ pre.length + m' = n0 ∧ Dst (eds vs) G x m' ∧ (∃ r, pre ++ [x] = x0 :: r) ∧ ∀ t, Gr sLt (eds vs) G (x :: t) m' → Gr sLt (eds vs) G (pre ++ x :: t) n0, fun σ2 H5 h => ⟨m', Nat.lt_succ_self _, h⟩, ?_⟩
        refine asg_k (op_k (lqk (lq_lcP (fun q => .str q.2) (fun q => decide (q.1 = x) && decide ((valV (dkv (Tk G A')) (Sum.inr q.2)).getD .non = V.int (m' : Int))) (esl_lq (lq_call (ea_cons (ev_var rfl) ea_nil) (spq_quick (b.mono (e1.trans ex4)) (by omega)))) (by omega) (fun _ _ => rfl) (fun _ => rfl) (fun q H5 e5 _ => ?_) (fun q H5 e5 _ _ => eq_of (ev_var rfl) fun _ _ => .str _)) fun l2 us2 H5 nl2 e5 h5 d5 => ?_))
        · refine et_and (et_is (et_test (ev_op (ev_var rfl) (ev_var rfl) (rv_eq rfl))) (by simp)) fun _ => et_test (ev_op (ev_dget1 (k := Sum.inr q.2) (ev_var rfl) (ev_var rfl) ((ex4.trans e5) _ _ hD)) (ev_is (ev_op (ev_dget (k := Sum.inr x) (ev_var rfl) (ev_var rfl) ((ex4.trans e5) _ _ hD) (val_of St dx)) ev_c rv_I0) (congrArg V.int (by omega))) (rv_eq ?_))
          cases h : valV (dkv (Tk G A')) (Sum.inr q.2) with
          | none => rfl
          | some v =>
            by_cases hy : q.2 ∈ (Tk G A').map (·.1)
            · obtain ⟨n, hn⟩ := keys_pair hy
              rw [dkv_some St.nd hn] at h
              cases h
              rfl
            · rw [dkv_none hy] at h; cases h
        · obtain ⟨y', hy', ry'⟩ := dx.1
          have dy' : Dst (eds vs) G y' m' := ⟨ry', fun j hj => by have := dx.2 (j + 1) ⟨y', hy', hj⟩; omega⟩
          have good : ∀ z, (x, z) ∈ eds vs → Dst (eds vs) G z m' → (decide ((x, z).1 = x) && decide ((valV (dkv (Tk G A')) (Sum.inr (x, z).2)).getD .non = V.int (m' : Int))) = true := fun z _ dz => by
            rw [decide_eq_true (show (x, z).1 = x from rfl), decide_eq_true ((val_iff St).mpr dz)]; rfl
          cases hfl : (eds vs).filter (fun q => decide (q.1 = x) && decide ((valV (dkv (Tk G A')) (Sum.inr q.2)).getD .non = V.int (m' : Int))) with
          | nil =>
            have : (x, y') ∈ (eds vs).filter (fun q => decide (q.1 = x) && decide ((valV (dkv (Tk G A')) (Sum.inr q.2)).getD .non = V.int (m' : Int))) := List.mem_filter.mpr ⟨hy', good y' hy' dy'⟩
            rw [hfl] at this
            cases this
          | cons p0 rest =>
            obtain ⟨q1, q2, q3⟩ := head_least up sLt_irr hfl
            rw [hfl] at d5
            obtain ⟨px, y⟩ := p0
            rw [Bool.and_eq_true] at q2
            have epx : px = x := of_decide_eq_true q2.1
            subst epx
            have dy : Dst (eds vs) G y m' := (val_iff St).mp (of_decide_eq_true q2.2)
            have eus : us2 = V.str y :: (rest.map fun q => V.str q.2) := by
              have : ((px, y) :: rest).map (fun q : Ed => PyData.str q.2) = (y :: rest.map (·.2)).map PyData.str := by rw [List.map_cons, List.map_cons, List.map_map]; rfl
              rw [this] at d5
              rw [strs_of d5, List.map_cons, List.map_map]; rfl
            subst eus
            refine ⟨l2, _, 0, V.str y, rfl, rfl, sq_of h5, atI_nat (j := 0) rfl, ?_⟩
            have lp : n0 ≤ 7 := dst_small ⟨fun p hp => (eds_rule ok p hp).1, gr⟩ d0
            refine s_app (l := ch) (xs := (pre ++ [px]).map V.str) (e5 _ _ (e4 _ _ hc')) (ev_var rfl) (ev_var rfl) (by rw [List.length_map, List.length_append, List.length_singleton]; omega) fun H6 e6 => ?_
            obtain ⟨r0, er⟩ := hhead
            refine ⟨y, pre ++ [px], _, _, _, rfl, (ex4.trans (e5.trans e6)).mut nch1, by rw [upd_same, List.map_append (l₁ := pre ++ [px])]; rfl, by rw [List.length_append, List.length_singleton]; omega, dy, ⟨r0 ++ [y], by rw [er]; rfl⟩, fun t ht => ?_⟩
            have := hgr (y :: t) ⟨dx, q1, dy, fun z hz dz => q3 (px, z) hz (good z hz dz) rfl, ht⟩
            rw [List.append_assoc]
            exact this
      · have hm : m = 0 := by have := of_decide_eq_false no; omega
        subst hm
        have gr0 := hgr [] dx
        obtain ⟨r0, er⟩ := hhead
        refine s_ret (ev_var rfl) fun H5 e5 => ?_
        have fst := gr_first (lt := sLt) (by rw [er] at gr0; exact gr0) hx0 mn
        exact k ch (x0 :: r0) H5 (fresh_back e1 nch1) (e1.trans (ex.trans (e4.trans e5))) (by rw [← er]; exact (e4.trans e5) _ _ hc') fst
end
end K32
end
section
set_option maxHeartbeats 4000000
namespace K32
open PySem PyProof.Rows L2 Evl G OW BK TD
theorem fold_max : ∀ (r : List Int) (n : Int), r.foldl max n ∈ n :: r ∧ ∀ y ∈ n :: r, y ≤ r.foldl max n
  | [], n => ⟨List.mem_cons_self, fun y hy => by rw [List.mem_singleton.mp hy]; exact Int.le_refl _⟩
  | k :: r, n => by
    obtain ⟨h1, h2⟩ := fold_max r (max n k)
    rw [List.foldl_cons]
    have hm := h2 _ List.mem_cons_self
    refine ⟨?_, fun y hy => ?_⟩
    · rcases List.mem_cons.mp h1 with q | q
      · rw [q]
        rcases Int.le_total n k with c | c
        · rw [Int.max_eq_right c]; exact List.mem_cons_of_mem _ List.mem_cons_self
        · rw [Int.max_eq_left c]; exact List.mem_cons_self
      · exact List.mem_cons_of_mem _ (List.mem_cons_of_mem _ q)
    · rcases List.mem_cons.mp hy with rfl | hy
      · exact Int.le_trans (Int.le_max_left _ _) hm
      · rcases List.mem_cons.mp hy with rfl | hy
        · exact Int.le_trans (Int.le_max_right _ _) hm
        · exact h2 y (List.mem_cons_of_mem _ hy)
theorem fold_min : ∀ (r : List Int) (n : Int), r.foldl min n ∈ n :: r ∧ ∀ y ∈ n :: r, r.foldl min n ≤ y
  | [], n => ⟨List.mem_cons_self, fun y hy => by rw [List.mem_singleton.mp hy]; exact Int.le_refl _⟩
  | k :: r, n => by
    obtain ⟨h1, h2⟩ := fold_min r (min n k)
    rw [List.foldl_cons]
    have hm := h2 _ List.mem_cons_self
    refine ⟨?_, fun y hy => ?_⟩
    · rcases List.mem_cons.mp h1 with q | q
      · rw [q]
        rcases Int.le_total n k with c | c
        · rw [Int.min_eq_left c]; exact List.mem_cons_self
        · rw [Int.min_eq_right c]; exact List.mem_cons_of_mem _ List.mem_cons_self
      · exact List.mem_cons_of_mem _ (List.mem_cons_of_mem _ q)
    · rcases List.mem_cons.mp hy with rfl | hy
      · exact Int.le_trans hm (Int.min_le_left _ _)
      · rcases List.mem_cons.mp hy with rfl | hy
        · exact Int.le_trans hm (Int.min_le_right _ _)
        · exact h2 y (List.mem_cons_of_mem _ hy)
theorem mx_mem {ns : List Int} {n : Int} (h : mxN .non ns = .int n) : n ∈ ns ∧ ∀ y ∈ ns, y ≤ n := by
  cases ns with
  | nil => cases h
  | cons k r =>
    have h : V.int (r.foldl max k) = .int n := h
    injection h with h
    subst h
    exact fold_max r k
theorem mn_mem {ns : List Int} {n : Int} (h : mnN .non ns = .int n) : n ∈ ns ∧ ∀ y ∈ ns, n ≤ y := by
  cases ns with
  | nil => cases h
  | cons k r =>
    have h : V.int (r.foldl min k) = .int n := h
    injection h with h
    subst h
    exact fold_min r k
theorem mem_bnds {o : Vow → Option Int} {vs : List Vow} {U : List Str} {n : Int} : n ∈ bnds o vs U ↔ ∃ v ∈ vs, isL v = true ∧ vwR v ∈ U ∧ o v = some n := by
  unfold bnds
  simp only [List.mem_map, List.mem_filter, Bool.and_eq_true, decide_eq_true_eq]
  constructor
  · rintro ⟨v, ⟨⟨h1, h2⟩, h3, h4⟩, h5⟩
    refine ⟨v, h1, h2, h3, ?_⟩
    cases e : o v with
    | none => rw [e] at h4; cases h4
    | some k => rw [e] at h5; rw [← h5]; rfl
  · rintro ⟨v, h1, h2, h3, h4⟩
    exact ⟨v, ⟨⟨h1, h2⟩, h3, by rw [h4]; rfl⟩, by rw [h4]; rfl⟩
theorem rch_snoc {E : List Ed} {x y : Str} (h : (y, x) ∈ E) : ∀ {m : Nat} {r : Str}, Rch E [y] m r → Rch E [x] (m + 1) r
  | 0, r, k => ⟨x, by rw [List.mem_singleton.mp k]; exact h, List.mem_singleton.mpr rfl⟩
  | m + 1, r, ⟨z, hz, k⟩ => ⟨z, hz, rch_snoc h k⟩
theorem rch_rev {E : List Ed} {r : Str} : ∀ {m : Nat} {x : Str}, Rch (bk E) [r] m x → Rch E [x] m r
  | 0, x, h => by rw [List.mem_singleton.mp h]; exact List.mem_singleton.mpr rfl
  | m + 1, x, ⟨y, hy, h⟩ => by
    obtain ⟨⟨a, c⟩, hp, e⟩ := List.mem_map.mp hy
    cases e
    exact rch_snoc hp (rch_rev h)
theorem rch_more {E : List Ed} {G G' : List Str} (h : ∀ x ∈ G, x ∈ G') : ∀ {m : Nat} {x : Str}, Rch E G m x → Rch E G' m x
  | 0, x, k => h x k
  | m + 1, x, ⟨y, hy, k⟩ => ⟨y, hy, rch_more h k⟩
/-- the leads whose bound is n -/
def withB (o : Vow → Option Int) (vs : List Vow) (n : Int) : List Str := ((vs.filter isL).filter fun v => decide (o v = some n)).map vwR
theorem mem_withB {o : Vow → Option Int} {vs : List Vow} {n : Int} {x : Str} : x ∈ withB o vs n ↔ ∃ v ∈ vs, isL v = true ∧ o v = some n ∧ vwR v = x := by
  unfold withB
  simp only [List.mem_map, List.mem_filter, decide_eq_true_eq]
  constructor
  · rintro ⟨v, ⟨⟨h1, h2⟩, h3⟩, h4⟩; exact ⟨v, h1, h2, h3, h4⟩
  · rintro ⟨v, h1, h2, h3, h4⟩; exact ⟨v, ⟨⟨h1, h2⟩, h3⟩, h4⟩
theorem withB_ok {o : Vow → Option Int} {vs : List Vow} (h : ∀ v ∈ vs, vwOk v) {n : Int} : ∀ x ∈ withB o vs n, x ∈ ruleL := fun x hx => by
  obtain ⟨v, hv, _, _, rfl⟩ := mem_withB.mp hx
  cases v <;> exact (h _ hv).1
theorem withB_len (o : Vow → Option Int) (vs : List Vow) (n : Int) : (withB o vs n).length ≤ vs.length := by
  unfold withB
  rw [List.length_map]
  exact Nat.le_trans (List.length_filter_le _ _) (List.length_filter_le _ _)
/-- None, or the first of the shortest chains -/
def RetC (E : List Ed) (v : V) (S G : Int → List Str) (H : Hp) (Q : VK) : Prop := (v = .non → RetV .non H Q) ∧ ∀ n, v = .int n → ∀ q c H2, H q = none → Ex H H2 → H2 q = some (.lst (c.map V.str)) → IsFirst sLt E (S n) (G n) c → Q (.ref q) H2
noncomputable def sp_low_chain (C : Addr) : Sp := fun as H Q _ => ∃ (p : Addr) (rs : List Rw) (vs : List Vow) (r : Str), as = [.ref p, .str r] ∧ BkAt H C p rs vs ∧ srtV vs = vs ∧ (∀ v ∈ vs, vwOk v) ∧ vs.length ≤ 12 ∧ r ∈ ruleL ∧ RetC (eds vs) (lowV vs r) (withB loO vs) (fun _ => [r]) H Q
noncomputable def sp_high_chain (C : Addr) : Sp := fun as H Q _ => ∃ (p : Addr) (rs : List Rw) (vs : List Vow) (r : Str), as = [.ref p, .str r] ∧ BkAt H C p rs vs ∧ srtV vs = vs ∧ (∀ v ∈ vs, vwOk v) ∧ vs.length ≤ 12 ∧ r ∈ ruleL ∧ RetC (eds vs) (highV vs r) (fun _ => [r]) (withB hiO vs) H Q
section
variable {P : Program} {w : World} {K : PySem.W.Frag} {mg : Str → Option Value} {base : Heap} {C : Addr}
theorem ev_isN {σ : L2.St} {H : Hp} {ta : TE} {v : V} (h : Ev ta σ H v) : Ev (tOp (fun x y H Q => y = V.non ∧ Q (V.bl (decide (x = V.non))) H) ta (tC .non)) σ H (.bl (decide (v = .non))) := ev_op h ev_c fun H1 e Q q => ⟨rfl, q H1 (Ex.refl _)⟩
theorem eq_oV (o : Option Int) (n : Int) : decide (oV o = V.int n) = decide (o = some n) := by cases o <;> simp [oV]
theorem ok_low_chain {f f1 f2 f3 : Addr} {fd fd1 fd2 fd3 : FuncData} (F : Fun K "low_chain" "low_chain" s_low_chain f fd) (T : Txt P w K mg C) (c_low : Cal P w K mg base "low" f1 fd1 ["book", "rule"] 5 (sp_low C)) (c__leads : Cal P w K mg base "_leads" f2 fd2 ["book"] 3 (sp_leads C)) (c__shortest_chain : Cal P w K mg base "_shortest_chain" f3 fd3 ["book", "starts", "goals"] 4 (sp_chain C)) :
    FnOk P w K mg base CX0 6 f fd ["book", "rule"] (sp_low_chain C) := by
  refine F.ok sc_low_chain (fun vs H Q E h => ?_) (fun cdv A outer s H vs Q E hr h => ?_)
  · obtain ⟨p, rs, vs, r, rfl, _⟩ := h
    rfl
  · obtain ⟨p, rs, vs, r, rfl, b, srt0, ok, few, hr', k⟩ := h
    refine ⟨_, (pss_cons (ps_set (i := 2) sc_low_chain.nd rfl (Or.inr rfl) (pe_call c_low.ok (hr.mono (by decide)) (by rfl) c_low.mgx c_low.kp c_low.bd .nil pass0 (pa_cons (pv 0) (pa_cons (pv 1) pa_nil)))) (pss_cons (ps_if (pt_cmpR op_isN (pv 2) pe_non (nomark _)) (pss_one (ps_ret pe_non)) pss_nil) (pss_one (ps_ret (pe_call c__shortest_chain.ok (hr.mono (by decide)) (by rfl) c__shortest_chain.mgx c__shortest_chain.kp c__shortest_chain.bd .nil pass0 (pa_cons (pv 0) (pa_cons (pe_lc (own := [("lead", 3)]) (g := (gName 3)) (by rfl) sc_low_chain.nd (piL (K := K) rfl (pe_call c__leads.ok (hr.mono (by decide)) (by rfl) c__leads.mgx c__leads.kp c__leads.bd .nil pass0 (pa_cons (pv 0) pa_nil))) (blkOk_by (own := [("lead", 3)]) (N := ["book", "rule", "least", "lead"]) (sc := defScope s_low_chain) (by decide +kernel)) (fun _ _ _ _ _ => (pg_name (i := 3) sc_low_chain.nd rfl (Or.inl rfl))) (fun _ _ _ _ _ => (pts_one (pt_cmpR op_eq (pe_ix (ixT (K := K) rfl) (pv 3) pe_int (fun _ _ => rfl)) (pv 2) (nomark _)))) (fun _ _ _ _ _ => (pe_ix (ixT (K := K) rfl) (pv 3) pe_int (fun _ _ => rfl)))) (pa_cons (pe_lst (pa_cons (pv 1) pa_nil)) pa_nil)))))))), ?_⟩
    refine q_asg (ev_ask (ev_var rfl) (ev_var rfl) b ok few hr') fun H1 e1 => ?_
    obtain ⟨k1, k2⟩ := k
    have dec : lowV vs r = .non ∨ ∃ n, lowV vs r = .int n := mx_is _
    rcases dec with h | ⟨n, h⟩
    · refine q_when (b := true) (et_is (et_test (ev_isN (ev_var rfl))) (by simpa using h)) (fun _ H2 e2 => s_ret ev_c fun H3 e3 => k1 h H3 ((e1.trans e2).trans e3)) (fun q => nomatch q)
    · refine q_when (b := false) (et_is (et_test (ev_isN (ev_var rfl))) (by rw [h]; rfl)) (fun q => nomatch q) fun _ H2 e2 => ?_
      have e12 := e1.trans e2
      have ll := withB_len loO vs n
      refine ret_k (call_k (ac_v (ev_var rfl) fun H3 e3 => ac_k (lqk (lq_lc vwD (fun v => .str (vwR v)) (fun v => decide (loO v = some n)) (esl_lq (lq_call (ea_cons (ev_var rfl) ea_nil) (spq_leads (b.mono (e12.trans e3)) (by omega)))) (by have := List.length_filter_le isL vs; omega) (fun _ => rfl) (fun _ _ => rfl) (fun v u H4 e4 hv d => ?_) (fun v u H4 e4 hv d _ => eq_of (ev_vw1 (ev_var rfl) d) fun _ _ => .str _)) fun l us H4 nl e4 h4 d4 =>
        ac_k (lst_k (ac_v (ev_var rfl) fun H5 e5 => ac_nil ⟨sz_of (show 1 ≤ 100000 by decide), fun l2 nl2 => ac_nil ?_⟩)))))
      · cases v with
        | quick a c => cases (List.mem_filter.mp hv).2
        | lead a lo hi =>
          obtain ⟨va, rfl, hva⟩ := vw_of d
          exact et_is (et_test (ev_op (ev_at2 (ev_var rfl) hva) (ev_is (ev_var rfl) h) (rv_eq (by cases lo <;> rfl)))) (eq_oV lo n)
      · have dS : DqAll H4 us ((withB loO vs n).map PyData.str) := by unfold withB; rw [List.map_map]; exact d4
        have eN := Ex.new (H := H5) (o := .lst [V.str r]) nl2
        have e45 := (e4.trans e5).trans eN
        obtain ⟨m1, _⟩ := mx_mem h
        obtain ⟨v, v1, v2, v3, v4⟩ := mem_bnds.mp m1
        refine ⟨p, l, l2, rs, vs, withB loO vs n, [r], rfl, b.mono ((e12.trans e3).trans e45), srt0, ok, few, by rw [(e5.trans eN) _ _ h4, strs_of dS], upd_same, fun x hx => by rw [List.mem_singleton.mp hx]; exact hr', by omega, by show 1 ≤ 100; decide, ⟨vwR v, mem_withB.mpr ⟨v, v1, v2, v4, rfl⟩, (mem_rchL (fitU ok hr')).mp v3⟩, fun q c H6 hq e6 h6 ff => k2 n h q c H6 (fresh_back ((e12.trans e3).trans e45) hq) (((e12.trans e3).trans e45).trans e6) h6 ff⟩
theorem ok_high_chain {f f1 f2 f3 : Addr} {fd fd1 fd2 fd3 : FuncData} (F : Fun K "high_chain" "high_chain" s_high_chain f fd) (T : Txt P w K mg C) (c_high : Cal P w K mg base "high" f1 fd1 ["book", "rule"] 5 (sp_high C)) (c__leads : Cal P w K mg base "_leads" f2 fd2 ["book"] 3 (sp_leads C)) (c__shortest_chain : Cal P w K mg base "_shortest_chain" f3 fd3 ["book", "starts", "goals"] 4 (sp_chain C)) :
    FnOk P w K mg base CX0 6 f fd ["book", "rule"] (sp_high_chain C) := by
  refine F.ok sc_high_chain (fun vs H Q E h => ?_) (fun cdv A outer s H vs Q E hr h => ?_)
  · obtain ⟨p, rs, vs, r, rfl, _⟩ := h
    rfl
  · obtain ⟨p, rs, vs, r, rfl, b, srt0, ok, few, hr', k⟩ := h
    refine ⟨_, (pss_cons (ps_set (i := 2) sc_high_chain.nd rfl (Or.inr rfl) (pe_call c_high.ok (hr.mono (by decide)) (by rfl) c_high.mgx c_high.kp c_high.bd .nil pass0 (pa_cons (pv 0) (pa_cons (pv 1) pa_nil)))) (pss_cons (ps_if (pt_cmpR op_isN (pv 2) pe_non (nomark _)) (pss_one (ps_ret pe_non)) pss_nil) (pss_one (ps_ret (pe_call c__shortest_chain.ok (hr.mono (by decide)) (by rfl) c__shortest_chain.mgx c__shortest_chain.kp c__shortest_chain.bd .nil pass0 (pa_cons (pv 0) (pa_cons (pe_lst (pa_cons (pv 1) pa_nil)) (pa_cons (pe_lc (own := [("lead", 3)]) (g := (gName 3)) (by rfl) sc_high_chain.nd (piL (K := K) rfl (pe_call c__leads.ok (hr.mono (by decide)) (by rfl) c__leads.mgx c__leads.kp c__leads.bd .nil pass0 (pa_cons (pv 0) pa_nil))) (blkOk_by (own := [("lead", 3)]) (N := ["book", "rule", "most", "lead"]) (sc := defScope s_high_chain) (by decide +kernel)) (fun _ _ _ _ _ => (pg_name (i := 3) sc_high_chain.nd rfl (Or.inl rfl))) (fun _ _ _ _ _ => (pts_one (pt_cmpR op_eq (pe_ix (ixT (K := K) rfl) (pv 3) pe_int (fun _ _ => rfl)) (pv 2) (nomark _)))) (fun _ _ _ _ _ => (pe_ix (ixT (K := K) rfl) (pv 3) pe_int (fun _ _ => rfl)))) pa_nil)))))))), ?_⟩
    refine q_asg (ev_ask (ev_var rfl) (ev_var rfl) b ok few hr') fun H1 e1 => ?_
    obtain ⟨k1, k2⟩ := k
    have dec : highV vs r = .non ∨ ∃ n, highV vs r = .int n := mn_is _
    rcases dec with h | ⟨n, h⟩
    · refine q_when (b := true) (et_is (et_test (ev_isN (ev_var rfl))) (by simpa using h)) (fun _ H2 e2 => s_ret ev_c fun H3 e3 => k1 h H3 ((e1.trans e2).trans e3)) (fun q => nomatch q)
    · refine q_when (b := false) (et_is (et_test (ev_isN (ev_var rfl))) (by rw [h]; rfl)) (fun q => nomatch q) fun _ H2 e2 => ?_
      have e12 := e1.trans e2
      have ll := withB_len hiO vs n
      refine ret_k (call_k (ac_v (ev_var rfl) fun H3 e3 => ac_k (lst_k (ac_v (ev_var rfl) fun H5 e5 => ac_nil ⟨sz_of (show 1 ≤ 100000 by decide), fun l2 nl2 =>
        ac_k (lqk (lq_lc vwD (fun v => .str (vwR v)) (fun v => decide (hiO v = some n)) (esl_lq (lq_call (ea_cons (ev_var rfl) ea_nil) (spq_leads ((b.mono ((e12.trans e3).trans e5)).mono (Ex.new nl2)) (by omega)))) (by have := List.length_filter_le isL vs; omega) (fun _ => rfl) (fun _ _ => rfl) (fun v u H4 e4 hv d => ?_) (fun v u H4 e4 hv d _ => eq_of (ev_vw1 (ev_var rfl) d) fun _ _ => .str _)) fun l us H4 nl e4 h4 d4 => ac_nil ?_)⟩))))
      · cases v with
        | quick a c => cases (List.mem_filter.mp hv).2
        | lead a lo hi =>
          obtain ⟨va, rfl, hva⟩ := vw_of d
          exact et_is (et_test (ev_op (ev_op (ev_var rfl) ev_c (rv_ixT (st_of hva) (atI_nat (j := 3) rfl))) (ev_is (ev_var rfl) h) (rv_eq (by cases hi <;> rfl)))) (eq_oV hi n)
      · have dS : DqAll H4 us ((withB hiO vs n).map PyData.str) := by unfold withB; rw [List.map_map]; exact d4
        have eN := Ex.new (H := H5) (o := .lst [V.str r]) nl2
        have e45 := ((e3.trans e5).trans eN).trans e4
        obtain ⟨m1, _⟩ := mn_mem h
        obtain ⟨v, v1, v2, v3, v4⟩ := mem_bnds.mp m1
        obtain ⟨m, hm⟩ := (mem_rchL (fitO ok hr')).mp v3
        refine ⟨p, l2, l, rs, vs, [r], withB hiO vs n, rfl, b.mono (e12.trans e45), srt0, ok, few, e4 _ _ upd_same, by rw [h4, strs_of dS], withB_ok ok, by show 1 ≤ 100; decide, by omega, ⟨r, List.mem_singleton.mpr rfl, m, rch_more (fun x hx => by rw [List.mem_singleton.mp hx]; exact mem_withB.mpr ⟨v, v1, v2, v4, rfl⟩) (rch_rev hm)⟩, fun q c H6 hq e6 h6 ff => k2 n h q c H6 (fresh_back (e12.trans e45) hq) ((e12.trans e45).trans e6) h6 ff⟩
end
end K32
end
section
set_option maxHeartbeats 4000000
namespace K32
open PySem PyProof.Rows L2 Evl G OW BK TD
/-! ### the law: what stands beneath, above -/
def pr (E : List Ed) (ks : List Str) : List Str := (E.filter fun p => decide (p.2 ∈ ks)).map (·.1)
theorem mem_pr {E : List Ed} {ks : List Str} {x : Str} : x ∈ pr E ks ↔ ∃ y, (x, y) ∈ E ∧ y ∈ ks := by
  unfold pr
  simp only [List.mem_map, List.mem_filter, decide_eq_true_eq]
  constructor
  · rintro ⟨⟨a, b⟩, ⟨h1, h2⟩, rfl⟩; exact ⟨b, h1, h2⟩
  · rintro ⟨y, h1, h2⟩; exact ⟨(x, y), ⟨h1, h2⟩, rfl⟩
theorem pr_len (E : List Ed) (ks : List Str) : (pr E ks).length ≤ E.length := by
  unfold pr
  rw [List.length_map]
  exact List.length_filter_le _ _
theorem pr_step {E : List Ed} {G ks : List Str} {i : Nat} (h : ∀ x, x ∈ ks ↔ ∃ m, m ≤ i ∧ Rch E G m x) (x : Str) : x ∈ ks ++ pr E ks ↔ ∃ m, m ≤ i + 1 ∧ Rch E G m x := by
  rw [List.mem_append, h x, mem_pr]
  constructor
  · rintro (⟨m, hm, r⟩ | ⟨y, hy, k⟩)
    · exact ⟨m, by omega, r⟩
    · obtain ⟨m, hm, r⟩ := (h y).mp k
      exact ⟨m + 1, by omega, y, hy, r⟩
  · rintro ⟨m, hm, r⟩
    cases m with
    | zero => exact .inl ⟨0, by omega, r⟩
    | succ m =>
      obtain ⟨y, hy, r⟩ := r
      exact .inr ⟨y, hy, (h y).mpr ⟨m, by omega, r⟩⟩
/-- eight rounds tell all -/
theorem pr_all {E : List Ed} {G ks zs : List Str} (F : Fits E G) (h : ∀ x, x ∈ ks ↔ ∃ m, m ≤ 8 ∧ Rch E G m x) (e : ks = nrm zs) : ks = rchL E G := by
  rw [e]
  refine nrm_eq ⟨(nrm_is _).1, (nrm_is _).2.1, fun x => ?_⟩
  rw [← mem_nrm (xs := zs), ← e, h x, mem_rchL F]
  constructor
  · rintro ⟨m, hm⟩
    obtain ⟨j, _, d⟩ := dst_ex hm
    exact ⟨j, by have := dst_small F d; omega, d.1⟩
  · rintro ⟨m, _, hm⟩; exact ⟨m, hm⟩
theorem under_eq (ks : List Str) : ∀ vs : List Vow, ((vs.filter fun v => isQ' v && decide (vwX v ∈ ks)).map fun v => PyData.str (vwR v)) = (pr (eds vs) ks).map PyData.str
  | [] => rfl
  | .quick a b :: vs => by
    have e : eds (.quick a b :: vs) = (a, b) :: eds vs := rfl
    have ih := under_eq ks vs
    unfold pr at ih ⊢
    rw [e, List.filter_cons, List.filter_cons]
    have c : (isQ' (.quick a b) && decide (vwX (.quick a b) ∈ ks)) = decide ((a, b).2 ∈ ks) := rfl
    rw [c]
    cases decide ((a, b).2 ∈ ks) with
    | true => rw [if_pos rfl, if_pos rfl, List.map_cons, List.map_cons, List.map_cons, ih]; rfl
    | false => rw [if_neg Bool.false_ne_true, if_neg Bool.false_ne_true, ih]
  | .lead r lo hi :: vs => by
    have e : eds (.lead r lo hi :: vs) = eds vs := rfl
    rw [e, List.filter_cons, if_neg (by show ¬(false && _) = true; simp), under_eq ks vs]
theorem over_eq (ks : List Str) : ∀ vs : List Vow, ((vs.filter fun v => isQ' v && decide (vwR v ∈ ks)).map fun v => PyData.str (vwX v)) = (pr (bk (eds vs)) ks).map PyData.str
  | [] => rfl
  | .quick a b :: vs => by
    have e : bk (eds (.quick a b :: vs)) = (b, a) :: bk (eds vs) := rfl
    have ih := over_eq ks vs
    unfold pr at ih ⊢
    rw [e, List.filter_cons, List.filter_cons]
    have c : (isQ' (.quick a b) && decide (vwR (.quick a b) ∈ ks)) = decide ((b, a).2 ∈ ks) := rfl
    rw [c]
    cases decide ((b, a).2 ∈ ks) with
    | true => rw [if_pos rfl, if_pos rfl, List.map_cons, List.map_cons, List.map_cons, ih]; rfl
    | false => rw [if_neg Bool.false_ne_true, if_neg Bool.false_ne_true, ih]
  | .lead r lo hi :: vs => by
    have e : bk (eds (.lead r lo hi :: vs)) = bk (eds vs) := rfl
    rw [e, List.filter_cons, if_neg (by show ¬(false && _) = true; simp), over_eq ks vs]
section
variable {P : Program} {w : World} {K : PySem.W.Frag} {mg : Str → Option Value} {base : Heap} {C : Addr} {σ : L2.St} {H : Hp} {te tl ta tb : TE} {i j : Nat} {α : Type} {enc : α → PyData} {E : XK}
theorem lq_onceA [DecidableEq α] {ok : α → Prop} {zs : List α} (O : EncOk enc ok) (h : EvSl ta σ H (zs.map enc)) (hx : ∀ x ∈ zs, ok x) (hz : zs.length ≤ 1000) : EvLq (tCall sp_once [] E (tCons ta tNil)) σ H ((once zs).map enc) := fun H1 e Q q =>
  h H1 e _ fun p us H2 e2 h2 d2 => ac_nil (spq_once O h2 d2 hx hz H2 (Ex.refl H2) _ (fun p' us' H3 hp' e3 h3 d3 => q p' us' H3 (fresh_back e2 hp') (e2.trans e3) h3 d3) E)
theorem lq_sortedS {ks : List Str} (h : EvSl te σ H (ks.map PyData.str)) (hz : ks.length < 64) (nd : ks.Nodup) : EvLq (tCB (rSortedS K) (tCons te tNil)) σ H ((nrm ks).map PyData.str) := fun H1 e Q q =>
  el_strs h H1 e _ fun l H2 e2 h2 => ⟨l, ks, rfl, sq_of h2, hz, fun ys p pm sd hp => by
    rw [nrm_eq ⟨sd, pm.nodup_iff.mpr nd, fun k => pm.mem_iff⟩] at q
    exact q p _ _ (fresh_back e2 hp) (e2.trans (Ex.new hp)) upd_same (of_strs _)⟩
/-- a def of the law that is told promises and a rule -/
def sp_lask (f : List Vow → Str → VK → Hp → Prop) : Sp := fun as H Q _ => ∃ (a : Addr) (us : List V) (vs : List Vow) (r : Str), as = [.ref a, .str r] ∧ H a = some (.lst us) ∧ DqAll H us (vs.map vwD) ∧ (∀ v ∈ vs, vwOk v) ∧ vs.length ≤ 100 ∧ r ∈ ruleL ∧ f vs r Q H
noncomputable def sp_lunder : Sp := sp_lask (tellL fun vs r => (undL vs r).map PyData.str)
noncomputable def sp_lover : Sp := sp_lask (tellL fun vs r => (ovrL vs r).map PyData.str)
theorem small_once {ks : List Str} (h : ∀ x ∈ ks, x ∈ ruleL) : (once ks).length ≤ 8 := by
  have := sub_len (ys := ruleL) (once_nodup ks) fun x hx => h x (mem_once'.mp hx)
  rw [show ruleL.length = 8 by decide +kernel] at this
  exact this
theorem ok_lunder {f f1 : Addr} {fd fd1 : FuncData} (F : Fun K "_law_under" "_law_under" s__law_under f fd) (T : Txt P w K mg C) (c__law_once : Cal P w K mg base "_law_once" f1 fd1 ["_law_some"] 1 sp_once) : FnOk P w K mg base CX0 2 f fd ["_law_vows", "_law_who"] sp_lunder := by
  refine F.ok sc__law_under (fun vs H Q E h => ?_) (fun cdv A outer s H vs Q E hr h => ?_)
  · obtain ⟨a, us, vs, r, rfl, _⟩ := h
    rfl
  · obtain ⟨a, us, vs, r, rfl, ha, d, ok, few, hr', k⟩ := h
    refine ⟨_, (pss_cons (ps_set (i := 2) sc__law_under.nd rfl (Or.inr rfl) (pe_lst (pa_cons (pv 1) pa_nil))) (pss_cons (ps_for PassesOwn.never rfl (pi_range1 (by rfl) T.b_range (pa_cons pe_int pa_nil)) (pg_name (i := 3) sc__law_under.nd rfl (Or.inl rfl)) (pss_cons (ps_set (i := 2) sc__law_under.nd rfl (Or.inr rfl) (pe_op op_cat (pv 2) (pe_lc (own := [("_law_vow", 4)]) (g := (gName 4)) (by rfl) sc__law_under.nd (piL (K := K) rfl (pv 0)) (blkOk_by (own := [("_law_vow", 4)]) (N := ["_law_vows", "_law_who", "_law_found", "_law_turn", "_law_vow"]) (sc := defScope s__law_under) (by decide +kernel)) (fun _ _ _ _ _ => (pg_name (i := 4) sc__law_under.nd rfl (Or.inl rfl))) (fun _ _ _ _ _ => (pts_one (PW.pt (pw_and (pt_cmpR op_eq (pe_ix (ixT (K := K) rfl) (pv 4) pe_int (fun _ _ => rfl)) pe_str (nomark _)) (pw_and1 (pt_cmpR (inS (K := K) rfl) (pe_ix (ixT (K := K) rfl) (pv 4) pe_int (fun _ _ => rfl)) (pv 2) (by rfl))))))) (fun _ _ _ _ _ => (pe_ix (ixT (K := K) rfl) (pv 4) pe_int (fun _ _ => rfl)))))) (pss_one (ps_set (i := 2) sc__law_under.nd rfl (Or.inr rfl) (pe_callB cr_sortedS (by rfl) T.b_sorted (by decide +kernel) (pa_cons (pe_call c__law_once.ok (hr.mono (by decide)) (by rfl) c__law_once.mgx c__law_once.kp c__law_once.bd .nil pass0 (pa_cons (pv 2) pa_nil)) pa_nil)))))) (pss_one (ps_ret (pv 2))))), ?_⟩
    have FU := fitU ok hr'
    have le := eds_len vs
    have base0 : ∀ x, x ∈ [r] ↔ ∃ m, m ≤ 0 ∧ Rch (eds vs) [r] m x := fun x => ⟨fun h => ⟨0, Nat.le_refl _, h⟩, fun ⟨m, hm, h⟩ => by
      cases m with
      | zero => exact h
      | succ m => omega⟩
    refine q_asgL (xs := [V.str r]) (el_lst (ea_cons (ev_var rfl) ea_nil) (by show 1 ≤ 100000; decide)) fun l0 H1 n0 e1 h1 => ?_
    refine q_forR1 (n := 8) (ea_cons ev_c ea_nil) (by decide) (fun i σ' H' => ∃ (l : Addr) (ks : List Str) (x3 x4 : Option V), σ' = [some (.ref a), some (.str r), some (.ref l), x3, x4] ∧ Ex H H' ∧ H l = none ∧ H' l = some (.lst (ks.map V.str)) ∧ (∀ x, x ∈ ks ↔ ∃ m, m ≤ i ∧ Rch (eds vs) [r] m x) ∧ ks.length ≤ 8 ∧ (0 < i → ∃ zs, ks = nrm zs))
      (fun H2 e2 => ⟨l0, [r], none, none, rfl, e1.trans e2, n0, e2 _ _ h1, base0, by show 1 ≤ 8; decide, fun q => absurd q (Nat.lt_irrefl _)⟩) (fun i σ' H' hi pv => ?_) (fun σ' H' pv => ?_)
    · obtain ⟨l, ks, x3, x4, rfl, ex, nl, hl, mem, lk, _⟩ := pv
      have lp := pr_len (eds vs) ks
      refine q_lq (ds := (ks ++ pr (eds vs) ks).map PyData.str) (lq_eq (lq_catS (esl_ref (ev_var rfl) hl (of_strs ks)) (fun H2 e2 => esl_lq (lq_eq (lq_lc vwD (fun v => .str (vwR v)) (fun v => isQ' v && decide (vwX v ∈ ks)) (esl_ref (ev_var rfl) ((ex.trans e2) _ _ ha) (d.mono (ex.trans e2))) (by omega) (fun _ => rfl) (fun _ _ => rfl) (fun v u H3 e3 _ dv => ?_) (fun v u H3 e3 _ dv _ => eq_of (ev_vw1 (ev_var rfl) dv) fun _ _ => .str _)) (under_eq ks vs))) (by rw [List.length_map, List.length_map]; omega)) (by rw [List.map_append])) fun m ms H2 nm e2 h2 d2 => ?_
      · cases v with
        | quick x y => exact et_and (a := true) (et_is (et_test (ev_op (ev_vw0 (ev_var rfl) dv) ev_c (rv_eq rfl))) rfl) fun _ => et_test (ev_inS (ev_vw2 (ev_var rfl) dv) (ev_var rfl) ((e2.trans e3) _ _ hl))
        | lead x lo hi => exact et_and (a := false) (b := decide (vwX (.lead x lo hi) ∈ ks)) (et_is (et_test (ev_op (ev_vw0 (ev_var rfl) dv) ev_c (rv_eq rfl))) (show decide (V.str "lead" = V.str "quick") = false by decide +kernel)) fun q => nomatch q
      · have nm0 := fresh_back ex nm
        have mem2 := pr_step mem
        have rl : ∀ x ∈ ks ++ pr (eds vs) ks, x ∈ ruleL := fun x hx => ((mem2 x).mp hx).elim fun m hm => rch_rule FU hm.2
        have so := small_once rl
        refine (lq_sortedS (ks := once (ks ++ pr (eds vs) ks)) (esl_lq (lq_onceA encS (esl_ref (ev_var rfl) h2 d2) rl (by rw [List.length_append]; omega))) (by omega) (once_nodup _)) H2 (Ex.refl _) _ fun p ps H3 np e3 h3 d3 => ?_
        refine ⟨p, nrm (once (ks ++ pr (eds vs) ks)), _, _, rfl, (ex.trans e2).trans e3, fresh_back (ex.trans e2) np, by rw [h3, strs_of d3], fun x => by rw [mem_nrm, mem_once', mem2 x], ?_, fun _ => ⟨_, rfl⟩⟩
        have := sub_len (ys := ruleL) (nrm_nodup (xs := once (ks ++ pr (eds vs) ks))) fun x hx => rl x (mem_once'.mp (mem_nrm.mp hx))
        rw [show ruleL.length = 8 by decide +kernel] at this
        exact this
    · obtain ⟨l, ks, x3, x4, rfl, ex, nl, hl, mem, lk, hn⟩ := pv
      obtain ⟨zs, hz⟩ := hn (by decide)
      have ek : ks = undL vs r := pr_all FU mem hz
      exact s_ret (ev_var rfl) fun H4 e4 => k l _ H4 nl (ex.trans e4) (e4 _ _ hl) (by rw [ek]; exact of_strs _)
theorem ok_lover {f f1 : Addr} {fd fd1 : FuncData} (F : Fun K "_law_over" "_law_over" s__law_over f fd) (T : Txt P w K mg C) (c__law_once : Cal P w K mg base "_law_once" f1 fd1 ["_law_some"] 1 sp_once) : FnOk P w K mg base CX0 2 f fd ["_law_vows", "_law_who"] sp_lover := by
  refine F.ok sc__law_over (fun vs H Q E h => ?_) (fun cdv A outer s H vs Q E hr h => ?_)
  · obtain ⟨a, us, vs, r, rfl, _⟩ := h
    rfl
  · obtain ⟨a, us, vs, r, rfl, ha, d, ok, few, hr', k⟩ := h
    refine ⟨_, (pss_cons (ps_set (i := 2) sc__law_over.nd rfl (Or.inr rfl) (pe_lst (pa_cons (pv 1) pa_nil))) (pss_cons (ps_for PassesOwn.never rfl (pi_range1 (by rfl) T.b_range (pa_cons pe_int pa_nil)) (pg_name (i := 3) sc__law_over.nd rfl (Or.inl rfl)) (pss_cons (ps_set (i := 2) sc__law_over.nd rfl (Or.inr rfl) (pe_op op_cat (pv 2) (pe_lc (own := [("_law_vow", 4)]) (g := (gName 4)) (by rfl) sc__law_over.nd (piL (K := K) rfl (pv 0)) (blkOk_by (own := [("_law_vow", 4)]) (N := ["_law_vows", "_law_who", "_law_found", "_law_turn", "_law_vow"]) (sc := defScope s__law_over) (by decide +kernel)) (fun _ _ _ _ _ => (pg_name (i := 4) sc__law_over.nd rfl (Or.inl rfl))) (fun _ _ _ _ _ => (pts_one (PW.pt (pw_and (pt_cmpR op_eq (pe_ix (ixT (K := K) rfl) (pv 4) pe_int (fun _ _ => rfl)) pe_str (nomark _)) (pw_and1 (pt_cmpR (inS (K := K) rfl) (pe_ix (ixT (K := K) rfl) (pv 4) pe_int (fun _ _ => rfl)) (pv 2) (by rfl))))))) (fun _ _ _ _ _ => (pe_ix (ixT (K := K) rfl) (pv 4) pe_int (fun _ _ => rfl)))))) (pss_one (ps_set (i := 2) sc__law_over.nd rfl (Or.inr rfl) (pe_callB cr_sortedS (by rfl) T.b_sorted (by decide +kernel) (pa_cons (pe_call c__law_once.ok (hr.mono (by decide)) (by rfl) c__law_once.mgx c__law_once.kp c__law_once.bd .nil pass0 (pa_cons (pv 2) pa_nil)) pa_nil)))))) (pss_one (ps_ret (pv 2))))), ?_⟩
    have FU := fitO ok hr'
    have le : (bk (eds vs)).length ≤ vs.length := by rw [bk, List.length_map]; exact eds_len vs
    have base0 : ∀ x, x ∈ [r] ↔ ∃ m, m ≤ 0 ∧ Rch (bk (eds vs)) [r] m x := fun x => ⟨fun h => ⟨0, Nat.le_refl _, h⟩, fun ⟨m, hm, h⟩ => by
      cases m with
      | zero => exact h
      | succ m => omega⟩
    refine q_asgL (xs := [V.str r]) (el_lst (ea_cons (ev_var rfl) ea_nil) (by show 1 ≤ 100000; decide)) fun l0 H1 n0 e1 h1 => ?_
    refine q_forR1 (n := 8) (ea_cons ev_c ea_nil) (by decide) (fun i σ' H' => ∃ (l : Addr) (ks : List Str) (x3 x4 : Option V), σ' = [some (.ref a), some (.str r), some (.ref l), x3, x4] ∧ Ex H H' ∧ H l = none ∧ H' l = some (.lst (ks.map V.str)) ∧ (∀ x, x ∈ ks ↔ ∃ m, m ≤ i ∧ Rch (bk (eds vs)) [r] m x) ∧ ks.length ≤ 8 ∧ (0 < i → ∃ zs, ks = nrm zs))
      (fun H2 e2 => ⟨l0, [r], none, none, rfl, e1.trans e2, n0, e2 _ _ h1, base0, by show 1 ≤ 8; decide, fun q => absurd q (Nat.lt_irrefl _)⟩) (fun i σ' H' hi pv => ?_) (fun σ' H' pv => ?_)
    · obtain ⟨l, ks, x3, x4, rfl, ex, nl, hl, mem, lk, _⟩ := pv
      have lp := pr_len (bk (eds vs)) ks
      refine q_lq (ds := (ks ++ pr (bk (eds vs)) ks).map PyData.str) (lq_eq (lq_catS (esl_ref (ev_var rfl) hl (of_strs ks)) (fun H2 e2 => esl_lq (lq_eq (lq_lc vwD (fun v => .str (vwX v)) (fun v => isQ' v && decide (vwR v ∈ ks)) (esl_ref (ev_var rfl) ((ex.trans e2) _ _ ha) (d.mono (ex.trans e2))) (by omega) (fun _ => rfl) (fun _ _ => rfl) (fun v u H3 e3 _ dv => ?_) (fun v u H3 e3 _ dv hf => by
        cases v with
        | quick x y => exact eq_of (ev_vw2 (ev_var rfl) dv) fun _ _ => .str _
        | lead x lo hi => cases hf)) (over_eq ks vs))) (by rw [List.length_map, List.length_map]; omega)) (by rw [List.map_append])) fun m ms H2 nm e2 h2 d2 => ?_
      · cases v with
        | quick x y => exact et_and (a := true) (et_is (et_test (ev_op (ev_vw0 (ev_var rfl) dv) ev_c (rv_eq rfl))) rfl) fun _ => et_test (ev_inS (ev_vw1 (ev_var rfl) dv) (ev_var rfl) ((e2.trans e3) _ _ hl))
        | lead x lo hi => exact et_and (a := false) (b := decide (vwR (.lead x lo hi) ∈ ks)) (et_is (et_test (ev_op (ev_vw0 (ev_var rfl) dv) ev_c (rv_eq rfl))) (show decide (V.str "lead" = V.str "quick") = false by decide +kernel)) fun q => nomatch q
      · have nm0 := fresh_back ex nm
        have mem2 := pr_step mem
        have rl : ∀ x ∈ ks ++ pr (bk (eds vs)) ks, x ∈ ruleL := fun x hx => ((mem2 x).mp hx).elim fun m hm => rch_rule FU hm.2
        have so := small_once rl
        refine (lq_sortedS (ks := once (ks ++ pr (bk (eds vs)) ks)) (esl_lq (lq_onceA encS (esl_ref (ev_var rfl) h2 d2) rl (by rw [List.length_append]; omega))) (by omega) (once_nodup _)) H2 (Ex.refl _) _ fun p ps H3 np e3 h3 d3 => ?_
        refine ⟨p, nrm (once (ks ++ pr (bk (eds vs)) ks)), _, _, rfl, (ex.trans e2).trans e3, fresh_back (ex.trans e2) np, by rw [h3, strs_of d3], fun x => by rw [mem_nrm, mem_once', mem2 x], ?_, fun _ => ⟨_, rfl⟩⟩
        have := sub_len (ys := ruleL) (nrm_nodup (xs := once (ks ++ pr (bk (eds vs)) ks))) fun x hx => rl x (mem_once'.mp (mem_nrm.mp hx))
        rw [show ruleL.length = 8 by decide +kernel] at this
        exact this
    · obtain ⟨l, ks, x3, x4, rfl, ex, nl, hl, mem, lk, hn⟩ := pv
      obtain ⟨zs, hz⟩ := hn (by decide)
      have ek : ks = ovrL vs r := pr_all FU mem hz
      exact s_ret (ev_var rfl) fun H4 e4 => k l _ H4 nl (ex.trans e4) (e4 _ _ hl) (by rw [ek]; exact of_strs _)
end
end K32
end
section
set_option maxHeartbeats 4000000
namespace K32
open PySem PyProof.Rows L2 Evl G OW BK TD
theorem encI : EncOk PyData.int (fun _ => True) where
  eqv a b := by rw [Bool.eq_iff_iff]; simp [PyData.eqv]
  lay a h := rfl
  dep a := by simp [PyData.depth]
theorem bnds_eq (o : Vow → Option Int) (vs : List Vow) (U : List Str) : ((vs.filter fun v => isL v && (decide (vwR v ∈ U) && (o v).isSome)).map fun v => PyData.int ((o v).getD 0)) = (bnds o vs U).map PyData.int := by
  unfold bnds
  rw [List.filter_filter, List.map_map]
  refine congrArg (List.map _) (List.filter_congr fun v _ => ?_)
  rw [Bool.and_comm]
noncomputable def sp_llow : Sp := sp_lask (tellV lowV)
noncomputable def sp_lhigh : Sp := sp_lask (tellV highV)
section
variable {P : Program} {w : World} {K : PySem.W.Frag} {mg : Str → Option Value} {base : Heap} {C : Addr} {σ : L2.St} {H : Hp} {te tl ta tb : TE} {i j : Nat} {E : XK}
theorem lq_lask {g : List Vow → Str → List PyData} {a : Addr} {us : List V} {vs : List Vow} {r : Str} (h : Ev ta σ H (.ref a)) (h' : Ev tb σ H (.str r)) (ha : H a = some (.lst us)) (d : DqAll H us (vs.map vwD)) (ok : ∀ v ∈ vs, vwOk v) (few : vs.length ≤ 100) (hr : r ∈ ruleL) : EvLq (tCall (sp_lask (tellL g)) [] E (tCons ta (tCons tb tNil))) σ H (g vs r) := lq_call (ea_cons h (ea_cons h' ea_nil)) fun H1 e Q q E => ⟨a, us, vs, r, rfl, e _ _ ha, d.mono e, ok, few, hr, q⟩
theorem ev_lask {g : List Vow → Str → V} {a : Addr} {us : List V} {vs : List Vow} {r : Str} (h : Ev ta σ H (.ref a)) (h' : Ev tb σ H (.str r)) (ha : H a = some (.lst us)) (d : DqAll H us (vs.map vwD)) (ok : ∀ v ∈ vs, vwOk v) (few : vs.length ≤ 100) (hr : r ∈ ruleL) : Ev (tCall (sp_lask (tellV g)) [] E (tCons ta (tCons tb tNil))) σ H (g vs r) := ev_call (ea_cons h (ea_cons h' ea_nil)) fun H1 e Q q E => ⟨a, us, vs, r, rfl, e _ _ ha, d.mono e, ok, few, hr, q⟩
theorem ok_llow {f f1 : Addr} {fd fd1 : FuncData} (F : Fun K "_law_low" "_law_low" s__law_low f fd) (T : Txt P w K mg C) (c__law_under : Cal P w K mg base "_law_under" f1 fd1 ["_law_vows", "_law_who"] 2 sp_lunder) : FnOk P w K mg base CX0 3 f fd ["_law_vows", "_law_who"] sp_llow := by
  refine F.ok sc__law_low (fun vs H Q E h => ?_) (fun cdv A outer s H vs Q E hr h => ?_)
  · obtain ⟨a, us, vs, r, rfl, _⟩ := h
    rfl
  · obtain ⟨a, us, vs, r, rfl, ha, d, ok, few, hr', k⟩ := h
    refine ⟨_, (pss_cons (ps_set (i := 2) sc__law_low.nd rfl (Or.inr rfl) (pe_call c__law_under.ok (hr.mono (by decide)) (by rfl) c__law_under.mgx c__law_under.kp c__law_under.bd .nil pass0 (pa_cons (pv 0) (pa_cons (pv 1) pa_nil)))) (pss_cons (ps_setLc (i := 3) (own := [("_law_vow", 4)]) (g := (gName 4)) (by rfl) sc__law_low.nd rfl rfl (sw_true rfl rfl rfl (by decide +kernel)) (piL (K := K) rfl (pv 0)) (blkOk_by (own := [("_law_vow", 4)]) (N := ["_law_vows", "_law_who", "_law_under_here", "_law_found", "_law_vow"]) (sc := defScope s__law_low) (by decide +kernel)) (fun _ _ _ _ _ => (pg_name (i := 4) sc__law_low.nd rfl (Or.inl rfl))) (fun _ _ _ _ _ => (pts_one (PW.pt (pw_and (pt_cmpR op_eq (pe_ix (ixT (K := K) rfl) (pv 4) pe_int (fun _ _ => rfl)) pe_str (nomark _)) (pw_and (pt_cmpR (inS (K := K) rfl) (pe_ix (ixT (K := K) rfl) (pv 4) pe_int (fun _ _ => rfl)) (pv 2) (by rfl)) (pw_and1 (pt_cmpR op_notN (pe_ix (ixT (K := K) rfl) (pv 4) pe_int (fun _ _ => rfl)) pe_non (nomark _)))))))) (fun _ _ _ _ _ => (pe_ix (ixT (K := K) rfl) (pv 4) pe_int (fun _ _ => rfl)))) (pss_one (ps_ret (pe_ifExp (pt_cmpR (neD (K := K) rfl hr.units) (pv 3) (pe_lst pa_nil) (nomark _)) (pe_callB (maxL (K := K) rfl rfl) (by rfl) T.b_max (by decide +kernel) (pa_cons (pv 3) pa_nil)) pe_non))))), ?_⟩
    refine q_els (ks := undL vs r) (lq_lask (ev_var rfl) (ev_var rfl) ha d ok few hr') fun l H1 nl e1 hl => ?_
    refine q_lq (lq_eq (lq_lc vwD (fun v => .int ((loO v).getD 0)) (fun v => isL v && (decide (vwR v ∈ undL vs r) && (loO v).isSome)) (esl_ref (ev_var rfl) (e1 _ _ ha) (d.mono e1)) (by omega) (fun _ => rfl) (fun _ _ => rfl) (fun v u H3 e3 _ dv => ?_) (fun v u H3 e3 _ dv hf => ?_)) (bnds_eq loO vs (undL vs r))) fun m ms H2 nm e2 h2 d2 => ?_
    · cases v with
      | quick x y => exact et_and (a := false) (b := decide (vwR (.quick x y) ∈ undL vs r) && (loO (.quick x y)).isSome) (et_is (et_test (ev_op (ev_vw0 (ev_var rfl) dv) ev_c (rv_eq rfl))) (show decide (V.str "quick" = V.str "lead") = false by decide +kernel)) fun q => nomatch q
      | lead x lo hi =>
        obtain ⟨va, rfl, hva⟩ := vw_of dv
        exact et_and (a := true) (et_is (et_test (ev_op (ev_vw0 (ev_var rfl) dv) ev_c (rv_eq rfl))) rfl) fun _ => et_and (et_test (ev_inS (ev_at1 (ev_var rfl) hva) (ev_var rfl) (e3 _ _ hl))) fun _ => et_is (et_test (ev_notN (ev_at2 (ev_var rfl) hva))) (non_oV lo)
    · cases v with
      | quick x y => cases hf
      | lead x lo hi =>
        obtain ⟨va, rfl, hva⟩ := vw_of dv
        cases lo with
        | none => simp [loO] at hf
        | some n => exact eq_of (ev_at2 (ev_var rfl) hva) fun _ _ => .int n
    · have kk : ∀ H3, Ex H2 H3 → Q (mxN .non (bnds loO vs (undL vs r))) H3 := fun H3 e3 => k H3 ((e1.trans e2).trans e3)
      generalize bnds loO vs (undL vs r) = ns at d2 kk
      refine s_ret (ev_if (b := !decide (ns = [])) (et_test (ev_neLs encI (ys := []) (esl_ref (ev_var rfl) h2 d2) (fun H3 e3 => esl_lq (lq_lst aq_nil (by show 0 ≤ 100000; decide))) (fun _ _ => trivial) fun _ _ => trivial)) (fun h => ?_) (fun h => ?_)) kk
      · cases ns with
        | nil => simp at h
        | cons n r' =>
          refine ev_cb (ea_cons (ev_var rfl) ea_nil) fun H3 e3 Q' q' => ⟨m, n :: r', rfl, sq_of (by rw [← ints_of d2]; exact e3 _ _ h2), Nat.succ_pos _, fun z hz hz' => ?_⟩
          obtain ⟨f1, f2⟩ := fold_max r' n
          have : z = r'.foldl max n := Int.le_antisymm (f2 z hz) (hz' _ f1)
          rw [this]
          exact q' H3 (Ex.refl _)
      · cases ns with
        | nil => exact ev_c
        | cons n r' => simp at h
theorem ok_lhigh {f f1 : Addr} {fd fd1 : FuncData} (F : Fun K "_law_high" "_law_high" s__law_high f fd) (T : Txt P w K mg C) (c__law_over : Cal P w K mg base "_law_over" f1 fd1 ["_law_vows", "_law_who"] 2 sp_lover) : FnOk P w K mg base CX0 3 f fd ["_law_vows", "_law_who"] sp_lhigh := by
  refine F.ok sc__law_high (fun vs H Q E h => ?_) (fun cdv A outer s H vs Q E hr h => ?_)
  · obtain ⟨a, us, vs, r, rfl, _⟩ := h
    rfl
  · obtain ⟨a, us, vs, r, rfl, ha, d, ok, few, hr', k⟩ := h
    refine ⟨_, (pss_cons (ps_set (i := 2) sc__law_high.nd rfl (Or.inr rfl) (pe_call c__law_over.ok (hr.mono (by decide)) (by rfl) c__law_over.mgx c__law_over.kp c__law_over.bd .nil pass0 (pa_cons (pv 0) (pa_cons (pv 1) pa_nil)))) (pss_cons (ps_setLc (i := 3) (own := [("_law_vow", 4)]) (g := (gName 4)) (by rfl) sc__law_high.nd rfl rfl (sw_true rfl rfl rfl (by decide +kernel)) (piL (K := K) rfl (pv 0)) (blkOk_by (own := [("_law_vow", 4)]) (N := ["_law_vows", "_law_who", "_law_over_here", "_law_found", "_law_vow"]) (sc := defScope s__law_high) (by decide +kernel)) (fun _ _ _ _ _ => (pg_name (i := 4) sc__law_high.nd rfl (Or.inl rfl))) (fun _ _ _ _ _ => (pts_one (PW.pt (pw_and (pt_cmpR op_eq (pe_ix (ixT (K := K) rfl) (pv 4) pe_int (fun _ _ => rfl)) pe_str (nomark _)) (pw_and (pt_cmpR (inS (K := K) rfl) (pe_ix (ixT (K := K) rfl) (pv 4) pe_int (fun _ _ => rfl)) (pv 2) (by rfl)) (pw_and1 (pt_cmpR op_notN (pe_ix (ixT (K := K) rfl) (pv 4) pe_int (fun _ _ => rfl)) pe_non (nomark _)))))))) (fun _ _ _ _ _ => (pe_ix (ixT (K := K) rfl) (pv 4) pe_int (fun _ _ => rfl)))) (pss_one (ps_ret (pe_ifExp (pt_cmpR (neD (K := K) rfl hr.units) (pv 3) (pe_lst pa_nil) (nomark _)) (pe_callB (minL (K := K) rfl rfl) (by rfl) T.b_min (by decide +kernel) (pa_cons (pv 3) pa_nil)) pe_non))))), ?_⟩
    refine q_els (ks := ovrL vs r) (lq_lask (ev_var rfl) (ev_var rfl) ha d ok few hr') fun l H1 nl e1 hl => ?_
    refine q_lq (lq_eq (lq_lc vwD (fun v => .int ((hiO v).getD 0)) (fun v => isL v && (decide (vwR v ∈ ovrL vs r) && (hiO v).isSome)) (esl_ref (ev_var rfl) (e1 _ _ ha) (d.mono e1)) (by omega) (fun _ => rfl) (fun _ _ => rfl) (fun v u H3 e3 _ dv => ?_) (fun v u H3 e3 _ dv hf => ?_)) (bnds_eq hiO vs (ovrL vs r))) fun m ms H2 nm e2 h2 d2 => ?_
    · cases v with
      | quick x y => exact et_and (a := false) (b := decide (vwR (.quick x y) ∈ ovrL vs r) && (hiO (.quick x y)).isSome) (et_is (et_test (ev_op (ev_vw0 (ev_var rfl) dv) ev_c (rv_eq rfl))) (show decide (V.str "quick" = V.str "lead") = false by decide +kernel)) fun q => nomatch q
      | lead x lo hi =>
        obtain ⟨va, rfl, hva⟩ := vw_of dv
        exact et_and (a := true) (et_is (et_test (ev_op (ev_vw0 (ev_var rfl) dv) ev_c (rv_eq rfl))) rfl) fun _ => et_and (et_test (ev_inS (ev_at1 (ev_var rfl) hva) (ev_var rfl) (e3 _ _ hl))) fun _ => et_is (et_test (ev_notN (ev_op (ev_var rfl) ev_c (rv_ixT (st_of hva) (atI_nat (j := 3) rfl))))) (non_oV hi)
    · cases v with
      | quick x y => cases hf
      | lead x lo hi =>
        obtain ⟨va, rfl, hva⟩ := vw_of dv
        cases hi with
        | none => simp [hiO] at hf
        | some n => exact eq_of (ev_op (ev_var rfl) ev_c (rv_ixT (st_of hva) (atI_nat (j := 3) rfl))) fun _ _ => .int n
    · have kk : ∀ H3, Ex H2 H3 → Q (mnN .non (bnds hiO vs (ovrL vs r))) H3 := fun H3 e3 => k H3 ((e1.trans e2).trans e3)
      generalize bnds hiO vs (ovrL vs r) = ns at d2 kk
      refine s_ret (ev_if (b := !decide (ns = [])) (et_test (ev_neLs encI (ys := []) (esl_ref (ev_var rfl) h2 d2) (fun H3 e3 => esl_lq (lq_lst aq_nil (by show 0 ≤ 100000; decide))) (fun _ _ => trivial) fun _ _ => trivial)) (fun h => ?_) (fun h => ?_)) kk
      · cases ns with
        | nil => simp at h
        | cons n r' =>
          refine ev_cb (ea_cons (ev_var rfl) ea_nil) fun H3 e3 Q' q' => ⟨m, n :: r', rfl, sq_of (by rw [← ints_of d2]; exact e3 _ _ h2), Nat.succ_pos _, fun z hz hz' => ?_⟩
          obtain ⟨f1, f2⟩ := fold_min r' n
          have : z = r'.foldl min n := Int.le_antisymm (hz' _ f1) (f2 z hz)
          rw [this]
          exact q' H3 (Ex.refl _)
      · cases ns with
        | nil => exact ev_c
        | cons n r' => simp at h
theorem ok_named {f f1 : Addr} {fd fd1 : FuncData} (F : Fun K "_law_named" "_law_named" s__law_named f fd) (T : Txt P w K mg C) (c__law_once : Cal P w K mg base "_law_once" f1 fd1 ["_law_some"] 1 sp_once) :
    FnOk P w K mg base CX0 2 f fd ["_law_lines", "_law_vows"] sp_named := by
  refine F.ok sc__law_named (fun vs H Q E h => ?_) (fun cdv A outer s H vs Q E hr h => ?_)
  · obtain ⟨a, b, us, ws, xs, ys, rfl, _⟩ := h
    rfl
  · obtain ⟨a, b, us, ws, xs, ys, rfl, ha, d, hb, d', hx, hy, hz, hz', k⟩ := h
    refine ⟨_, (pss_cons (ps_set (i := 2) sc__law_named.nd rfl (Or.inl rfl) (pe_op op_cat (pe_op op_cat (pe_lc (own := [("_law_line", 3)]) (g := (gName 3)) (by rfl) sc__law_named.nd (piL (K := K) rfl (pv 0)) (blkOk_by (own := [("_law_line", 3)]) (N := ["_law_lines", "_law_vows", "_law_found", "_law_line", "_law_vow"]) (sc := defScope s__law_named) (by decide +kernel)) (fun _ _ _ _ _ => (pg_name (i := 3) sc__law_named.nd rfl (Or.inl rfl))) (fun _ _ _ _ _ => pts_nil) (fun _ _ _ _ _ => (pe_ix (ixT (K := K) rfl) (pv 3) pe_int (fun _ _ => rfl)))) (pe_lc (own := [("_law_vow", 4)]) (g := (gName 4)) (by rfl) sc__law_named.nd (piL (K := K) rfl (pv 1)) (blkOk_by (own := [("_law_vow", 4)]) (N := ["_law_lines", "_law_vows", "_law_found", "_law_line", "_law_vow"]) (sc := defScope s__law_named) (by decide +kernel)) (fun _ _ _ _ _ => (pg_name (i := 4) sc__law_named.nd rfl (Or.inl rfl))) (fun _ _ _ _ _ => pts_nil) (fun _ _ _ _ _ => (pe_ix (ixT (K := K) rfl) (pv 4) pe_int (fun _ _ => rfl))))) (pe_lc (own := [("_law_vow", 4)]) (g := (gName 4)) (by rfl) sc__law_named.nd (piL (K := K) rfl (pv 1)) (blkOk_by (own := [("_law_vow", 4)]) (N := ["_law_lines", "_law_vows", "_law_found", "_law_line", "_law_vow"]) (sc := defScope s__law_named) (by decide +kernel)) (fun _ _ _ _ _ => (pg_name (i := 4) sc__law_named.nd rfl (Or.inl rfl))) (fun _ _ _ _ _ => (pts_one (pt_cmpR op_eq (pe_ix (ixT (K := K) rfl) (pv 4) pe_int (fun _ _ => rfl)) pe_str (nomark _)))) (fun _ _ _ _ _ => (pe_ix (ixT (K := K) rfl) (pv 4) pe_int (fun _ _ => rfl)))))) (pss_one (ps_ret (pe_callB cr_sortedS (by rfl) T.b_sorted (by decide +kernel) (pa_cons (pe_call c__law_once.ok (hr.mono (by decide)) (by rfl) c__law_once.mgx c__law_once.kp c__law_once.bd .nil pass0 (pa_cons (pv 2) pa_nil)) pa_nil))))), ?_⟩
    have nl := named_len xs ys
    refine q_lq (lq_eq (es := (named xs ys).map PyData.str) (lq_catS (ds := (xs.map (·.1)).map PyData.str ++ (ys.map vwR).map PyData.str) (es := (ys.filterMap vwO).map PyData.str) (esl_lq (lq_catS (esl_lq (lq_eq (lq_lc rwD (fun r => .str r.1) (fun _ => true) (esl_ref (ev_var rfl) ha d) (by omega) (fun _ => rfl) (fun _ _ => rfl) (fun r u H2 e2 _ d => lc_yes) (fun r u H2 e2 _ d _ => eq_val (ev_rw0 (ev_var rfl) d) fun _ => .str _)) (by rw [filter_yes, List.map_map]; rfl)))
      (fun H1 e1 => esl_lq (lq_eq (lq_lc vwD (fun v => .str (vwR v)) (fun _ => true) (esl_ref (ev_var rfl) (e1 b _ hb) (d'.mono e1)) (by omega) (fun _ => rfl) (fun _ _ => rfl) (fun r u H2 e2 _ d => lc_yes) (fun r u H2 e2 _ d _ => eq_val (ev_vw1 (ev_var rfl) d) fun _ => .str _)) (by rw [filter_yes, List.map_map]; rfl))) (by simp only [List.length_map]; omega)))
      (fun H1 e1 => esl_lq (lq_eq (lq_lc vwD (fun v => .str (vwX v)) isQ (esl_ref (ev_var rfl) (e1 b _ hb) (d'.mono e1)) (by omega) (fun _ => rfl) (fun _ _ => rfl) (fun v u H2 e2 _ d => et_is (et_test (ev_op (ev_vw0 (ev_var rfl) d) ev_c (rv_eq rfl))) (by cases v <;> rfl)) (fun v u H2 e2 _ d hf => ?_)) (others_eq ys))) (by have := List.length_filterMap_le vwO ys; simp only [List.length_map, List.length_append]; omega)) (by rw [← List.map_append, ← List.map_append]; rfl)) fun l vs' H1 hl e1 h1 d1 => ?_
    · cases v with
      | quick a b => exact eq_val (ev_vw2 (ev_var rfl) d) fun _ => .str _
      | lead r lo hi => cases hf
    · have nd := once_nodup (named xs ys)
      have few : (once (named xs ys)).length ≤ 8 := small_once (named_ok hx hy)
      refine s_rlq (lq_eq (lq_sortedS (ks := once (named xs ys)) (esl_lq (lq_call (ea_cons (ev_var rfl) ea_nil) (spq_once encS h1 d1 (named_ok hx hy) (by omega)))) (by omega) nd) (by rw [nrm_congr fun s => mem_once'])) fun q us' H2 hq e2 h2 d2 => k q us' H2 (fresh_back e1 hq) (e1.trans e2) h2 d2
end
end K32
end
section
set_option maxHeartbeats 4000000
namespace K32
open PySem PyProof.Rows L2 Evl G OW BK TD
/-! ### lists of lists of rules -/
def pathD (c : List Str) : PyData := .list (c.map PyData.str)
theorem dep_strs : ∀ c : List Str, PyData.depthAll (c.map PyData.str) = 0
  | [] => rfl
  | x :: c => by rw [List.map_cons, PyData.depthAll, PyData.depth, dep_strs c]; rfl
theorem encC : EncOk pathD (fun c => ∀ x ∈ c, x ∈ ruleL) where
  eqv a b := by
    unfold pathD
    rw [PyData.eqv, encS.eqvAll]
  lay a h := by
    unfold pathD
    rw [PyData.canLay0, encS.layAll h]
  dep a := by
    unfold pathD
    rw [PyData.depth, dep_strs]
    exact Nat.le_refl _
section
variable {K : PySem.W.Frag} {σ : L2.St} {H : Hp} {te tl ta tb : TE} {tt : TT} {j : Nat} {vs : List Nat}
/-- [a new list of rules for x in xs if ..] -/
theorem lq_lcL {α : Type} {enc : α → PyData} (g : α → List Str) (f : α → Bool) {xs : List α} (h : EvSl tl σ H (xs.map enc)) (hz : xs.length ≤ 40000) (hw : ∀ x, wipe ((wipe σ vs).set j (some x)) vs = wipe σ vs)
    (ht : ∀ x u H1, Ex H H1 → x ∈ xs → Dq H1 u (enc x) → EvT tt ((wipe σ vs).set j (some u)) H1 (f x)) (he : ∀ x u H1, Ex H H1 → x ∈ xs → Dq H1 u (enc x) → f x = true → EvLq te ((wipe σ vs).set j (some u)) H1 ((g x).map PyData.str)) :
    EvLq (tLc (iList K tl) (gName j) tt te vs) σ H ((xs.filter f).map fun x => pathD (g x)) := fun H0 e Q q => h H0 e _ fun a us H1 e1 ha d => ⟨a, rfl, ⟨us, sq_of ha⟩, fun Dl hD => by
  have hl : us.length = xs.length := by rw [d.len, List.length_map]
  have e01 := e.trans e1
  refine lc_list (xs := us) (fun i H' => ∃ acc : List V, Ex H1 H' ∧ H' Dl = some (.lst acc) ∧ acc.length ≤ i ∧ DqAll (wo H' Dl) acc (((xs.take i).filter f).map fun x => pathD (g x))) ⟨[], Ex.new hD, upd_same, Nat.le_refl _, by rw [List.take_zero]; exact .nil⟩ (fun i H' _ pv => sq_of (pv.elim fun _ z => z.1 a _ ha)) (fun i u H' hi pv => ?_) (fun H' pv => ?_)
  · obtain ⟨acc, x1, x2, x3, x4⟩ := pv
    obtain ⟨dd, hd, hu⟩ := d.get hi
    rw [List.getElem?_map] at hd
    obtain ⟨x, hx, rfl⟩ := Option.map_eq_some_iff.mp hd
    have hm := List.mem_of_getElem? hx
    have ilt : i < us.length := (List.getElem?_eq_some_iff.mp hi).1
    have tk : (xs.take (i + 1)).filter f = (xs.take i).filter f ++ [x].filter f := (by rw [List.take_add_one, hx, List.filter_append] <;> rfl)
    refine ⟨hw u, ht x u H' (e01.trans x1) hm (hu.mono x1) H' (Ex.refl _) _ fun H3 e3 => ?_⟩
    cases hf : f x with
    | false =>
      rw [if_neg Bool.false_ne_true]
      refine ⟨acc, x1.trans e3, e3 _ _ x2, Nat.le_succ_of_le x3, ?_⟩
      rw [tk, List.filter_cons, if_neg (by rw [hf]; exact Bool.false_ne_true), List.filter_nil, List.append_nil]
      exact x4.mono (wo_mono e3)
    | true =>
      rw [if_pos rfl]
      refine he x u H3 ((e01.trans x1).trans e3) hm (hu.mono (x1.trans e3)) hf H3 (Ex.refl _) _ fun p ys H4 np e4 hp dp => ?_
      have h3 := e3 _ _ x2
      have h4 := e4 _ _ h3
      have pD : p ≠ Dl := (ne_of_none h3 np).symm
      have xw : Ex (wo H4 Dl) (wo (upd H4 Dl (.lst (acc ++ [V.ref p]))) Dl) := wo_sub wo_upd
      refine ⟨acc, h4, sz_lt (by omega), acc ++ [.ref p], ((x1.trans e3).trans e4).mut hD, upd_same, by rw [List.length_append]; exact Nat.succ_le_succ x3, ?_⟩
      rw [tk, List.filter_cons, if_pos hf, List.filter_nil, List.map_append]
      refine (x4.mono ((wo_mono (e3.trans e4)).trans xw)).app (.cons (.lst (by rw [wo_ne pD, upd_ne pD]; exact hp) ?_) .nil)
      rw [strs_of dp]
      exact of_strs _
  · obtain ⟨acc, x1, x2, _, x4⟩ := pv
    rw [hl, List.take_length] at x4
    exact q Dl acc H' (fresh_back e1 hD) (e1.trans x1) x2 (x4.mono wo_ex)⟩
theorem path_of {v : V} {c : List Str} (h : Dq H v (pathD c)) : ∃ a, v = .ref a ∧ H a = some (.lst (c.map V.str)) := by
  unfold pathD at h
  cases h with
  | lst ha k => exact ⟨_, rfl, by rw [ha, strs_of k]⟩
/-- the last of a list of rules, told by the place -1 -/
theorem ev_last {a : Addr} {c : List Str} {x : Str} (h : Ev ta σ H (.ref a)) (ha : H a = some (.lst ((c ++ [x]).map V.str))) : Ev (tOp (rIxL K) ta (tUn (rU fun i => .int (-i)) (tC (.int 1)))) σ H (.str x) := by
  have ne : (c ++ [x]).map V.str ≠ [] := by simp
  obtain ⟨v, hv, hl⟩ := atI_end ne
  have : v = .str x := by
    rw [List.length_map, List.length_append, List.length_singleton, Nat.add_sub_cancel, List.getElem?_map, List.getElem?_append_right (Nat.le_refl _), Nat.sub_self] at hl
    cases hl; rfl
  subst this
  exact ev_op h (ev_un ev_c ru_neg) (rv_ixL (sq_of ha) hv)
theorem ev_niS {a : Addr} {ks : List Str} {x : Str} (h : Ev ta σ H (.str x)) (hb : Ev tb σ H (.ref a)) (ha : H a = some (.lst (ks.map V.str))) : Ev (tOp (rIn K true) ta tb) σ H (.bl (!decide (x ∈ ks))) := ev_is (ev_op h hb (rv_niL (sq_of ha) rfl (flat_strs ks))) (by rw [inV_str])
end
end K32
end
section
set_option maxHeartbeats 4000000
namespace K32
open PySem PyProof.Rows L2 Evl G OW BK TD
def lastS (c : List Str) : Str := c.getLast?.getD ""
theorem lastS_snoc (c : List Str) (x : Str) : lastS (c ++ [x]) = x := by unfold lastS; simp
/-- the lists that are one rule longer -/
def ext (E : List Ed) (c : List Str) : List (List Str) := (E.filter fun p => decide (p.1 = lastS c) && !decide (p.2 ∈ c)).map fun p => c ++ [p.2]
def longer (E : List Ed) (L : List (List Str)) : List (List Str) := L.flatMap (ext E)
theorem ext_eq (c : List Str) : ∀ vs : List Vow, ((vs.filter fun v => isQ' v && (decide (vwR v = lastS c) && !decide (vwX v ∈ c))).map fun v => pathD (c ++ [vwX v])) = (ext (eds vs) c).map pathD
  | [] => rfl
  | .quick a b :: vs => by
    have e : eds (.quick a b :: vs) = (a, b) :: eds vs := rfl
    have ih := ext_eq c vs
    unfold ext at ih ⊢
    rw [e, List.filter_cons, List.filter_cons]
    have t : (isQ' (.quick a b) && (decide (vwR (.quick a b) = lastS c) && !decide (vwX (.quick a b) ∈ c))) = (decide ((a, b).1 = lastS c) && !decide ((a, b).2 ∈ c)) := rfl
    rw [t]
    cases decide ((a, b).1 = lastS c) && !decide ((a, b).2 ∈ c) with
    | true => rw [if_pos rfl, if_pos rfl, List.map_cons, List.map_cons, List.map_cons, ih]; rfl
    | false => rw [if_neg Bool.false_ne_true, if_neg Bool.false_ne_true, ih]
  | .lead r lo hi :: vs => by
    have e : eds (.lead r lo hi :: vs) = eds vs := rfl
    rw [e, List.filter_cons, if_neg (by show ¬(false && _) = true; simp), ext_eq c vs]
def sp_longer : Sp := fun as H Q _ => ∃ (a b : Addr) (us ws : List V) (vs : List Vow) (L : List (List Str)), as = [.ref a, .ref b] ∧ H a = some (.lst us) ∧ DqAll H us (vs.map vwD) ∧ (∀ v ∈ vs, vwOk v) ∧ vs.length ≤ 100 ∧ H b = some (.lst ws) ∧ DqAll H ws (L.map pathD) ∧ (∀ c ∈ L, c ≠ [] ∧ ∀ x ∈ c, x ∈ ruleL) ∧ (∀ c ∈ L, c.length ≤ 1000) ∧ (longer (eds vs) L).length ≤ 1000 ∧ RetLq ((once (longer (eds vs) L)).map pathD) H Q
section
variable {P : Program} {w : World} {K : PySem.W.Frag} {mg : Str → Option Value} {base : Heap} {C : Addr}
theorem ok_longer {f f1 : Addr} {fd fd1 : FuncData} (F : Fun K "_law_longer" "_law_longer" s__law_longer f fd) (T : Txt P w K mg C) (c__law_once : Cal P w K mg base "_law_once" f1 fd1 ["_law_some"] 1 sp_once) : FnOk P w K mg base CX0 2 f fd ["_law_vows", "_law_lists"] sp_longer := by
  refine F.ok sc__law_longer (fun vs H Q E h => ?_) (fun cdv A outer s H vs Q E hr h => ?_)
  · obtain ⟨a, b, us, ws, vs, L, rfl, _⟩ := h
    rfl
  · obtain ⟨a, b, us, ws, vs, L, rfl, ha, d, ok, few, hb, dL, okL, lenL, total, k⟩ := h
    refine ⟨_, (pss_cons (ps_set (i := 2) sc__law_longer.nd rfl (Or.inl rfl) (pe_lst pa_nil)) (pss_cons (ps_for PassesOwn.never rfl (piL (K := K) rfl (pv 1)) (pg_name (i := 3) sc__law_longer.nd rfl (Or.inr rfl)) (pss_one (ps_set (i := 2) sc__law_longer.nd rfl (Or.inl rfl) (pe_op op_cat (pv 2) (pe_lc (own := [("_law_vow", 4)]) (g := (gName 4)) (by rfl) sc__law_longer.nd (piL (K := K) rfl (pv 0)) (blkOk_by (own := [("_law_vow", 4)]) (N := ["_law_vows", "_law_lists", "_law_found", "_law_some", "_law_vow"]) (sc := defScope s__law_longer) (by decide +kernel)) (fun _ _ _ _ _ => (pg_name (i := 4) sc__law_longer.nd rfl (Or.inl rfl))) (fun _ _ _ _ _ => (pts_one (PW.pt (pw_and (pt_cmpR op_eq (pe_ix (ixT (K := K) rfl) (pv 4) pe_int (fun _ _ => rfl)) pe_str (nomark _)) (pw_and (pt_cmpR op_eq (pe_ix (ixT (K := K) rfl) (pv 4) pe_int (fun _ _ => rfl)) (pe_ix (ixL (K := K) rfl) (pv 3) (pe_un un_neg pe_int) (fun _ _ => rfl)) (nomark _)) (pw_and1 (pt_cmpR (niS (K := K) rfl) (pe_ix (ixT (K := K) rfl) (pv 4) pe_int (fun _ _ => rfl)) (pv 3) (by rfl)))))))) (fun _ _ _ _ _ => (pe_op op_cat (pv 3) (pe_lst (pa_cons (pe_ix (ixT (K := K) rfl) (pv 4) pe_int (fun _ _ => rfl)) pa_nil))))))))) (pss_one (ps_ret (pe_call c__law_once.ok (hr.mono (by decide)) (by rfl) c__law_once.mgx c__law_once.kp c__law_once.bd .nil pass0 (pa_cons (pv 2) pa_nil)))))), ?_⟩
    refine q_lq (ds := []) (lq_lst aq_nil (by show 0 ≤ 100000; decide)) fun f0 fs0 H1 n0 e1 h1 d1 => ?_
    refine q_forLn (K := K) (ev_var rfl) (sq_of (e1 _ _ hb)) (fun i σ' H' => ∃ (f : Addr) (fs : List V) (x3 x4 : Option V), σ' = [some (.ref a), some (.ref b), some (.ref f), x3, x4] ∧ Ex H H' ∧ H f = none ∧ H' f = some (.lst fs) ∧ DqAll H' fs ((longer (eds vs) (L.take i)).map pathD))
      (fun H2 e2 => ⟨f0, fs0, none, none, rfl, e1.trans e2, n0, e2 _ _ h1, d1.mono e2⟩) (fun i σ' H' _ ⟨f, fs, x3, x4, _, e, _⟩ => sq_of (e _ _ hb)) (fun i u σ' H' hu pv => ?_) (fun σ' H' pv => ?_)
    · obtain ⟨f, fs, x3, x4, rfl, ex, nf, hf, df⟩ := pv
      obtain ⟨dd, hdd, hq⟩ := (dL.mono ex).get hu
      rw [List.getElem?_map] at hdd
      obtain ⟨c, hc, rfl⟩ := Option.map_eq_some_iff.mp hdd
      obtain ⟨ca, rfl, hca⟩ := path_of hq
      obtain ⟨ne, okc⟩ := okL c (List.mem_of_getElem? hc)
      have lc := lenL c (List.mem_of_getElem? hc)
      obtain ⟨c', x, rfl⟩ : ∃ c' x, c = c' ++ [x] := ⟨c.dropLast, c.getLast ne, (List.dropLast_concat_getLast ne).symm⟩
      have tk : longer (eds vs) (L.take (i + 1)) = longer (eds vs) (L.take i) ++ ext (eds vs) (c' ++ [x]) := by
        unfold longer
        rw [List.take_add_one, hc, List.flatMap_append]
        simp
      have bound : (longer (eds vs) (L.take (i + 1))).length ≤ 1000 := by
        have e := List.take_append_drop (i + 1) L
        have : (longer (eds vs) L).length = (longer (eds vs) (L.take (i + 1))).length + (longer (eds vs) (L.drop (i + 1))).length := by
          conv => lhs; rw [← e]
          unfold longer
          rw [List.flatMap_append, List.length_append]
        omega
      rw [tk, List.length_append] at bound
      have LS := lastS_snoc c' x
      show tAsg _ _ _ [some (V.ref a), some (V.ref b), some (V.ref f), some (V.ref ca), x4] H'
      refine (lq_eq (es := (longer (eds vs) (L.take (i + 1))).map pathD) (lq_catS (es := (ext (eds vs) (c' ++ [x])).map pathD) (esl_ref (ev_var rfl) hf df) (fun H2 e2 => esl_lq (lq_eq (lq_lcL (enc := vwD) (fun v => (c' ++ [x]) ++ [vwX v]) (fun v => isQ' v && (decide (vwR v = lastS (c' ++ [x])) && !decide (vwX v ∈ c' ++ [x]))) (esl_ref (ev_var rfl) ((ex.trans e2) _ _ ha) (d.mono (ex.trans e2))) (by omega) (fun _ => rfl) (fun v u H3 e3 _ dv => ?_) (fun v u H3 e3 _ dv hf' => ?_)) (ext_eq _ vs))) (by rw [List.length_map, List.length_map]; omega)) (by rw [tk, List.map_append])) H' (Ex.refl _) _ fun p ps H2 np e2 h2 d2 => ⟨p, ps, _, _, rfl, ex.trans e2, fresh_back ex np, h2, d2⟩
      · cases v with
        | quick y z => exact et_and (a := true) (et_is (et_test (ev_op (ev_vw0 (ev_var rfl) dv) ev_c (rv_eq rfl))) rfl) fun _ => et_and (et_is (et_test (ev_op (ev_vw1 (ev_var rfl) dv) (ev_last (ev_var rfl) ((e2.trans e3) _ _ hca)) (rv_eq rfl))) (by rw [LS]; simp)) fun _ => et_test (ev_niS (ev_vw2 (ev_var rfl) dv) (ev_var rfl) ((e2.trans e3) _ _ hca))
        | lead y lo hi => exact et_and (a := false) (b := decide (vwR (.lead y lo hi) = lastS (c' ++ [x])) && !decide (vwX (.lead y lo hi) ∈ c' ++ [x])) (et_is (et_test (ev_op (ev_vw0 (ev_var rfl) dv) ev_c (rv_eq rfl))) (show decide (V.str "lead" = V.str "quick") = false by decide +kernel)) fun q => nomatch q
      · cases v with
        | quick y z => exact lq_eq (lq_catS (ds := (c' ++ [x]).map PyData.str) (es := [.str z]) (esl_ref (ev_var rfl) ((e2.trans e3) _ _ hca) (of_strs _)) (fun H4 e4 => esl_one (ev_vw2 (ev_var rfl) (dv.mono e4)) (.str z)) (by rw [List.length_map, List.length_singleton]; omega)) (by rw [List.map_append (l₁ := c' ++ [x])]; rfl)
        | lead y lo hi => cases hf'
    · obtain ⟨f, fs, x3, x4, rfl, ex, nf, hf, df⟩ := pv
      have hl : ws.length = L.length := by rw [dL.len, List.length_map]
      rw [hl, List.take_length] at df
      refine s_rlq (lq_call (ea_cons (ev_var rfl) ea_nil) (spq_once encC hf df (fun c hc => ?_) total)) fun q us' H2 nq e2 h2 d2 => k q us' H2 (fresh_back ex nq) (ex.trans e2) h2 d2
      obtain ⟨c0, hc0, hcx⟩ := List.mem_flatMap.mp hc
      unfold ext at hcx
      obtain ⟨p, hp, rfl⟩ := List.mem_map.mp hcx
      intro x hx
      rcases List.mem_append.mp hx with h | h
      · exact (okL c0 hc0).2 x h
      · rw [List.mem_singleton.mp h]; exact (eds_rule ok p (List.mem_filter.mp hp).1).2
end
end K32
end
section
set_option maxHeartbeats 2000000
/-! sorted(lists of texts) -/
namespace BK
open PySem PySem.Spec PyProof.Rows L2 ZS PySem.W
def ptD (c : List Str) : PyData := .list (c.map PyData.str)
theorem row_nil_str (b : Str) (ys : List PyData) : PySem.W.rowLt [] (.str b :: ys) = true := by
  show PyProof.Rows.lexLt itemOrd (PySem.W.keyToksAll []) (PySem.W.keyToksAll (.str b :: ys)) = true
  rw [PySem.W.toks_all_cons, PySem.W.keyToksAll, lex_diff (O := itemOrd) (by simp)]
  rfl
theorem row_str_nil (a : Str) (xs : List PyData) : PySem.W.rowLt (.str a :: xs) [] = false := by
  show PyProof.Rows.lexLt itemOrd (PySem.W.keyToksAll (.str a :: xs)) (PySem.W.keyToksAll []) = false
  rw [PySem.W.toks_all_cons, PySem.W.keyToksAll, lex_diff (O := itemOrd) (by simp)]
  rfl
theorem lt_ptD (a b : List Str) : PySem.W.dataLt (ptD a) (ptD b) = lexB sLt a b := by
  have key : ∀ a b : List Str, PySem.W.rowLt (a.map PyData.str) (b.map PyData.str) = lexB sLt a b := by
    intro a
    induction a with
    | nil =>
      intro b
      cases b with
      | nil => exact row_nil
      | cons y b => rw [List.map_cons]; exact row_nil_str y _
    | cons x a ih =>
      intro b
      cases b with
      | nil => rw [List.map_cons]; exact row_str_nil x _
      | cons y b => rw [List.map_cons, List.map_cons, row_str, ih, lexB]; rfl
  unfold ptD
  rw [PySem.W.dataLt_list]
  exact key a b
theorem lexB_asym {α : Type} [DecidableEq α] {lt : α → α → Bool} (O : Ord lt) : ∀ {a b : List α}, lexB lt a b = true → lexB lt b a = false
  | [], [], h => by cases h
  | [], _ :: _, _ => rfl
  | _ :: _, [], h => by cases h
  | x :: a, y :: b, h => by
    rw [lexB] at h ⊢
    by_cases e : x = y
    · subst e
      rw [if_pos rfl] at h ⊢
      exact lexB_asym O h
    · rw [if_neg e] at h
      rw [if_neg (Ne.symm e)]
      exact O.asym _ _ h
theorem lexB_trans {α : Type} [DecidableEq α] {lt : α → α → Bool} (O : Ord lt) : ∀ {a b c : List α}, lexB lt b a = false → lexB lt c b = false → lexB lt c a = false
  | [], _, [], _, _ => rfl
  | [], _, _ :: _, _, _ => rfl
  | _ :: _, [], [], h, _ => by cases h
  | _ :: _, _ :: _, [], _, h => by cases h
  | _ :: _, [], _ :: _, h, _ => by cases h
  | x :: a, y :: b, z :: c, h1, h2 => by
    rw [lexB] at h1 h2 ⊢
    by_cases e1 : y = x
    · subst e1
      rw [if_pos rfl] at h1
      by_cases e2 : z = y
      · subst e2
        rw [if_pos rfl] at h2 ⊢
        exact lexB_trans O h1 h2
      · rw [if_neg e2] at h2 ⊢
        exact h2
    · rw [if_neg e1] at h1
      by_cases e2 : z = y
      · subst e2
        rw [if_neg e1]
        exact h1
      · rw [if_neg e2] at h2
        by_cases e3 : z = x
        · subst e3
          exact absurd (O.tot _ _ h2 h1) e2
        · rw [if_neg e3]
          exact O.trans _ _ _ h1 h2
theorem pts_of {H : Hp} : ∀ c : List Str, OW.DqAll H (c.map V.str) (c.map PyData.str)
  | [] => .nil
  | x :: c => .cons (.str x) (pts_of c)
theorem dep_pt (c : List Str) : (ptD c).depth = 1 := by
  have : ∀ c : List Str, PyData.depthAll (c.map PyData.str) = 0 := by
    intro c
    induction c with
    | nil => rfl
    | cons x c ih => rw [List.map_cons, PyData.depthAll, PyData.depth, ih]; rfl
  unfold ptD
  rw [PyData.depth, this]
theorem like_pt : ∀ a b : List Str, alikeAll (a.map PyData.str) (b.map PyData.str) = true
  | [], _ => by rw [List.map_nil, alikeAll]
  | _ :: _, [] => by rw [List.map_cons, List.map_nil, alikeAll]
  | x :: a, y :: b => by rw [List.map_cons, List.map_cons, alikeAll, like_pt a b]; rfl
variable {X : Cx}
def rSortC (K : PySem.W.Frag) : List V → Hp → VK → Prop := fun vs H Q => ∃ (a : Addr) (L : List (List Str × Addr)), vs = [V.ref a] ∧ SqL K H a (L.map fun p => V.ref p.2) ∧ (∀ p ∈ L, H p.2 = some (.lst (p.1.map V.str))) ∧
  ∀ (ps : List (List Str × Addr)) (p : Addr), ps.Perm L → (ps.map (·.1)).Pairwise (fun a b => lexB sLt b a = false) → H p = none → Q (.ref p) (upd H p (.lst (ps.map fun q => V.ref q.2)))
theorem ordSt : Ord sLt := ⟨fun a b h1 h2 => sLt_tot a b h1 h2, fun a b h => decide_eq_false (List.not_lt.mpr (List.le_of_lt (of_decide_eq_true h))), fun a b c h1 h2 => sLt_trans a b c h1 h2⟩
theorem srt_C (L : List (List Str × Addr)) : ((L.mergeSort (dataLe false fun b : List Str × Addr => ptD b.1)).map (·.1)).Pairwise (fun a b => lexB sLt b a = false) := by
  have le : (dataLe false fun b : List Str × Addr => ptD b.1) = fun a b : List Str × Addr => !lexB sLt b.1 a.1 := funext fun a => funext fun b => show (!dataLt (ptD b.1) (ptD a.1)) = _ by rw [lt_ptD]
  rw [le, List.pairwise_map]
  refine (List.pairwise_mergeSort (fun a b c h1 h2 => ?_) (fun a b => ?_) L).imp fun h => by simpa using h
  · simp only [Bool.not_eq_true'] at h1 h2 ⊢
    exact lexB_trans ordSt h1 h2
  · simp only [Bool.or_eq_true, Bool.not_eq_true']
    cases h : lexB sLt b.1 a.1 with
    | false => exact .inl rfl
    | true => exact .inr (lexB_asym ordSt h)
theorem cr_sortC (hu : X.A.units + 64 < cLine) : CallR X (.builtin "sorted") (rSortC X.K) := by
  rintro pins s σ H _ us Q I r ⟨a, L, rfl, ha, hr, q⟩
  obtain rfl := Vals.ref1 r
  obtain ⟨its, rv, pl, hz⟩ := I.list ha
  rw [List.length_map] at hz
  have pm := List.mergeSort_perm L (dataLe false fun b : List Str × Addr => ptD b.1)
  have one : EachIs (fun v (b : List Str × Addr) => v = Value.ref b.2 ∧ True) its L := each_self rv fun p _ => ⟨rfl, trivial⟩
  have two : EachIs (fun v (b : List Str × Addr) => ∃ as, Reads s.heap v (ptD b.1) as) its L := each_self rv fun p hp => OW.Dq.reads I (ptD p.1) (.ref p.2) (.ref p.2) (.lst (hr p hp) (pts_of p.1)) rfl
  refine sorted_data (enc := fun b : List Str × Addr => ptD b.1) pl.isList one two (AllAlike.of fun b b' => by rw [ptD, ptD, alike]; exact like_pt _ _) (Sortable.others fun b => ⟨(fun z => nomatch z), fun xs z => nomatch z⟩) hz (fun b _ => by rw [dep_pt]; omega) fun out lo eo => ?_
  obtain ⟨c, hc⟩ := PyProof.Rows.sortedAll_at s.heap its out.toArray
  have el : ((L.mergeSort (dataLe false fun b : List Str × Addr => ptD b.1)).map fun q => V.ref q.2).length ≤ sizeLine := by rw [List.length_map, pm.length_eq]; exact hz
  exact ⟨.ref (s.heap.objs.size + 1), upd H (s.heap.objs.size + 1) (.lst ((L.mergeSort (dataLe false fun b : List Str × Addr => ptD b.1)).map fun q => V.ref q.2)), I.laid (t' := s.toks) (fun _ _ => PyProof.Rows.sortedAll_old) (Nat.le_succ _) ⟨el, out, c, each_refs (f := fun b : List Str × Addr => b.2) (C := fun _ _ => True) eo, hc⟩, rfl, q _ _ pm (srt_C L) (I.hok.fresh (Nat.le_succ _))⟩
end BK
end
section
set_option maxHeartbeats 4000000
namespace K32
open PySem PyProof.Rows L2 Evl G OW BK TD
/-! ### what depends on the promises alone, not on where they stand -/
theorem rch_same {E E' : List Ed} {G G' : List Str} (h : ∀ p, p ∈ E → p ∈ E') (g : ∀ x, x ∈ G → x ∈ G') : ∀ {m : Nat} {x : Str}, Rch E G m x → Rch E' G' m x
  | 0, x, k => g x k
  | m + 1, x, ⟨y, hy, k⟩ => ⟨y, h _ hy, rch_same h g k⟩
theorem eds_same {vs ws : List Vow} (h : ∀ v, v ∈ vs → v ∈ ws) : ∀ p, p ∈ eds vs → p ∈ eds ws := fun p hp => by
  obtain ⟨v, hv, e⟩ := List.mem_filterMap.mp hp
  exact List.mem_filterMap.mpr ⟨v, h v hv, e⟩
theorem rchL_same {E E' : List Ed} {G : List Str} (h : ∀ p, p ∈ E ↔ p ∈ E') : rchL E G = rchL E' G := by
  unfold rchL
  refine congrArg nrm (List.filter_congr fun x _ => ?_)
  exact decide_eq_decide.mpr ⟨fun ⟨m, k⟩ => ⟨m, rch_same (fun p => (h p).mp) (fun _ z => z) k⟩, fun ⟨m, k⟩ => ⟨m, rch_same (fun p => (h p).mpr) (fun _ z => z) k⟩⟩
section
variable {vs ws : List Vow} (h : ∀ v, v ∈ vs ↔ v ∈ ws)
include h
theorem edsI (p : Ed) : p ∈ eds vs ↔ p ∈ eds ws := ⟨eds_same (fun v => (h v).mp) p, eds_same (fun v => (h v).mpr) p⟩
theorem undL_same (r : Str) : undL vs r = undL ws r := rchL_same (edsI h)
theorem ovrL_same (r : Str) : ovrL vs r = ovrL ws r := rchL_same fun p => by
  unfold bk
  simp only [List.mem_map, edsI h]
theorem bnds_same (o : Vow → Option Int) (U : List Str) (n : Int) : n ∈ bnds o vs U ↔ n ∈ bnds o ws U := by
  rw [mem_bnds, mem_bnds]
  simp only [h]
theorem withB_same (o : Vow → Option Int) (n : Int) (x : Str) : x ∈ withB o vs n ↔ x ∈ withB o ws n := by
  rw [mem_withB, mem_withB]
  simp only [h]
end
theorem mxN_same {a b : List Int} (h : ∀ n, n ∈ a ↔ n ∈ b) : mxN .non a = mxN .non b := by
  rcases mx_is a with ea | ⟨i, ea⟩
  · cases a with
    | nil =>
      cases b with
      | nil => rfl
      | cons k r => exact absurd ((h k).mpr List.mem_cons_self) (by simp)
    | cons k r => cases ea
  · rcases mx_is b with eb | ⟨j, eb⟩
    · cases b with
      | nil => exact absurd ((h i).mp (mx_mem ea).1) (by simp)
      | cons k r => cases eb
    · obtain ⟨a1, a2⟩ := mx_mem ea
      obtain ⟨b1, b2⟩ := mx_mem eb
      rw [ea, eb, Int.le_antisymm (b2 i ((h i).mp a1)) (a2 j ((h j).mpr b1))]
theorem mnN_same {a b : List Int} (h : ∀ n, n ∈ a ↔ n ∈ b) : mnN .non a = mnN .non b := by
  rcases mn_is a with ea | ⟨i, ea⟩
  · cases a with
    | nil =>
      cases b with
      | nil => rfl
      | cons k r => exact absurd ((h k).mpr List.mem_cons_self) (by simp)
    | cons k r => cases ea
  · rcases mn_is b with eb | ⟨j, eb⟩
    · cases b with
      | nil => exact absurd ((h i).mp (mn_mem ea).1) (by simp)
      | cons k r => cases eb
    · obtain ⟨a1, a2⟩ := mn_mem ea
      obtain ⟨b1, b2⟩ := mn_mem eb
      rw [ea, eb, Int.le_antisymm (a2 j ((h j).mpr b1)) (b2 i ((h i).mp a1))]
theorem lowV_same {vs ws : List Vow} (h : ∀ v, v ∈ vs ↔ v ∈ ws) (r : Str) : lowV vs r = lowV ws r := by
  unfold lowV
  rw [undL_same h]
  exact mxN_same (bnds_same h loO _)
theorem highV_same {vs ws : List Vow} (h : ∀ v, v ∈ vs ↔ v ∈ ws) (r : Str) : highV vs r = highV ws r := by
  unfold highV
  rw [ovrL_same h]
  exact mnN_same (bnds_same h hiO _)
/-- the first of the shortest chains, by members alone -/
theorem first_same {E E' : List Ed} {S S' G G' : List Str} (h : ∀ p, p ∈ E ↔ p ∈ E') (hs : ∀ x, x ∈ S ↔ x ∈ S') (hg : ∀ x, x ∈ G ↔ x ∈ G') {c : List Str} (k : IsFirst sLt E S G c) : IsFirst sLt E' S' G' c := by
  have pth : ∀ {A B : List Ed}, (∀ p, p ∈ A ↔ p ∈ B) → ∀ {c : List Str}, Pth A c → Pth B c := by
    intro A B hab c
    induction c with
    | nil => exact fun h => h
    | cons x c ih =>
      cases c with
      | nil => exact fun h => h
      | cons y c => exact fun p => ⟨(hab _).mp p.1, ih p.2⟩
  have lead : ∀ {A B : List Ed} {S S' G G' : List Str}, (∀ p, p ∈ A ↔ p ∈ B) → (∀ x, x ∈ S ↔ x ∈ S') → (∀ x, x ∈ G ↔ x ∈ G') → ∀ {c : List Str}, Leads A S G c → Leads B S' G' c := by
    intro A B S S' G G' hab hs hg c l
    exact ⟨pth hab l.pth, l.hd.elim fun x hx => hx.elim fun r hr => ⟨x, r, hr.1, (hs x).mp hr.2⟩, l.last.elim fun y hy => ⟨y, hy.1, (hg y).mp hy.2⟩⟩
  exact ⟨lead h hs hg k.is_, fun c' l => k.least c' (lead (fun p => (h p).symm) (fun x => (hs x).symm) (fun x => (hg x).symm) l)⟩
end K32
end
section
set_option maxHeartbeats 4000000
namespace K32
open PySem PyProof.Rows L2 Evl G OW BK TD
section
variable {P : Program} {w : World} {K : PySem.W.Frag} {mg : Str → Option Value} {base : Heap} {C : Addr} {σ : L2.St} {H : Hp} {te tl ta tb : TE} {tt : TT} {i j : Nat} {vs ws : List Nat}
def prsL (B : Str → List Str) (f : Str → Str → Bool) (A : List Str) : List Ed := A.flatMap fun r => ((B r).filter (f r)).map fun x => (r, x)
/-- [(r, x) for r in rules for x in a new list of rules if ..] -/
theorem lq_lc2S {A : List Str} {B : Str → List Str} (f : Str → Str → Bool) (hA : EvSl tl σ H (A.map PyData.str)) (nA : A.length ≤ 100) (nB : ∀ r ∈ A, (B r).length ≤ 100)
    (hw1 : ∀ x, wipe ((wipe σ vs).set i (some x)) vs = wipe σ vs) (hw2 : ∀ x y, wipe ((wipe ((wipe σ vs).set i (some x)) ws).set j (some y)) ws = wipe ((wipe σ vs).set i (some x)) ws)
    (hB : ∀ r H1, Ex H H1 → r ∈ A → EvLq tb ((wipe σ vs).set i (some (.str r))) H1 ((B r).map PyData.str))
    (ht : ∀ r x H1, Ex H H1 → r ∈ A → x ∈ B r → EvT tt ((wipe ((wipe σ vs).set i (some (.str r))) ws).set j (some (.str x))) H1 (f r x))
    (he : ∀ r x H1, Ex H H1 → r ∈ A → x ∈ B r → EvQ te ((wipe ((wipe σ vs).set i (some (.str r))) ws).set j (some (.str x))) H1 (edD (r, x))) :
    EvLq (tLc2 (iList K tl) (gName i) tYes (iList K tb) (gName j) tt te vs ws) σ H ((prsL B f A).map edD) := fun H0 e Q q => hA H0 e _ fun a us H1 e1 ha d => by
  obtain rfl := strs_of d
  have e01 := e.trans e1
  refine ⟨a, rfl, ⟨_, sq_of ha⟩, fun Dl hD => ⟨fun n m H' => m = A.length - n ∧ n ≤ A.length ∧ ∃ acc : List V, Ex H1 H' ∧ H' Dl = some (.lst acc) ∧ acc.length ≤ n * 100 ∧ DqAll H' acc ((prsL B f (A.take n)).map edD), ⟨A.length, by simp, Nat.zero_le _, [], Ex.new hD, upd_same, Nat.zero_le _, by rw [List.take_zero]; exact .nil⟩, ?_⟩⟩
  rintro n m H' ⟨rfl, hn, acc, x1, x2, x3, x4⟩
  have hs2 : SqL K H' a (A.map V.str) := sq_of (x1 a _ ha)
  by_cases hlt : n < A.length
  · have hr : A[n]? = some A[n] := List.getElem?_eq_getElem hlt
    have hm := List.mem_of_getElem? hr
    generalize A[n] = r at hr hm
    have bn := nB r hm
    have tk : prsL B f (A.take (n + 1)) = prsL B f (A.take n) ++ ((B r).filter (f r)).map fun x => (r, x) := by
      unfold prsL
      rw [List.take_add_one, hr, List.flatMap_append]
      simp
    refine .inr ⟨⟨_, V.str r, hs2, by rw [List.getElem?_map, hr]; rfl⟩, fun H'' => ∃ acc : List V, Ex H1 H'' ∧ H'' Dl = some (.lst acc) ∧ acc.length ≤ (n + 1) * 100 ∧ DqAll H'' acc ((prsL B f (A.take (n + 1))).map edD), fun H'' p' => ⟨A.length - (n + 1), by omega, rfl, hlt, p'⟩, fun x0 H'' y => ?_⟩
    obtain ⟨rfl, hx⟩ := y
    have hx0 := hx _ hs2
    rw [List.getElem?_map, hr] at hx0
    cases hx0
    refine ⟨hw1 _, lc_yes H'' (Ex.refl _) _ fun H3 e3 => ?_⟩
    rw [if_pos rfl]
    have x13 := x1.trans e3
    refine hB r H3 (e01.trans x13) hm H3 (Ex.refl _) _ fun b bs H4 nb e4 hb db => ?_
    obtain rfl := strs_of db
    have h4 := e4 _ _ (e3 _ _ x2)
    have bD : b ≠ Dl := (ne_of_none (e3 _ _ x2) nb).symm
    refine ⟨b, rfl, ⟨_, sq_of hb⟩, fun k m H' => m = (B r).length - k ∧ k ≤ (B r).length ∧ ∃ acc : List V, Ex H1 H' ∧ H' b = some (.lst ((B r).map V.str)) ∧ H' Dl = some (.lst acc) ∧ acc.length ≤ n * 100 + k ∧ DqAll H' acc ((prsL B f (A.take n) ++ (((B r).take k).filter (f r)).map fun x => (r, x)).map edD), ⟨(B r).length, by simp, Nat.zero_le _, acc, x13.trans e4, hb, h4, x3, by rw [List.take_zero, List.filter_nil, List.map_nil, List.append_nil]; exact x4.mono (e3.trans e4)⟩, ?_⟩
    rintro k m H5 ⟨rfl, hk, acc2, y1, y2, y3, y4, y5⟩
    by_cases hlk : k < (B r).length
    · have hz : (B r)[k]? = some (B r)[k] := List.getElem?_eq_getElem hlk
      have hzm := List.mem_of_getElem? hz
      generalize (B r)[k] = z at hz hzm
      have tk2 : ((B r).take (k + 1)).filter (f r) = ((B r).take k).filter (f r) ++ [z].filter (f r) := by
        rw [List.take_add_one, hz, List.filter_append]; rfl
      refine .inr ⟨⟨_, V.str z, sq_of y2, by rw [List.getElem?_map, hz]; rfl⟩, fun H'' => ∃ acc : List V, Ex H1 H'' ∧ H'' b = some (.lst ((B r).map V.str)) ∧ H'' Dl = some (.lst acc) ∧ acc.length ≤ n * 100 + (k + 1) ∧ DqAll H'' acc ((prsL B f (A.take n) ++ (((B r).take (k + 1)).filter (f r)).map fun x => (r, x)).map edD), fun H'' p' => ⟨(B r).length - (k + 1), by omega, rfl, hlk, p'⟩, fun x1' H6 y' => ?_⟩
      obtain ⟨rfl, hx'⟩ := y'
      have hx1 := hx' _ (sq_of y2)
      rw [List.getElem?_map, hz] at hx1
      cases hx1
      refine ⟨hw2 _ _, ?_⟩
      refine ht r z H6 (e01.trans y1) hm hzm H6 (Ex.refl _) _ fun H7 e7 => ?_
      cases hf : f r z with
      | false =>
        rw [if_neg Bool.false_ne_true]
        refine ⟨acc2, y1.trans e7, e7 _ _ y2, e7 _ _ y3, Nat.le_succ_of_le y4, ?_⟩
        rw [tk2, List.filter_cons, if_neg (by rw [hf]; exact Bool.false_ne_true), List.filter_nil, List.append_nil]
        exact y5.mono e7
      | true =>
        rw [if_pos rfl]
        refine he r z H7 ((e01.trans y1).trans e7) hm hzm H7 (Ex.refl _) _ fun y H8 e8 hy => ?_
        have h8 := e8 _ _ (e7 _ _ y3)
        refine ⟨acc2, h8, sz_lt (by omega), acc2 ++ [y], ((y1.trans e7).trans e8).mut hD, by rw [upd_ne bD]; exact e8 _ _ (e7 _ _ y2), upd_same, by rw [List.length_append]; exact Nat.succ_le_succ y4, ?_⟩
        have tups : ∀ c zs, H8 c = some (.tup zs) → upd H8 Dl (.lst (acc2 ++ [y])) c = some (.tup zs) := fun c zs hc => by rw [upd_ne (show c ≠ Dl from fun z => by rw [z, h8] at hc; cases hc)]; exact hc
        refine flats_in tups (fun z hz => by obtain ⟨y, _, rfl⟩ := List.mem_map.mp hz; rfl) ?_
        rw [tk2, List.filter_cons, if_pos hf, List.filter_nil, List.map_append (f := fun x => (r, x)), ← List.append_assoc, List.map_append (f := edD)]
        exact (y5.mono (e7.trans e8)).app (.cons hy .nil)
    · refine .inl ⟨⟨_, sq_of y2, by rw [List.length_map]; omega⟩, acc2, y1, y3, by omega, ?_⟩
      rw [List.take_of_length_le (l := B r) (i := k) (by omega)] at y5
      rw [tk]
      exact y5
  · refine .inl ⟨⟨_, hs2, by rw [List.length_map]; omega⟩, ?_⟩
    rw [List.take_of_length_le (by omega)] at x4
    exact q Dl acc H' (fresh_back e1 hD) (e1.trans x1) x2 x4
noncomputable def pairsQ (rs : List Rw) (vs : List Vow) : List Ed := prsL (ovrL vs) (fun r x => !decide (x = r)) (nrm (named rs vs))
noncomputable def sp_pairs (C : Addr) : Sp := fun as H Q _ => ∃ (p : Addr) (rs : List Rw) (vs : List Vow), as = [.ref p] ∧ BkAt H C p rs vs ∧ (∀ r ∈ rs, rwOk r) ∧ (∀ v ∈ vs, vwOk v) ∧ rs.length ≤ 24 ∧ vs.length ≤ 12 ∧ RetLq ((pairsQ rs vs).map edD) H Q
theorem ovr_rule {vs : List Vow} (ok : ∀ v ∈ vs, vwOk v) {r : Str} (hr : r ∈ ruleL) : ∀ x ∈ ovrL vs r, x ∈ ruleL := fun x hx => by
  obtain ⟨m, hm⟩ := (mem_rchL (fitO ok hr)).mp hx
  exact rch_rule (fitO ok hr) hm
theorem ovr_len {vs : List Vow} (ok : ∀ v ∈ vs, vwOk v) {r : Str} (hr : r ∈ ruleL) : (ovrL vs r).length ≤ 8 := by
  have := sub_len (ys := ruleL) (nrm_nodup (xs := _)) (ovr_rule ok hr)
  rw [show ruleL.length = 8 by decide +kernel] at this
  exact this
theorem ok_pairs {f f1 gr qr : Addr} {fd fd1 fr : FuncData} (F : Fun K "quick_pairs" "quick_pairs" s_quick_pairs f fd) (T : Txt P w K mg C) (m_rules : Prp P w K mg base C "rules" qr gr fr ["self"] 1 (sp_rules C)) (c_above : Cal P w K mg base "above" f1 fd1 ["book", "rule"] 4 (sp_above C)) : FnOk P w K mg base CX0 5 f fd ["book"] (sp_pairs C) := by
  refine F.ok sc_quick_pairs (fun vs H Q E h => ?_) (fun cdv A outer s H vs Q E hr h => ?_)
  · obtain ⟨p, rs, vs, rfl, _⟩ := h
    rfl
  · obtain ⟨p, rs, vs, rfl, b, okr, ok, fr, few, k⟩ := h
    refine ⟨_, (pss_one (ps_ret (pe_lc2 (own := [("rule", 1), ("other", 2)]) (vs1 := [2]) (g := (gName 1)) (g1 := (gName 2)) (by rfl) sc_quick_pairs.nd (piL (K := K) rfl (pe_prop (pv 0) T.cl m_rules.pr m_rules.ok (hr.mono (by decide)) m_rules.bd .nil pass0 (by rfl))) (blkOk_by (own := [("rule", 1), ("other", 2)]) (N := ["book", "rule", "other"]) (sc := defScope s_quick_pairs) (by decide +kernel)) (by decide) (fun _ _ _ _ _ => (pg_name (i := 1) sc_quick_pairs.nd rfl (Or.inl rfl))) (fun _ _ _ _ _ => pts_nil) (fun _ _ _ _ _ => (piL (K := K) rfl (pe_call c_above.ok (hr.mono (by decide)) (by rfl) c_above.mgx c_above.kp c_above.bd .nil pass0 (pa_cons (pv 0) (pa_cons (pv 1) pa_nil))))) (fun _ _ _ _ _ => (pg_name (i := 2) sc_quick_pairs.nd rfl (Or.inl rfl))) (fun _ _ _ _ _ => (pts_one (pt_cmpR op_ne (pv 2) (pv 1) (nomark _)))) (fun _ _ _ _ _ => (pe_tup (pa_cons (pv 1) (pa_cons (pv 2) pa_nil))))))), ?_⟩
    have rl := rules_len okr ok
    have rule : ∀ x ∈ nrm (named rs vs), x ∈ ruleL := fun x hx => named_ok okr ok x (mem_nrm.mp hx)
    exact s_rlq (lq_lc2S (fun r x => !decide (x = r)) (esl_lq (lq_pr (ev_var rfl) b (spq_rules b fr few))) (by omega) (fun r hr => by have := ovr_len ok (rule r hr); omega) (fun _ => rfl) (fun _ _ => rfl)
      (fun r H1 e1 hr => lq_ask (ev_var rfl) (ev_var rfl) (b.mono e1) ok few (rule r hr))
      (fun r x H1 e1 hr hx => et_is (et_test (ev_op (ev_var rfl) (ev_var rfl) (rv_ne rfl))) (by simp))
      (fun r x H1 e1 hr hx => eq_tup (aq_cons (eq_of (ev_var rfl) fun _ _ => .str _) (aq_cons (eq_of (ev_var rfl) fun _ _ => .str _) aq_nil)) (by show 2 ≤ 100000; decide))) k
end
end K32
end
section
set_option maxHeartbeats 4000000
namespace K32
open PySem PyProof.Rows L2 Evl G OW BK TD
/-! ### the law's lists, one rule longer each turn: mathematics -/
def R6 : List Str := ["a", "b", "c", "d", "e", "f"]
def fac : Nat → Nat
  | 0 => 1
  | n + 1 => (n + 1) * fac n
def six (c : List Str) : List Str := c.filter fun x => decide (x ∈ R6)
structure Lay (E : List Ed) (S : List Str) (L : List (List Str)) (t u : Nat) : Prop where
  mem : ∀ c, c ∈ L ↔ c.length = t + 1 ∧ c.Nodup ∧ Pth E c ∧ ∃ x r, c = x :: r ∧ x ∈ S
  six : ∀ c ∈ L, u ≤ (six c).length
  few : L.length * fac (6 - u) ≤ 720
theorem lay_start {E : List Ed} {S : List Str} (nd : S.Nodup) {u : Nat} (h : (S.length ≤ 1 ∧ u = 0) ∨ ((∀ x ∈ S, x ∈ R6) ∧ u = 1)) : Lay E S ((nrm S).map fun x => [x]) 0 u where
  mem c := by
    simp only [List.mem_map, mem_nrm]
    constructor
    · rintro ⟨x, hx, rfl⟩
      exact ⟨rfl, by simp, trivial, x, [], rfl, hx⟩
    · rintro ⟨hl, _, _, x, r, rfl, hx⟩
      have : r = [] := List.length_eq_zero_iff.mp (by simpa using hl)
      exact ⟨x, hx, by rw [this]⟩
  six c hc := by
    obtain ⟨x, hx, rfl⟩ := List.mem_map.mp hc
    rcases h with ⟨_, rfl⟩ | ⟨h, rfl⟩
    · exact Nat.zero_le _
    · unfold K32.six
      rw [List.filter_cons, if_pos (decide_eq_true (h x (mem_nrm.mp hx)))]
      simp
  few := by
    rw [List.length_map]
    have le : (nrm S).length ≤ S.length := sub_len nrm_nodup fun x hx => mem_nrm.mp hx
    rcases h with ⟨h, rfl⟩ | ⟨h, rfl⟩
    · have : fac (6 - 0) = 720 := rfl
      rw [this]
      omega
    · have : fac (6 - 1) = 120 := rfl
      rw [this]
      have := sub_len (ys := R6) nd h
      rw [show R6.length = 6 from rfl] at this
      omega
theorem lastS_cons (x y : Str) (c : List Str) : lastS (x :: y :: c) = lastS (y :: c) := by unfold lastS; rw [List.getLast?_cons_cons]
theorem pth_snoc {E : List Ed} {y : Str} : ∀ {c : List Str}, c ≠ [] → (Pth E (c ++ [y]) ↔ Pth E c ∧ (lastS c, y) ∈ E)
  | [], h => absurd rfl h
  | [x], _ => ⟨fun p => ⟨trivial, p.1⟩, fun p => ⟨p.2, trivial⟩⟩
  | x :: z :: c, _ => by
    have ih := pth_snoc (E := E) (y := y) (c := z :: c) (by simp)
    rw [lastS_cons]
    show ((x, z) ∈ E ∧ Pth E ((z :: c) ++ [y])) ↔ ((x, z) ∈ E ∧ Pth E (z :: c)) ∧ _
    rw [ih, and_assoc]
theorem mem_longer {E : List Ed} {L : List (List Str)} {c : List Str} : c ∈ longer E L ↔ ∃ c0 ∈ L, ∃ y, (lastS c0, y) ∈ E ∧ y ∉ c0 ∧ c = c0 ++ [y] := by
  unfold longer ext
  simp only [List.mem_flatMap, List.mem_map, List.mem_filter, Bool.and_eq_true, decide_eq_true_eq, Bool.not_eq_true', decide_eq_false_iff_not]
  constructor
  · rintro ⟨c0, h0, ⟨a, y⟩, ⟨h1, h2, h3⟩, rfl⟩
    exact ⟨c0, h0, y, h2 ▸ h1, h3, rfl⟩
  · rintro ⟨c0, h0, y, h1, h2, rfl⟩
    exact ⟨c0, h0, (lastS c0, y), ⟨h1, rfl, h2⟩, rfl⟩
theorem flat_len {α β : Type} {f : α → List β} {k : Nat} : ∀ {L : List α}, (∀ c ∈ L, (f c).length ≤ k) → (L.flatMap f).length ≤ L.length * k
  | [], _ => by simp
  | c :: L, h => by
    rw [List.flatMap_cons, List.length_append, List.length_cons, Nat.succ_mul]
    have := h c List.mem_cons_self
    have := flat_len fun x hx => h x (List.mem_cons_of_mem c hx)
    omega
theorem ext_len {E : List Ed} (nE : E.Nodup) (h6 : ∀ p ∈ E, p.2 ∈ R6) {c : List Str} (nd : c.Nodup) {u : Nat} (hu : u ≤ (six c).length) : (ext E c).length ≤ 6 - u := by
  unfold ext
  rw [List.length_map]
  generalize hF : (E.filter fun p => decide (p.1 = lastS c) && !decide (p.2 ∈ c)) = F
  have inF : ∀ p ∈ F, p ∈ E ∧ p.1 = lastS c ∧ p.2 ∉ c := fun p hp => by
    rw [← hF] at hp
    simpa using List.mem_filter.mp hp
  have nF : (F.map (·.2)).Nodup := by
    unfold List.Nodup
    rw [List.pairwise_map]
    have : F.Nodup := by rw [← hF]; exact List.Pairwise.filter _ nE
    refine List.Pairwise.imp_of_mem (fun {a b} ha hb ne e => ne ?_) this
    exact Prod.ext ((inF a ha).2.1.trans (inF b hb).2.1.symm) e
  have all : ((six c) ++ F.map (·.2)).Nodup := by
    rw [List.nodup_append]
    refine ⟨List.Pairwise.filter _ nd, nF, fun a ha b hb e => ?_⟩
    obtain ⟨p, hp, rfl⟩ := List.mem_map.mp hb
    exact (inF p hp).2.2 (e ▸ (List.mem_filter.mp ha).1)
  have := sub_len (ys := R6) all fun x hx => by
    rcases List.mem_append.mp hx with h | h
    · exact of_decide_eq_true (List.mem_filter.mp h).2
    · obtain ⟨p, hp, rfl⟩ := List.mem_map.mp h
      exact h6 p (inF p hp).1
  rw [List.length_append, List.length_map, show R6.length = 6 from rfl] at this
  omega
theorem lay_next {E : List Ed} {S : List Str} {L : List (List Str)} {t u : Nat} (nE : E.Nodup) (h6 : ∀ p ∈ E, p.2 ∈ R6) (Y : Lay E S L t u) : (longer E L).length ≤ 720 ∧ Lay E S (once (longer E L)) (t + 1) (u + 1) := by
  have len : (longer E L).length ≤ L.length * (6 - u) := flat_len fun c hc => ext_len nE h6 ((Y.mem c).mp hc).2.1 (Y.six c hc)
  have few := Y.few
  have key : (longer E L).length * fac (6 - (u + 1)) ≤ 720 := by
    rcases Nat.lt_or_ge u 6 with h | h
    · obtain ⟨m, hm⟩ : ∃ m, 6 - u = m + 1 := ⟨5 - u, by omega⟩
      rw [hm, fac] at few
      rw [hm] at len
      rw [show 6 - (u + 1) = m by omega]
      refine Nat.le_trans (Nat.mul_le_mul_right _ len) ?_
      rw [Nat.mul_assoc]
      exact few
    · rw [show 6 - u = 0 by omega, Nat.mul_zero] at len
      rw [Nat.le_zero.mp len, Nat.zero_mul]
      exact Nat.zero_le _
  have fpos : ∀ n, 1 ≤ fac n := fun n => by
    induction n with
    | zero => exact Nat.le_refl _
    | succ n ih => rw [fac]; exact Nat.le_trans ih (Nat.le_mul_of_pos_left _ (Nat.succ_pos n))
  refine ⟨Nat.le_trans (Nat.le_mul_of_pos_right _ (fpos _)) key, fun c => ?_, fun c hc => ?_, Nat.le_trans (Nat.mul_le_mul_right _ (once_len _)) key⟩
  · rw [mem_once', mem_longer]
    constructor
    · rintro ⟨c0, h0, y, h1, h2, rfl⟩
      obtain ⟨l0, nd, p, x, r, rfl, hx⟩ := (Y.mem c0).mp h0
      refine ⟨by rw [List.length_append, l0]; rfl, ?_, (pth_snoc (by simp)).mpr ⟨p, h1⟩, x, r ++ [y], rfl, hx⟩
      rw [List.nodup_append]
      exact ⟨nd, by simp, fun a ha b hb e => h2 (by rw [← List.mem_singleton.mp hb, ← e]; exact ha)⟩
    · rintro ⟨hl, nd, p, x, r, rfl, hx⟩
      have ne : x :: r ≠ [] := by simp
      have ec := List.dropLast_concat_getLast ne
      generalize (x :: r).dropLast = c0 at ec
      generalize (x :: r).getLast ne = y at ec
      rw [← ec] at hl nd p
      have l0 : c0.length = t + 1 := by rw [List.length_append, List.length_singleton] at hl; omega
      have ne0 : c0 ≠ [] := fun z => by rw [z] at l0; cases l0
      obtain ⟨p1, p2⟩ := (pth_snoc ne0).mp p
      rw [List.nodup_append] at nd
      obtain ⟨n1, _, n3⟩ := nd
      refine ⟨c0, (Y.mem c0).mpr ⟨l0, n1, p1, ?_⟩, y, p2, fun hy => n3 y hy y (List.mem_singleton.mpr rfl) rfl, ec.symm⟩
      cases c0 with
      | nil => exact absurd rfl ne0
      | cons x' r' =>
        rw [List.cons_append] at ec
        injection ec with e1 e2
        exact ⟨x', r', rfl, e1 ▸ hx⟩
  · obtain ⟨c0, h0, y, h1, h2, rfl⟩ := mem_longer.mp (mem_once'.mp hc)
    have := Y.six c0 h0
    unfold K32.six at this ⊢
    rw [List.filter_append, List.length_append, List.filter_cons, if_pos (decide_eq_true (h6 _ h1))]
    show u + 1 ≤ _ + 1
    omega
/-! the first one there -/
theorem last_some {c : List Str} (h : c ≠ []) : c.getLast? = some (lastS c) := by
  unfold lastS
  rw [List.getLast?_eq_some_getLast h]; rfl
theorem short_nodup {E : List Ed} {S G : List Str} {c : List Str} (h : Leads E S G c) (s : ∀ c', Leads E S G c' → c.length ≤ c'.length) : c.Nodup ∧ ∀ x r, c = x :: r → Dst E G x r.length := by
  have d : ∀ x r, c = x :: r → Dst E G x r.length := fun x r e => by
    obtain ⟨x', r', e', hs⟩ := h.hd
    have : x' = x := by rw [e] at e'; exact (List.cons.inj e').1.symm
    subst this
    refine ⟨rch_of (e ▸ h.pth) (e ▸ h.last), fun m hm => ?_⟩
    obtain ⟨r2, l2, p2, y2⟩ := rch_path hm
    have := s (x' :: r2) ⟨p2, ⟨x', r2, rfl, hs⟩, y2⟩
    rw [e, List.length_cons, List.length_cons] at this
    omega
  exact ⟨(first_nodup h.pth h.last d).1, d⟩
section
variable {E : List Ed} {S G : List Str} {c0 : List Str} {L : List (List Str)} {t u : Nat}
def there (G : List Str) (L : List (List Str)) : List (List Str) := L.filter fun c => decide (lastS c ∈ G)
theorem there_leads (Y : Lay E S L t u) {c : List Str} (h : c ∈ there G L) : Leads E S G c ∧ c.length = t + 1 := by
  obtain ⟨h1, h2⟩ := List.mem_filter.mp h
  obtain ⟨l, nd, p, x, r, rfl, hx⟩ := (Y.mem c).mp h1
  exact ⟨⟨p, ⟨x, r, rfl, hx⟩, lastS (x :: r), last_some (by simp), of_decide_eq_true h2⟩, l⟩
theorem leads_there (Y : Lay E S L t u) {c : List Str} (h : Leads E S G c) (l : c.length = t + 1) (nd : c.Nodup) : c ∈ there G L := by
  obtain ⟨y, h1, h2⟩ := h.last
  refine List.mem_filter.mpr ⟨(Y.mem c).mpr ⟨l, nd, h.pth, h.hd.elim fun x hx => hx.elim fun r hr => ⟨x, r, hr.1, hr.2⟩⟩, decide_eq_true ?_⟩
  rw [last_some (fun z => by rw [z] at l; cases l)] at h1
  cases h1
  exact h2
theorem none_yet (F : IsFirst sLt E S G c0) (Y : Lay E S L t u) (ht : t < c0.length) (e : there G L = []) : t + 1 < c0.length := by
  rcases Nat.lt_or_ge (t + 1) c0.length with h | h
  · exact h
  · have := leads_there Y F.is_ (by omega) (short_nodup F.is_ fun c' k => (F.least c' k).1).1
    rw [e] at this
    cases this
theorem one_there (F : IsFirst sLt E S G c0) (Y : Lay E S L t u) (ht : t < c0.length) {c : List Str} (hc : c ∈ there G L) (mn : ∀ c' ∈ there G L, lexB sLt c' c = false) : c = c0 := by
  obtain ⟨k, l⟩ := there_leads Y hc
  have le := (F.least c k).1
  have e : c.length = c0.length := by omega
  refine first_one ordSt ⟨k, fun c' k' => ⟨by rw [e]; exact (F.least c' k').1, fun e' => mn c' (leads_there Y k' (by omega) ?_)⟩⟩ F
  exact (short_nodup k' fun c2 k2 => by rw [e', e]; exact (F.least c2 k2).1).1
theorem first_small (F : IsFirst sLt E S G c0) (T : Fits E G) : c0.length ≤ 8 := by
  obtain ⟨x, r, e, _⟩ := F.is_.hd
  have d := (short_nodup F.is_ fun c' k => (F.least c' k).1).2 x r e
  have := dst_small T d
  rw [e, List.length_cons]
  omega
end
end K32
end
section
set_option maxHeartbeats 4000000
namespace K32
open PySem PyProof.Rows L2 Evl G OW BK TD
/-! ### the law's chain -/
theorem pth_rule {E : List Ed} (h : ∀ p ∈ E, p.2 ∈ ruleL) : ∀ {r : List Str} {x : Str}, Pth E (x :: r) → x ∈ ruleL → ∀ z ∈ x :: r, z ∈ ruleL
  | [], x, _, hx, z, hz => by rw [List.mem_singleton.mp hz]; exact hx
  | y :: r, x, p, hx, z, hz => by
    rcases List.mem_cons.mp hz with rfl | hz
    · exact hx
    · exact pth_rule h p.2 (h _ p.1) z hz
theorem lexB_irr (c : List Str) : lexB sLt c c = false := by
  cases h : lexB sLt c c with
  | false => rfl
  | true => rw [← h]; exact lexB_asym ordSt h
theorem prs_path {H : Hp} : ∀ {us : List V} {cs : List (List Str)}, DqAll H us (cs.map pathD) → ∃ L : List (List Str × Addr), us = L.map (fun p => V.ref p.2) ∧ L.map (·.1) = cs ∧ ∀ p ∈ L, H p.2 = some (.lst (p.1.map V.str))
  | [], [], _ => ⟨[], rfl, rfl, fun _ h => nomatch h⟩
  | [], _ :: _, h => by cases h
  | _ :: _, [], h => by cases h
  | u :: us, c :: cs, h => by
    cases h with
    | cons h1 h2 =>
      obtain ⟨L, e1, e2, e3⟩ := prs_path h2
      obtain ⟨a, rfl, ha⟩ := path_of h1
      exact ⟨(c, a) :: L, by rw [e1]; rfl, by rw [← e2]; rfl, fun p hp => by
        rcases List.mem_cons.mp hp with rfl | hp
        · exact ha
        · exact e3 p hp⟩
section
variable {K : PySem.W.Frag} {σ : L2.St} {H : Hp} {te tl ta tb : TE} {tt : TT} {j : Nat} {vs : List Nat}
/-- [x for x in xs if ..]: the things themselves -/
theorem lq_lcX {α : Type} {enc : α → PyData} (f : α → Bool) {xs : List α} (h : EvSl tl σ H (xs.map enc)) (hz : xs.length ≤ 40000) (hw : ∀ x, wipe ((wipe σ vs).set j (some x)) vs = wipe σ vs) (hj : ∀ x, ((wipe σ vs).set j (some x))[j]? = some (some x))
    (ht : ∀ x u H1, Ex H H1 → x ∈ xs → Dq H1 u (enc x) → EvT tt ((wipe σ vs).set j (some u)) H1 (f x)) : EvLq (tLc (iList K tl) (gName j) tt (tVar j) vs) σ H ((xs.filter f).map enc) := fun H0 e Q q => h H0 e _ fun a us H1 e1 ha d => ⟨a, rfl, ⟨us, sq_of ha⟩, fun Dl hD => by
  have hl : us.length = xs.length := by rw [d.len, List.length_map]
  have e01 := e.trans e1
  refine lc_list (xs := us) (fun i H' => ∃ acc : List V, Ex H1 H' ∧ H' Dl = some (.lst acc) ∧ acc.length ≤ i ∧ DqAll H1 acc (((xs.take i).filter f).map enc)) ⟨[], Ex.new hD, upd_same, Nat.le_refl _, by rw [List.take_zero]; exact .nil⟩ (fun i H' _ ⟨acc, x1, _⟩ => sq_of (x1 a _ ha)) (fun i u H' hi ⟨acc, x1, x2, x3, x4⟩ => ?_) (fun H' ⟨acc, x1, x2, _, x4⟩ => ?_)
  · obtain ⟨dd, hd, hu⟩ := d.get hi
    rw [List.getElem?_map] at hd
    obtain ⟨x, hx, rfl⟩ := Option.map_eq_some_iff.mp hd
    have hm := List.mem_of_getElem? hx
    have ilt : i < us.length := (List.getElem?_eq_some_iff.mp hi).1
    have tk : (xs.take (i + 1)).filter f = (xs.take i).filter f ++ [x].filter f := by
      rw [List.take_add_one, hx, List.filter_append]
      rfl
    refine ⟨hw u, ?_⟩
    refine ht x u H' (e01.trans x1) hm (hu.mono x1) H' (Ex.refl _) _ fun H3 e3 => ?_
    cases hf : f x with
    | false =>
      rw [if_neg Bool.false_ne_true]
      refine ⟨acc, x1.trans e3, e3 _ _ x2, Nat.le_succ_of_le x3, ?_⟩
      rw [tk, List.filter_cons, if_neg (by rw [hf]; exact Bool.false_ne_true), List.filter_nil, List.append_nil]
      exact x4
    | true =>
      rw [if_pos rfl]
      refine ⟨u, hj _, acc, e3 _ _ x2, sz_lt (by omega), acc ++ [u], (x1.trans e3).mut hD, upd_same, by rw [List.length_append]; exact Nat.succ_le_succ x3, ?_⟩
      rw [tk, List.filter_cons, if_pos hf, List.filter_nil, List.map_append]
      exact x4.app (.cons hu .nil)
  · rw [hl, List.take_length] at x4
    exact q Dl acc H' (fresh_back e1 hD) (e1.trans x1) x2 (x4.mono x1)⟩
end
theorem spq_longer {a b : Addr} {us ws : List V} {vs : List Vow} {L : List (List Str)} {H : Hp} (ha : H a = some (.lst us)) (d : DqAll H us (vs.map vwD)) (ok : ∀ v ∈ vs, vwOk v) (few : vs.length ≤ 100) (hb : H b = some (.lst ws)) (dL : DqAll H ws (L.map pathD)) (okL : ∀ c ∈ L, c ≠ [] ∧ ∀ x ∈ c, x ∈ ruleL) (lenL : ∀ c ∈ L, c.length ≤ 1000) (tot : (longer (eds vs) L).length ≤ 1000) : SpQs sp_longer ([.ref a, .ref b] ++ []) H ((once (longer (eds vs) L)).map pathD) := fun H1 e Q q E => ⟨a, b, us, ws, vs, L, rfl, e _ _ ha, d.mono e, ok, few, e _ _ hb, dL.mono e, okL, lenL, tot, q⟩
def sp_lchain : Sp := fun as H Q _ => ∃ (a b g : Addr) (us : List V) (vs : List Vow) (S G c0 : List Str), as = [.ref a, .ref b, .ref g] ∧ H a = some (.lst us) ∧ DqAll H us (vs.map vwD) ∧ (∀ v ∈ vs, vwOk v) ∧ vs.length ≤ 100 ∧ H b = some (.lst (S.map V.str)) ∧ H g = some (.lst (G.map V.str)) ∧ S.Nodup ∧ S.length ≤ 8 ∧ (∀ x ∈ S, x ∈ ruleL) ∧ (∀ x ∈ G, x ∈ ruleL) ∧ (eds vs).Nodup ∧ (∀ p ∈ eds vs, p.2 ∈ R6) ∧ (S.length ≤ 1 ∨ ∀ x ∈ S, x ∈ R6) ∧ IsFirst sLt (eds vs) S G c0 ∧
  ∀ q H2, Ex H H2 → H2 q = some (.lst (c0.map V.str)) → Q (.ref q) H2
section
variable {P : Program} {w : World} {K : PySem.W.Frag} {mg : Str → Option Value} {base : Heap} {C : Addr}
theorem ok_lchain {f f1 : Addr} {fd fd1 : FuncData} (F : Fun K "_law_chain" "_law_chain" s__law_chain f fd) (T : Txt P w K mg C) (c__law_longer : Cal P w K mg base "_law_longer" f1 fd1 ["_law_vows", "_law_lists"] 2 sp_longer) : FnOk P w K mg base CX0 3 f fd ["_law_vows", "_law_begins", "_law_ends"] sp_lchain := by
  refine F.ok sc__law_chain (fun vs H Q E h => ?_) (fun cdv A outer s H vs Q E hr h => ?_)
  · obtain ⟨a, b, g, us, vs, S, G, c0, rfl, _⟩ := h
    rfl
  · obtain ⟨a, b, g, us, vs, S, G, c0, rfl, ha, d, ok, few, hb, hg, ndS, lS, okS, okG, nE, h6, hS, FF, k⟩ := h
    refine ⟨_, (pss_cons (ps_setLc (i := 3) (own := [("_law_who", 6)]) (g := (gName 6)) (by rfl) sc__law_chain.nd rfl rfl (sw_true rfl rfl rfl (by decide +kernel)) (piL (K := K) rfl (pe_callB cr_sortedS (by rfl) T.b_sorted (by decide +kernel) (pa_cons (pv 1) pa_nil))) (blkOk_by (own := [("_law_who", 6)]) (N := ["_law_vows", "_law_begins", "_law_ends", "_law_lists", "_law_turn", "_law_there", "_law_who", "_law_some"]) (sc := defScope s__law_chain) (by decide +kernel)) (fun _ _ _ _ _ => (pg_name (i := 6) sc__law_chain.nd rfl (Or.inl rfl))) (fun _ _ _ _ _ => pts_nil) (fun _ _ _ _ _ => (pe_lst (pa_cons (pv 6) pa_nil)))) (pss_cons (ps_for PassesOwn.never rfl (pi_range1 (by rfl) T.b_range (pa_cons pe_int pa_nil)) (pg_name (i := 4) sc__law_chain.nd rfl (Or.inl rfl)) (pss_cons (ps_setLc (i := 5) (own := [("_law_some", 7)]) (g := (gName 7)) (by rfl) sc__law_chain.nd rfl rfl (sw_true rfl rfl rfl (by decide +kernel)) (piL (K := K) rfl (pv 3)) (blkOk_by (own := [("_law_some", 7)]) (N := ["_law_vows", "_law_begins", "_law_ends", "_law_lists", "_law_turn", "_law_there", "_law_who", "_law_some"]) (sc := defScope s__law_chain) (by decide +kernel)) (fun _ _ _ _ _ => (pg_name (i := 7) sc__law_chain.nd rfl (Or.inl rfl))) (fun _ _ _ _ _ => (pts_one (pt_cmpR (inS (K := K) rfl) (pe_ix (ixL (K := K) rfl) (pv 7) (pe_un un_neg pe_int) (fun _ _ => rfl)) (pv 2) (by rfl)))) (fun _ _ _ _ _ => (pv 7))) (pss_cons (ps_if (pt_cmpR (neD (K := K) rfl hr.units) (pv 5) (pe_lst pa_nil) (nomark _)) (pss_one (ps_ret (pe_ix (ixL (K := K) rfl) (pe_callB (BK.cr_sortC hr.units) (by rfl) T.b_sorted (by decide +kernel) (pa_cons (pv 5) pa_nil)) pe_int (fun _ _ => rfl)))) pss_nil) (pss_one (ps_set (i := 3) sc__law_chain.nd rfl (Or.inl rfl) (pe_call c__law_longer.ok (hr.mono (by decide)) (by rfl) c__law_longer.mgx c__law_longer.kp c__law_longer.bd .nil pass0 (pa_cons (pv 0) (pa_cons (pv 3) pa_nil)))))))) (pss_one (ps_ret pe_non)))), ?_⟩
    have FT : Fits (eds vs) G := ⟨fun p hp => (eds_rule ok p hp).1, okG⟩
    have small := first_small FF FT
    obtain ⟨u0, hu0⟩ : ∃ u, (S.length ≤ 1 ∧ u = 0) ∨ ((∀ x ∈ S, x ∈ R6) ∧ u = 1) := by
      rcases hS with h | h
      · exact ⟨0, .inl ⟨h, rfl⟩⟩
      · exact ⟨1, .inr ⟨h, rfl⟩⟩
    have pos : 0 < c0.length := by
      obtain ⟨x, r, e, _⟩ := FF.is_.hd
      rw [e]; exact Nat.succ_pos _
    refine q_lq (lq_eq (lq_lcL (enc := PyData.str) (fun x => [x]) (fun _ => true) (esl_lq (lq_sortedS (ks := S) (esl_ref (ev_var rfl) hb (of_strs S)) (by omega) ndS)) (by have := sub_len (nrm_nodup (xs := S)) (fun x hx => mem_nrm.mp hx); omega) (fun _ => rfl) (fun _ _ _ _ _ _ => lc_yes) (fun x u H1 e1 _ dx _ => ?_)) (by rw [filter_yes])) fun l0 ls0 H1 n0 e1 h1 d1 => ?_
    · cases dx
      exact lq_lst (aq_cons (eq_of (ev_var rfl) fun _ _ => .str x) aq_nil) (by show 1 ≤ 100000; decide)
    have d1' : DqAll H1 ls0 (((nrm S).map fun x => [x]).map pathD) := by rw [List.map_map]; exact d1
    refine q_forR1 (n := 8) (ea_cons ev_c ea_nil) (by decide) (fun i σ' H' => ∃ (l : Addr) (ls : List V) (L : List (List Str)) (u : Nat) (x4 x5 x6 x7 : Option V), σ' = [some (.ref a), some (.ref b), some (.ref g), some (.ref l), x4, x5, x6, x7] ∧ Ex H H' ∧ H' l = some (.lst ls) ∧ DqAll H' ls (L.map pathD) ∧ Lay (eds vs) S L i u ∧ i < c0.length)
      (fun H2 e2 => ⟨l0, ls0, _, u0, none, none, none, none, rfl, e1.trans e2, e2 _ _ h1, d1'.mono e2, lay_start ndS hu0, pos⟩) (fun i σ' H' hi pv => ?_) (fun σ' H' pv => ?_)
    · obtain ⟨l, ls, L, u, x4, x5, x6, x7, rfl, ex, hl, dl, Y, ilt⟩ := pv
      have okL : ∀ c ∈ L, c ≠ [] ∧ ∀ x ∈ c, x ∈ ruleL := fun c hc => by
        obtain ⟨_, _, p, x, r, rfl, hx⟩ := (Y.mem c).mp hc
        exact ⟨by simp, pth_rule (fun p hp => (eds_rule ok p hp).2) p (okS x hx)⟩
      have nL : L.length ≤ 720 := by
        have few := Y.few
        have fpos : ∀ n, 1 ≤ fac n := fun n => by
          induction n with
          | zero => exact Nat.le_refl _
          | succ n ih => rw [fac]; exact Nat.le_trans ih (Nat.le_mul_of_pos_left _ (Nat.succ_pos n))
        exact Nat.le_trans (Nat.le_mul_of_pos_right _ (fpos (6 - u))) few
      refine q_lq (lq_lcX (enc := pathD) (fun c => decide (lastS c ∈ G)) (esl_ref (ev_var rfl) hl dl) (by omega) (fun _ => rfl) (fun _ => rfl) (fun c v H2 e2 hc dc => ?_)) fun t ts H2 nt e2 h2 d2 => ?_
      · obtain ⟨ca, rfl, hca⟩ := path_of dc
        obtain ⟨ne, _⟩ := okL c hc
        obtain ⟨c', x, rfl⟩ : ∃ c' x, c = c' ++ [x] := ⟨c.dropLast, c.getLast ne, (List.dropLast_concat_getLast ne).symm⟩
        rw [lastS_snoc]
        exact et_test (ev_inS (ev_last (ev_var rfl) hca) (ev_var rfl) ((ex.trans e2) _ _ hg))
      · have d2 : DqAll H2 ts ((there G L).map pathD) := d2
        have ex2 := ex.trans e2
        have okT : ∀ c ∈ there G L, ∀ x ∈ c, x ∈ ruleL := fun c hc => (okL c (List.mem_filter.mp hc).1).2
        refine q_when (b := !decide (there G L = [])) (et_test (ev_neLs encC (ys := []) (esl_ref (ev_var rfl) h2 d2) (fun H3 e3 => esl_lq (lq_lst aq_nil (by show 0 ≤ 100000; decide))) okT fun _ h => nomatch h)) (fun hyes H3 e3 => ?_) (fun hno H3 e3 => ?_)
        · have ne : there G L ≠ [] := by simpa using hyes
          obtain ⟨M, rfl, eM, hM⟩ := prs_path d2
          refine ret_k (op_k (cb_k (ac_v (ev_var rfl) fun H4 e4 => ac_nil ⟨t, M, rfl, sq_of ((e3.trans e4) _ _ h2), fun p hp => (e3.trans e4) _ _ (hM p hp), fun ps p pm up np => ?_⟩)))
          cases ps with
          | nil =>
            exfalso
            have : M = [] := pm.symm.eq_nil
            rw [this] at eM
            exact ne eM.symm
          | cons p0 ps =>
            have m0 : p0 ∈ M := pm.mem_iff.mp List.mem_cons_self
            have in0 : p0.1 ∈ there G L := by rw [← eM]; exact List.mem_map.mpr ⟨p0, m0, rfl⟩
            have mn : ∀ c' ∈ there G L, lexB sLt c' p0.1 = false := fun c' hc' => by
              rw [← eM] at hc'
              obtain ⟨p', hp', rfl⟩ := List.mem_map.mp hc'
              rcases List.mem_cons.mp (pm.mem_iff.mpr hp') with rfl | h
              · exact lexB_irr _
              · rw [List.map_cons, List.pairwise_cons] at up
                exact up.1 _ (List.mem_map.mpr ⟨p', h, rfl⟩)
            have e0 := one_there FF Y ilt in0 mn
            refine ⟨p, _, 0, V.ref p0.2, rfl, rfl, sq_of upd_same, atI_nat (j := 0) rfl, ?_⟩
            refine k p0.2 _ ((ex2.trans (e3.trans e4)).trans (Ex.new np)) ?_
            rw [← e0]
            exact (((e3.trans e4).trans (Ex.new np)) _ _ (hM p0 m0))
        · have em : there G L = [] := by simpa using hno
          obtain ⟨tot, Y'⟩ := lay_next nE h6 Y
          have lt' := none_yet FF Y ilt em
          have ex3 := ex2.trans e3
          have LL : ∀ c ∈ L, c.length ≤ 1000 := fun c hc => by
            have := ((Y.mem c).mp hc).1
            omega
          refine (lq_call (ea_cons (ev_var rfl) (ea_cons (ev_var rfl) ea_nil)) (spq_longer (ex3 _ _ ha) (d.mono ex3) ok few ((e2.trans e3) _ _ hl) (dl.mono (e2.trans e3)) okL LL (by omega))) H3 (Ex.refl _) _ fun q qs H4 nq e4 h4 d4 => ⟨q, qs, _, u + 1, _, _, _, _, rfl, ex3.trans e4, h4, d4, Y', lt'⟩
    · obtain ⟨l, ls, L, u, x4, x5, x6, x7, rfl, ex, hl, dl, Y, ilt⟩ := pv
      have : (8 : Int).toNat = 8 := rfl
      rw [this] at ilt
      omega
end
end K32
end
section
set_option maxHeartbeats 4000000
namespace K32
open PySem PyProof.Rows L2 Evl G OW BK TD
/-! ### what stands beside the pot -/
def LsAt {α : Type} (H : Hp) (a : Addr) (enc : α → PyData) (xs : List α) : Prop := ∃ us, H a = some (.lst us) ∧ DqAll H us (xs.map enc)
structure Tupl {α : Type} (enc : α → PyData) : Prop where
  ni : ∀ x i, enc x ≠ .int i
  fl : ∀ x, flatD (enc x) = true
theorem tuplR : Tupl rwD := ⟨(fun _ _ q => nomatch q), rw_flat⟩
theorem tuplV : Tupl vwD := ⟨(fun x _ q => by cases x <;> (cases q)), vw_flat⟩
section
variable {α : Type} {enc : α → PyData} {H H2 : Hp} {a p q : Addr} {xs : List α} {C : Addr} {rs : List Rw} {vs : List Vow}
theorem LsAt.mono (h : LsAt H a enc xs) (e : Ex H H2) : LsAt H2 a enc xs := let ⟨us, h1, h2⟩ := h; ⟨us, e _ _ h1, h2.mono e⟩
theorem pot_nots (t : Tupl enc) {us : List V} (hp : PotAt H p) (h : H a = some (.lst us)) (d : DqAll H us (xs.map enc)) : a ≠ p := fun z => by
  obtain ⟨i, j, _, h2⟩ := hp
  rw [z, h2] at h
  cases h
  cases xs with
  | nil => cases d
  | cons x xs =>
    rw [List.map_cons] at d
    cases d with
    | cons d1 _ =>
      generalize he : enc x = e at d1
      cases d1
      exact t.ni x _ he
theorem Rg.tup (hp : PotAt H p) (r : Rg p H H2) (b : Addr) (zs : List V) (h : H b = some (.tup zs)) : H2 b = some (.tup zs) := r.x b _ (by
  rw [wo_ne fun z => by obtain ⟨i, j, _, h2⟩ := hp; rw [z, h2] at h; cases h]
  exact h)
theorem dq_rg (t : Tupl enc) (hp : PotAt H p) (r : Rg p H H2) {us : List V} (d : DqAll H us (xs.map enc)) : DqAll H2 us (xs.map enc) := flats_in (r.tup hp) (fun z hz => by obtain ⟨y, _, rfl⟩ := List.mem_map.mp hz; exact t.fl y) d
theorem LsAt.rg (t : Tupl enc) (hp : PotAt H p) (r : Rg p H H2) (h : LsAt H a enc xs) : LsAt H2 a enc xs := by
  obtain ⟨us, h1, h2⟩ := h
  exact ⟨us, r.x _ _ (by rw [wo_ne (pot_nots t hp h1 h2)]; exact h1), dq_rg t hp r h2⟩
theorem BkAt.rg (hp : PotAt H p) (r : Rg p H H2) (h : BkAt H C q rs vs) : BkAt H2 C q rs vs := by
  obtain ⟨dx, l, m, us, ws, h1, h2, h3, h4, h5⟩ := h
  have qp : q ≠ p := fun z => by obtain ⟨i, j, _, h2⟩ := hp; rw [z, h2] at h1; cases h1
  exact ⟨dx, l, m, us, ws, r.x _ _ (by rw [wo_ne qp]; exact h1), r.x _ _ (by rw [wo_ne (pot_nots tuplR hp h2 h3)]; exact h2), dq_rg tuplR hp r h3, r.x _ _ (by rw [wo_ne (pot_nots tuplV hp h4 h5)]; exact h4), dq_rg tuplV hp r h5⟩
theorem LsAt.esl {te : TE} {σ : L2.St} (h : LsAt H a enc xs) (k : Ev te σ H (.ref a)) : EvSl te σ H (xs.map enc) := let ⟨us, h1, h2⟩ := h; esl_ref k h1 h2
end
section
variable {K : PySem.W.Frag} {σ : L2.St} {H : Hp} {te : TE} {j n : Nat} {vs : List Nat} {p : Addr} {Q : VK} {ds : List PyData}
theorem q_forRD {tA : TA} {N : Nat} {D : Ends} {tz tu : TS} (Pn : Nat → Prop) (hA : ∀ R' : List V → Hp → Prop, (∀ (n : Nat) H2, Pn n → n ≤ N → Rg p H H2 → R' [.int (n : Int)] H2) → tA σ H R') (hN : N ≤ 1000) (Pv : Nat → L2.St → Hp → Prop) (h0 : ∀ H1, Rg p H H1 → Pv 0 σ H1)
    (hs : ∀ (i : Nat) σ' H', i < N → Pv i σ' H' → tu { D with nx := Pv (i + 1), ct := Pv (i + 1), bk := tz D } (σ'.set j (some (.int (i : Int)))) H') (hd : ∀ n σ' H', Pn n → n ≤ N → Pv n σ' H' → tz D σ' H') : tSeq (tFor (iRng1 tA) (gName j) tu) tz D σ H := hA _ fun n H1 pn hn r1 => ⟨(n : Int), rfl, by omega, by omega, by
  rw [Int.toNat_natCast]
  exact for_range (D := { D with nx := tz D }) (lo := 0) (n := n) Pv (h0 H1 r1) (fun i σ' H' hi p => by
    have e0 : (0 : Int) + (i : Int) = (i : Int) := Int.zero_add _
    show tu { D with nx := Pv (i + 1), ct := Pv (i + 1), bk := tz D } (σ'.set j (some (.int ((0 : Int) + (i : Int))))) H'
    rw [e0]
    exact hs i σ' H' (by omega) p) (fun σ' H' pv => hd n σ' H' pn hn pv)⟩
theorem ty_lst {H : Hp} {p : Addr} {us : List V} (h : H p = some (.lst us)) : TyX K H (.ref p) (.type "list") := .base (.lst h)
theorem ev_isiLq (h : EvLq te σ H ds) : Ev (tCB (rIsi K) (tCons te (tCons (tC (.ty "list")) tNil))) σ H (.bl true) := fun H1 e Q q =>
  h H1 e _ fun p us H2 _ e2 h2 _ => ⟨.ref p, .ty "list", .type "list", .type "list", true, rfl, .ty "list", ty_lst h2, by unfold PySem.W.kitOne; rfl, q H2 e2⟩
theorem ev_isiLs {p : Addr} {us : List V} (h : Ev te σ H (.ref p)) (hp : H p = some (.lst us)) : Ev (tCB (rIsi K) (tCons te (tCons (tC (.ty "list")) tNil))) σ H (.bl true) := fun H1 e Q q =>
  h H1 e _ fun H2 e2 => ⟨.ref p, .ty "list", .type "list", .type "list", true, rfl, .ty "list", ty_lst ((e.trans e2) p _ hp), by unfold PySem.W.kitOne; rfl, q H2 e2⟩
end
theorem tIfD {σ : L2.St} {H : Hp} {c : TT} {ta tb : TE} {Q : VK} {p : Addr} (Z : V → Hp → Prop) (hc : ∀ Q' : Bool → Hp → Prop, (∀ b H2, Rg p H H2 → Q' b H2) → c σ H Q') (h1 : ∀ H1, Rg p H H1 → ∀ Q' : VK, (∀ v H2, Z v H2 → Q' v H2) → ta σ H1 Q') (h2 : ∀ H1, Rg p H H1 → ∀ Q' : VK, (∀ v H2, Z v H2 → Q' v H2) → tb σ H1 Q') (k : ∀ v H2, Z v H2 → Q v H2) : tIf c ta tb σ H Q := hc _ fun b H1 r => by
  cases b with
  | true => rw [if_pos rfl]; exact h1 H1 r Q k
  | false => rw [if_neg (by decide)]; exact h2 H1 r Q k

section
variable {K : PySem.W.Frag} {σ : L2.St} {H : Hp} {D : Ends} {te ta : TE} {l : Addr} {xs : List V}
theorem app_k (ha : Ev ta σ H (.ref l)) (hl : H l = some (.lst xs)) (h : ∀ H1, Ex H H1 → te σ H1 fun v H2 => ∃ (l' : Addr) (xs' : List V) (v' : V), V.ref l = .ref l' ∧ [v] = [v'] ∧ H2 l' = some (.lst xs') ∧ xs'.length < sizeLine ∧ D.nx σ (upd H2 l' (.lst (xs' ++ [v'])))) : tDrop (tBM K "list" rAppend ta (tCons te tNil)) D σ H := ha H (Ex.refl H) _ fun H1 e1 =>
  ⟨Or.inl ⟨rfl, xs, sq_of (e1 l _ hl)⟩, h H1 e1⟩
end
section
variable {K : PySem.W.Frag} {σ : L2.St} {H : Hp} {tt : TT} {ta tb : TE} {x y : V}
end
end K32
end
section
set_option maxHeartbeats 4000000
namespace K32
open PySem PyProof.Rows L2 Evl G OW BK TD
/-! ### the law's oaths -/
def in6 : Vow → Prop
  | .quick a b => a ∈ R6 ∧ b ∈ R6
  | .lead r _ _ => r ∈ R6
theorem six_rule : ∀ x ∈ R6, x ∈ ruleL := by decide +kernel
structure Good (y : Vow) : Prop where
  ok : vwOk y
  six : in6 y
structure Oath (ys : List Vow) : Prop where
  nd : ys.Nodup
  len : ys.length ≤ 10
  good : ∀ y ∈ ys, Good y
theorem Oath.ok {ys : List Vow} (O : Oath ys) : ∀ y ∈ ys, vwOk y := fun y h => (O.good y h).ok
theorem Oath.tgt {ys : List Vow} (O : Oath ys) : ∀ p ∈ eds ys, p.2 ∈ R6 := fun p hp => by
  obtain ⟨v, hv, e⟩ := List.mem_filterMap.mp hp
  cases v with
  | quick a b => cases e; exact (O.good _ hv).six.2
  | lead r lo hi => cases e
theorem Oath.eds {ys : List Vow} (O : Oath ys) : (eds ys).Nodup := by
  unfold K32.eds List.Nodup
  rw [List.pairwise_filterMap]
  refine O.nd.imp fun {a b} ne p hp q hq e => ne ?_
  cases a with
  | lead r lo hi => cases hp
  | quick x y =>
    cases b with
    | lead r lo hi => cases hq
    | quick x' y' =>
      cases hp
      cases hq
      cases e
      rfl
def sp_oaths : Sp := fun as H Q _ => ∃ (p s : Addr) (ks : List Str), as = [.ref p, .ref s] ∧ PotAt H p ∧ wo H p s = some (.lst (ks.map V.str)) ∧ 0 < ks.length ∧ ks.length ≤ 8 ∧ (∀ x ∈ ks, x ∈ R6) ∧ ∀ q ys H2, Rg p H H2 → H q = none → LsAt H2 q vwD ys → Oath ys → Q (.ref q) H2
section
variable {P : Program} {w : World} {K : PySem.W.Frag} {mg : Str → Option Value} {base : Heap} {C : Addr} {σ : L2.St} {H H' : Hp} {p s : Addr} {E : XK} {Q : VK} {i j : Nat} {ks : List Str}
/-- a rule drawn from a list of rules that is told -/
theorem pickR (hp : PotAt H' p) (hv : σ[i]? = some (some (.ref p))) (hs : σ[j]? = some (some (.ref s))) (hl : wo H' p s = some (.lst (ks.map V.str))) (h0 : 0 < ks.length) (h1 : ks.length ≤ 8) (k : ∀ x H2, x ∈ ks → Rg p H' H2 → wo H2 p s = some (.lst (ks.map V.str)) → Q (.str x) H2) :
    tCall (sp_pick K) [] E (tCons (tVar i) (tCons (tVar j) tNil)) σ H' Q := pickA hp hv hs (sq_of hl) (by rw [List.length_map]; exact h0) (by rw [List.length_map]; omega) fun m v H2 hm e h2 => by
  rw [List.getElem?_map] at hm
  obtain ⟨x, hx, rfl⟩ := Option.map_eq_some_iff.mp hm
  exact k x H2 (List.mem_of_getElem? hx) ⟨e, h2⟩ (wo_sub e _ _ hl)
/-- the list that grows beside the pot -/
structure Fnd (H H' : Hp) (p s f : Addr) (ks : List Str) (ys : List Vow) (n : Nat) : Prop where
  r : Rg p H H'
  nf : H f = none
  l : LsAt H' f vwD ys
  good : ∀ y ∈ ys, Good y
  len : ys.length ≤ n
  s : wo H' p s = some (.lst (ks.map V.str))
theorem Fnd.rg {H2 : Hp} {f : Addr} {ys : List Vow} {n : Nat} (h : Fnd H H' p s f ks ys n) (r : Rg p H' H2) : Fnd H H2 p s f ks ys n := ⟨h.r.tr r, h.nf, h.l.rg tuplV h.r.hp r, h.good, h.len, wo_sub r.x _ _ h.s⟩
theorem Fnd.mono {H2 : Hp} {f : Addr} {ys : List Vow} {n : Nat} (h : Fnd H H' p s f ks ys n) (e : Ex H' H2) : Fnd H H2 p s f ks ys n := h.rg ((Rg.rfl h.r.hp).mono e)
theorem Fnd.le {f : Addr} {ys : List Vow} {n m : Nat} (h : Fnd H H' p s f ks ys n) (l : n ≤ m) : Fnd H H' p s f ks ys m := ⟨h.r, h.nf, h.l, h.good, Nat.le_trans h.len l, h.s⟩
theorem ok_oaths {f f1 f2 f3 : Addr} {fd fd1 fd2 fd3 : FuncData} (F : Fun K "_law_oaths" "_law_oaths" s__law_oaths f fd) (T : Txt P w K mg C) (c__law_draw : Cal P w K mg base "_law_draw" f1 fd1 ["_law_pot_here", "_law_size"] 1 sp_draw) (c__law_pick : Cal P w K mg base "_law_pick" f2 fd2 ["_law_pot_here", "_law_some"] 2 (sp_pick K)) (c__law_once : Cal P w K mg base "_law_once" f3 fd3 ["_law_some"] 1 sp_once) :
    FnOk P w K mg base CX0 3 f fd ["_law_pot_here", "_law_some"] sp_oaths := by
  refine F.ok sc__law_oaths (fun vs H Q E h => ?_) (fun cdv A outer st H vs Q E hr h => ?_)
  · obtain ⟨p, s, ks, rfl, _⟩ := h
    rfl
  · obtain ⟨p, s, ks, rfl, hp, hs, k0, k1, h6, k⟩ := h
    refine ⟨_, (pss_cons (ps_set (i := 2) sc__law_oaths.nd rfl (Or.inl rfl) (pe_lst pa_nil)) (pss_cons (ps_for PassesOwn.never rfl (pi_range1 (by rfl) T.b_range (pa_cons (pe_call c__law_draw.ok (hr.mono (by decide)) (by rfl) c__law_draw.mgx c__law_draw.kp c__law_draw.bd .nil pass0 (pa_cons (pv 0) (pa_cons pe_int pa_nil))) pa_nil)) (pg_name (i := 3) sc__law_oaths.nd rfl (Or.inl rfl)) (pss_cons (ps_par (i := 4) (j := 5) (by rfl) sc__law_oaths.nd rfl rfl (by decide) rfl rfl (pa_cons (pe_call c__law_pick.ok (hr.mono (by decide)) (by rfl) c__law_pick.mgx c__law_pick.kp c__law_pick.bd .nil pass0 (pa_cons (pv 0) (pa_cons (pv 1) pa_nil))) (pa_cons (pe_call c__law_pick.ok (hr.mono (by decide)) (by rfl) c__law_pick.mgx c__law_pick.kp c__law_pick.bd .nil pass0 (pa_cons (pv 0) (pa_cons (pv 1) pa_nil))) pa_nil)) (by rfl)) (pss_one (ps_set (i := 2) sc__law_oaths.nd rfl (Or.inl rfl) (pe_op op_cat (pv 2) (pe_ifExp (pt_cmpR op_ne (pv 4) (pv 5) (nomark _)) (pe_lst (pa_cons (pe_tup (pa_cons pe_str (pa_cons (pv 4) (pa_cons (pv 5) pa_nil)))) pa_nil)) (pe_lst pa_nil))))))) (pss_cons (ps_for PassesOwn.never rfl (pi_range1 (by rfl) T.b_range (pa_cons (pe_call c__law_draw.ok (hr.mono (by decide)) (by rfl) c__law_draw.mgx c__law_draw.kp c__law_draw.bd .nil pass0 (pa_cons (pv 0) (pa_cons pe_int pa_nil))) pa_nil)) (pg_name (i := 3) sc__law_oaths.nd rfl (Or.inl rfl)) (pss_cons (ps_par (i := 6) (j := 7) (by rfl) sc__law_oaths.nd rfl rfl (by decide) rfl rfl (pa_cons (pe_op op_sub (pe_call c__law_draw.ok (hr.mono (by decide)) (by rfl) c__law_draw.mgx c__law_draw.kp c__law_draw.bd .nil pass0 (pa_cons (pv 0) (pa_cons pe_int pa_nil))) pe_int) (pa_cons (pe_call c__law_draw.ok (hr.mono (by decide)) (by rfl) c__law_draw.mgx c__law_draw.kp c__law_draw.bd .nil pass0 (pa_cons (pv 0) (pa_cons pe_int pa_nil))) pa_nil)) (by rfl)) (pss_cons (ps_set (i := 8) sc__law_oaths.nd rfl (Or.inl rfl) (pe_call c__law_draw.ok (hr.mono (by decide)) (by rfl) c__law_draw.mgx c__law_draw.kp c__law_draw.bd .nil pass0 (pa_cons (pv 0) (pa_cons pe_int pa_nil)))) (pss_one (ps_expr (pe_bm PySem.F.plainAttrs_list PySem.F.slot_list_append PySem.F.type_list_append mt_append (pv 2) (pa_cons (pe_tup (pa_cons pe_str (pa_cons (pe_call c__law_pick.ok (hr.mono (by decide)) (by rfl) c__law_pick.mgx c__law_pick.kp c__law_pick.bd .nil pass0 (pa_cons (pv 0) (pa_cons (pv 1) pa_nil))) (pa_cons (pe_ifExp (pt_cmpR op_eq (pv 8) pe_int (nomark _)) pe_non (pv 6)) (pa_cons (pe_ifExp (pt_cmpR op_eq (pv 8) pe_int (nomark _)) pe_non (pv 7)) pa_nil))))) pa_nil))))))) (pss_one (ps_ret (pe_call c__law_once.ok (hr.mono (by decide)) (by rfl) c__law_once.mgx c__law_once.kp c__law_once.bd .nil pass0 (pa_cons (pv 2) pa_nil))))))), ?_⟩
    refine q_lq (ds := []) (lq_lst aq_nil (by show 0 ≤ 100000; decide)) fun f0 fs0 H1 n0 e1 h1 d1 => ?_
    have F1 : Fnd H H1 p s f0 ks [] 0 := ⟨(Rg.rfl hp).mono e1, n0, ⟨fs0, h1, d1⟩, (fun _ h => nomatch h), Nat.le_refl _, wo_mono e1 _ _ hs⟩
    refine q_forRD (N := 6) (p := p) (fun n => n ≤ 6) (fun R' kR => ac_k (dr_k F1.r.hp rfl (by decide) (by decide) fun d H2 d0 d1 r => ac_nil ?_)) (by decide) (fun i σ' H' => ∃ (f : Addr) (ys : List Vow) (x3 x4 x5 : Option V), σ' = [some (.ref p), some (.ref s), some (.ref f), x3, x4, x5, none, none, none] ∧ Fnd H H' p s f ks ys i)
      (fun H2 r => ⟨f0, [], none, none, none, rfl, F1.rg r⟩) (fun i σ' H' hi pv => ?_) (fun n σ' H' _ hn pv => ?_)
    · obtain ⟨n, rfl⟩ : ∃ n : Nat, d = (n : Int) := ⟨d.toNat, by omega⟩
      exact kR n H2 (by omega) (by omega) r
    · obtain ⟨f, ys, x3, x4, x5, rfl, FF⟩ := pv
      refine par_k (ac_k (pickR FF.r.hp rfl rfl FF.s k0 k1 fun x H2 hx r2 s2 => ac_k (pickR r2.hp rfl rfl s2 k0 k1 fun y H3 hy r3 s3 => ac_nil ⟨_, _, rfl, ?_⟩)))
      have F3 := (FF.rg r2).rg r3
      show tAsg _ _ _ [some (V.ref p), some (V.ref s), some (V.ref f), some (V.int (i : Int)), some (V.str x), some (V.str y), none, none, none] H3
      obtain ⟨us, u1, u2⟩ := F3.l
      have len := F3.len
      by_cases ne : x = y
      · refine (lq_eq (es := ys.map vwD) (lq_catS (es := []) (esl_ref (ev_var rfl) u1 u2) (fun H4 e4 => esl_lq (lq_if (b := false) (et_is (et_test (ev_op (ev_var rfl) (ev_var rfl) (rv_ne rfl))) (by simp [ne])) (fun h => nomatch h) fun _ => lq_lst aq_nil (by show 0 ≤ 100000; decide))) (by rw [List.length_map, List.length_nil]; omega)) (List.append_nil _)) H3 (Ex.refl _) _ fun q qs H4 nq e4 h4 d4 => ?_
        exact ⟨q, ys, _, _, _, rfl, F3.r.mono e4, rg_fresh hp F3.r nq, ⟨qs, h4, d4⟩, F3.good, Nat.le_succ_of_le len, wo_mono e4 _ _ F3.s⟩
      · refine (lq_eq (es := (ys ++ [Vow.quick x y]).map vwD) (lq_catS (es := [vwD (.quick x y)]) (esl_ref (ev_var rfl) u1 u2) (fun H4 e4 => esl_lq (lq_if (b := true) (et_is (et_test (ev_op (ev_var rfl) (ev_var rfl) (rv_ne rfl))) (by simp [ne])) (fun _ => lq_lst (aq_cons (eq_tup (aq_cons (eq_of ev_c fun _ _ => .str _) (aq_cons (eq_of (ev_var rfl) fun _ _ => .str _) (aq_cons (eq_of (ev_var rfl) fun _ _ => .str _) aq_nil))) (by show 3 ≤ 100000; decide)) aq_nil) (by show 1 ≤ 100000; decide)) fun h => nomatch h)) (by rw [List.length_map, List.length_singleton]; omega)) (by rw [List.map_append]; rfl)) H3 (Ex.refl _) _ fun q qs H4 nq e4 h4 d4 => ?_
        refine ⟨q, ys ++ [.quick x y], _, _, _, rfl, F3.r.mono e4, rg_fresh hp F3.r nq, ⟨qs, h4, d4⟩, fun z hz => ?_, by rw [List.length_append, List.length_singleton]; omega, wo_mono e4 _ _ F3.s⟩
        rcases List.mem_append.mp hz with hz | hz
        · exact F3.good z hz
        · rw [List.mem_singleton.mp hz]
          exact ⟨⟨six_rule x (h6 x hx), six_rule y (h6 y hy), ne⟩, h6 x hx, h6 y hy⟩
    · obtain ⟨f, ys, x3, x4, x5, rfl, FF⟩ := pv
      have FF := FF.le hn
      refine q_forRD (N := 4) (p := p) (fun n => n ≤ 4) (fun R' kR => ac_k (dr_k FF.r.hp rfl (by decide) (by decide) fun d H2 d0 d1 r => ac_nil ?_)) (by decide) (fun i σ' H' => ∃ (ys : List Vow) (x3 x4 x5 x6 x7 x8 : Option V), σ' = [some (.ref p), some (.ref s), some (.ref f), x3, x4, x5, x6, x7, x8] ∧ Fnd H H' p s f ks ys (6 + i))
        (fun H2 r => ⟨ys, _, _, _, _, _, _, rfl, FF.rg r⟩) (fun i σ' H' hi pv => ?_) (fun n σ' H' _ hn pv => ?_)
      · obtain ⟨n, rfl⟩ : ∃ n : Nat, d = (n : Int) := ⟨d.toNat, by omega⟩
        exact kR n H2 (by omega) (by omega) r
      · obtain ⟨ys, x3, x4, x5, x6, x7, x8, rfl, FF⟩ := pv
        refine par_k (ac_k (op_k (dr_k FF.r.hp rfl (by decide) (by decide) fun d1 H2 d10 d11 r2 => v_k (v := .int 2) ev_c fun H3 e3 => rv_I0 H3 (Ex.refl _) _ fun H4 e4 => ac_k (dr_k (r2.hp.mono (e3.trans e4)) rfl (by decide) (by decide) fun d2 H5 d20 d21 r5 => ac_nil ⟨_, _, rfl, ?_⟩))))
        have r15 := (r2.mono (e3.trans e4)).tr r5
        refine asg_k (dr_k r5.hp rfl (by decide) (by decide) fun d3 H6 d30 d31 r6 => ?_)
        have F6 := FF.rg (r15.tr r6)
        obtain ⟨us, u1, u2⟩ := F6.l
        have fp := pot_nots tuplV F6.r.hp u1 u2
        show tDrop _ _ [some (V.ref p), some (V.ref s), some (V.ref f), some (V.int (i : Int)), x4, x5, some (V.int (d1 - 2)), some (V.int d2), some (V.int d3)] H6
        refine app_k (ev_var rfl) u1 fun H7 e7 => tupN_k (ac_v ev_c fun H8 e8 => ac_k (pickR ((F6.mono (e7.trans e8)).r.hp) rfl rfl (F6.mono (e7.trans e8)).s k0 k1 fun x H9 hx r9 s9 => ?_))
        let lo : Option Int := if d3 = 0 then none else some (d1 - 2)
        let hi' : Option Int := if d3 = 1 then none else some d2
        refine ac_v (v := oV lo) (ev_if (b := decide (d3 = 0)) (et_is (et_test (ev_op (ev_var rfl) ev_c (rv_eq rfl))) (by simp)) (fun h => ev_is ev_c (by show V.non = oV (if d3 = 0 then none else some (d1 - 2)); rw [if_pos (of_decide_eq_true h)]; rfl)) fun h => ev_is (ev_var rfl) (by show V.int (d1 - 2) = oV (if d3 = 0 then none else some (d1 - 2)); rw [if_neg (of_decide_eq_false h)]; rfl)) fun H10 e10 => ?_
        refine ac_v (v := oV hi') (ev_if (b := decide (d3 = 1)) (et_is (et_test (ev_op (ev_var rfl) ev_c (rv_eq rfl))) (by simp)) (fun h => ev_is ev_c (by show V.non = oV (if d3 = 1 then none else some d2); rw [if_pos (of_decide_eq_true h)]; rfl)) fun h => ev_is (ev_var rfl) (by show V.int d2 = oV (if d3 = 1 then none else some d2); rw [if_neg (of_decide_eq_false h)]; rfl)) fun H11 e11 => ac_nil ⟨sz_of (by show 4 ≤ 100000; decide), fun t nt => ?_⟩
        have F11 := ((F6.mono (e7.trans e8)).rg r9).mono (e10.trans e11)
        have F12 := F11.mono (Ex.new (o := .tup [V.str "lead", .str x, oV lo, oV hi']) nt)
        obtain ⟨us2, v1, v2⟩ := F12.l
        have len := F12.len
        have ul : us2.length = ys.length := by rw [v2.len, List.length_map]
        have fp2 := pot_nots tuplV F12.r.hp v1 v2
        refine ⟨f, us2, V.ref t, rfl, rfl, v1, sz_lt (by omega), ys ++ [.lead x lo hi'], _, _, _, _, _, _, rfl, ⟨⟨F12.r.x.mut (by rw [wo_ne fp2]; exact F12.nf), ?_⟩, F12.nf, ⟨us2 ++ [.ref t], upd_same, ?_⟩, fun z hz => ?_, by rw [List.length_append, List.length_singleton]; omega, ?_⟩⟩
        · obtain ⟨a, b, q1, q2⟩ := F12.r.hp
          exact ⟨a, b, q1, by rw [upd_ne (Ne.symm fp2)]; exact q2⟩
        · have tups : ∀ b zs, upd H11 t (.tup [V.str "lead", .str x, oV lo, oV hi']) b = some (.tup zs) → upd (upd H11 t (.tup [V.str "lead", .str x, oV lo, oV hi'])) f (.lst (us2 ++ [.ref t])) b = some (.tup zs) := fun b zs hb => by rw [upd_ne (show b ≠ f from fun z => by rw [z, v1] at hb; cases hb)]; exact hb
          rw [List.map_append]
          refine (flats_in tups (fun z hz => by obtain ⟨y, _, rfl⟩ := List.mem_map.mp hz; exact vw_flat y) v2).app (.cons (of_vw (x := .lead x lo hi') (tups t _ upd_same)) .nil)
        · rcases List.mem_append.mp hz with hz | hz
          · exact F12.good z hz
          · rw [List.mem_singleton.mp hz]
            refine ⟨⟨six_rule x (h6 x hx), ?_⟩, h6 x hx⟩
            show (if d3 = 0 then none else some (d1 - 2)) ≠ none ∨ (if d3 = 1 then none else some d2) ≠ none
            by_cases z0 : d3 = 0
            · subst z0
              exact .inr (by simp)
            · exact .inl (by rw [if_neg z0]; simp)
        · have sp : s ≠ p := fun z => by have := F12.s; rw [z, wo_at] at this; cases this
          have sf : s ≠ f := fun z => by
            have h1 := hs
            have := wo_ex _ _ h1
            rw [z, F12.nf] at this; cases this
          have h2 := F12.s
          rw [wo_ne sp] at h2 ⊢
          rw [upd_ne sf]
          exact h2
      · obtain ⟨ys, x3, x4, x5, x6, x7, x8, rfl, FF⟩ := pv
        have FF := FF.le (show 6 + n ≤ 10 by omega)
        obtain ⟨us, u1, u2⟩ := FF.l
        have len := FF.len
        refine s_rlq (lq_call (ea_cons (ev_var rfl) ea_nil) (spq_once encV u1 u2 (fun y hy => (FF.good y hy).ok) (by omega))) fun q qs H2 nq e2 h2 d2 => k q (once ys) H2 (FF.r.mono e2) (rg_fresh hp FF.r nq) ⟨qs, h2, d2⟩ ⟨once_nodup ys, Nat.le_trans (once_len ys) len, fun y hy => FF.good y (mem_once'.mp hy)⟩
end
end K32
end
section
set_option maxHeartbeats 4000000
namespace K32
open PySem PyProof.Rows L2 Evl G OW BK TD
/-! ### the law's chains of bounds -/
theorem bk_bk (E : List Ed) : bk (bk E) = E := by
  unfold bk
  rw [List.map_map]
  exact List.map_id' E
theorem leads_of {E : List Ed} {S G S' G' : List Str} {c : List Str} (h : Leads E S G c) (hs : ∀ x ∈ S, (∃ y ∈ G, ∃ m, Rch E [y] m x) → x ∈ S') (hg : ∀ y ∈ G, (∃ x ∈ S, ∃ m, Rch E [y] m x) → y ∈ G') : Leads E S' G' c := by
  obtain ⟨x, r, e, hx⟩ := h.hd
  obtain ⟨y, hy, hyG⟩ := h.last
  have rc : Rch E [y] r.length x := rch_of (e ▸ h.pth) ⟨y, e ▸ hy, List.mem_singleton.mpr rfl⟩
  exact ⟨h.pth, ⟨x, r, e, hs x hx ⟨y, hyG, _, rc⟩⟩, y, hy, hg y hyG ⟨x, hx, _, rc⟩⟩
/-- only those that lead there matter -/
theorem first_cut {E : List Ed} {S G S' G' : List Str} {c : List Str} (h : IsFirst sLt E S G c) (s1 : ∀ x ∈ S', x ∈ S) (g1 : ∀ x ∈ G', x ∈ G) (hs : ∀ x ∈ S, (∃ y ∈ G, ∃ m, Rch E [y] m x) → x ∈ S') (hg : ∀ y ∈ G, (∃ x ∈ S, ∃ m, Rch E [y] m x) → y ∈ G') : IsFirst sLt E S' G' c :=
  ⟨leads_of h.is_ hs hg, fun c' k => h.least c' (leads_of k (fun x hx _ => s1 x hx) fun y hy _ => g1 y hy)⟩
def begB (o : Vow → Option Int) (B : V) (U : List Str) (v : Vow) : Bool := isL v && ((o v).isSome && (decide (oV (o v) = B) && decide (vwR v ∈ U)))
def begs (o : Vow → Option Int) (vs : List Vow) (B : V) (U : List Str) : List Str := (vs.filter (begB o B U)).map vwR
theorem mem_begs {o : Vow → Option Int} {vs : List Vow} {n : Int} {U : List Str} {x : Str} : x ∈ begs o vs (.int n) U ↔ x ∈ withB o vs n ∧ x ∈ U := by
  unfold begs begB
  rw [mem_withB]
  simp only [List.mem_map, List.mem_filter, Bool.and_eq_true, decide_eq_true_eq]
  constructor
  · rintro ⟨v, ⟨h1, h2, h3, h4, h5⟩, rfl⟩
    refine ⟨⟨v, h1, h2, ?_, rfl⟩, h5⟩
    cases e : o v with
    | none => rw [e] at h3; cases h3
    | some k => rw [e] at h4; cases h4; rfl
  · rintro ⟨⟨v, h1, h2, h3, rfl⟩, h5⟩
    exact ⟨v, ⟨h1, h2, by rw [h3]; rfl, by rw [h3]; rfl, h5⟩, rfl⟩
/-- None, or just the first of the shortest chains -/
def RetP (E : List Ed) (v : V) (S G : Int → List Str) (H : Hp) (Q : VK) : Prop := (v = .non → RetV .non H Q) ∧ ∀ n, v = .int n → ∃ c0, IsFirst sLt E (S n) (G n) c0 ∧ ∀ q H2, Ex H H2 → H2 q = some (.lst (c0.map V.str)) → Q (.ref q) H2
noncomputable def sp_llchain : Sp := fun as H Q _ => ∃ (a : Addr) (us : List V) (vs : List Vow) (r : Str), as = [.ref a, .str r] ∧ H a = some (.lst us) ∧ DqAll H us (vs.map vwD) ∧ Oath vs ∧ r ∈ ruleL ∧ RetP (eds vs) (lowV vs r) (withB loO vs) (fun _ => [r]) H Q
noncomputable def sp_lhchain : Sp := fun as H Q _ => ∃ (a : Addr) (us : List V) (vs : List Vow) (r : Str), as = [.ref a, .str r] ∧ H a = some (.lst us) ∧ DqAll H us (vs.map vwD) ∧ Oath vs ∧ r ∈ ruleL ∧ RetP (eds vs) (highV vs r) (fun _ => [r]) (withB hiO vs) H Q
section
variable {P : Program} {w : World} {K : PySem.W.Frag} {mg : Str → Option Value} {base : Heap} {C : Addr} {σ : L2.St} {H : Hp} {te tl ta tb : TE} {tt : TT} {i j : Nat} {E : XK}
theorem ev_inLq {ks : List Str} {x : Str} (h : Ev ta σ H (.str x)) (hb : EvLq tb σ H (ks.map PyData.str)) : Ev (tOp (rIn K false) ta tb) σ H (.bl (decide (x ∈ ks))) := fun H1 e Q q =>
  h H1 e _ fun H2 e2 => hb H2 (e.trans e2) _ fun p us H3 np e3 h3 d3 => by
    have := rv_isL (K := K) (x := V.str x) (sq_of (by rw [← strs_of d3]; exact h3)) rfl (flat_strs ks) H3 (Ex.refl _) Q
    rw [inV_str] at this
    exact this fun H4 e4 => q H4 ((e2.trans e3).trans e4)
theorem Oath.lead6 {vs : List Vow} (O : Oath vs) {o : Vow → Option Int} {n : Int} : ∀ x ∈ withB o vs n, x ∈ R6 := fun x hx => by
  obtain ⟨v, hv, hl, _, rfl⟩ := mem_withB.mp hx
  cases v with
  | quick a b => cases hl
  | lead r lo hi => exact (O.good _ hv).six
theorem ok_llchain {f f1 f2 f3 f4 : Addr} {fd fd1 fd2 fd3 fd4 : FuncData} (F : Fun K "_law_low_chain" "_law_low_chain" s__law_low_chain f fd) (T : Txt P w K mg C) (c__law_low : Cal P w K mg base "_law_low" f1 fd1 ["_law_vows", "_law_who"] 3 sp_llow) (c__law_under : Cal P w K mg base "_law_under" f2 fd2 ["_law_vows", "_law_who"] 2 sp_lunder) (c__law_once : Cal P w K mg base "_law_once" f3 fd3 ["_law_some"] 1 sp_once) (c__law_chain : Cal P w K mg base "_law_chain" f4 fd4 ["_law_vows", "_law_begins", "_law_ends"] 3 sp_lchain) :
    FnOk P w K mg base CX0 4 f fd ["_law_vows", "_law_who"] sp_llchain := by
  refine F.ok sc__law_low_chain (fun vs H Q E h => ?_) (fun cdv A outer s H vs Q E hr h => ?_)
  · obtain ⟨a, us, vs, r, rfl, _⟩ := h
    rfl
  · obtain ⟨a, us, vs, r, rfl, ha, d, O, hr', k1, k2⟩ := h
    refine ⟨_, (pss_cons (ps_set (i := 2) sc__law_low_chain.nd rfl (Or.inr rfl) (pe_call c__law_low.ok (hr.mono (by decide)) (by rfl) c__law_low.mgx c__law_low.kp c__law_low.bd .nil pass0 (pa_cons (pv 0) (pa_cons (pv 1) pa_nil)))) (pss_cons (ps_setLc (i := 3) (own := [("_law_vow", 4)]) (g := (gName 4)) (by rfl) sc__law_low_chain.nd rfl rfl (sw_true rfl rfl rfl (by decide +kernel)) (piL (K := K) rfl (pv 0)) (blkOk_by (own := [("_law_vow", 4)]) (N := ["_law_vows", "_law_who", "_law_bound", "_law_begins", "_law_vow"]) (sc := defScope s__law_low_chain) (by decide +kernel)) (fun _ _ _ _ _ => (pg_name (i := 4) sc__law_low_chain.nd rfl (Or.inl rfl))) (fun _ _ _ _ _ => (pts_one (PW.pt (pw_and (pt_cmpR op_eq (pe_ix (ixT (K := K) rfl) (pv 4) pe_int (fun _ _ => rfl)) pe_str (nomark _)) (pw_and (pt_cmpR op_notN (pe_ix (ixT (K := K) rfl) (pv 4) pe_int (fun _ _ => rfl)) pe_non (nomark _)) (pw_and (pt_cmpR op_eq (pe_ix (ixT (K := K) rfl) (pv 4) pe_int (fun _ _ => rfl)) (pv 2) (nomark _)) (pw_and1 (pt_cmpR (inS (K := K) rfl) (pe_ix (ixT (K := K) rfl) (pv 4) pe_int (fun _ _ => rfl)) (pe_call c__law_under.ok (hr.mono (by decide)) (by rfl) c__law_under.mgx c__law_under.kp c__law_under.bd .nil pass0 (pa_cons (pv 0) (pa_cons (pv 1) pa_nil))) (by rfl))))))))) (fun _ _ _ _ _ => (pe_ix (ixT (K := K) rfl) (pv 4) pe_int (fun _ _ => rfl)))) (pss_one (ps_ret (pe_ifExp (pt_cmpR op_isN (pv 2) pe_non (nomark _)) pe_non (pe_call c__law_chain.ok (hr.mono (by decide)) (by rfl) c__law_chain.mgx c__law_chain.kp c__law_chain.bd .nil pass0 (pa_cons (pv 0) (pa_cons (pe_call c__law_once.ok (hr.mono (by decide)) (by rfl) c__law_once.mgx c__law_once.kp c__law_once.bd .nil pass0 (pa_cons (pv 3) pa_nil)) (pa_cons (pe_lst (pa_cons (pv 1) pa_nil)) pa_nil))))))))), ?_⟩
    have ok := O.ok
    have few := O.len
    refine q_asg (ev_lask (ev_var rfl) (ev_var rfl) ha d ok (by omega) hr') fun H1 e1 => ?_
    generalize hB : lowV vs r = B at k1 k2
    refine q_lq (lq_lc vwD (fun v => .str (vwR v)) (begB loO B (undL vs r)) (esl_ref (ev_var rfl) (e1 _ _ ha) (d.mono e1)) (by omega) (fun _ => rfl) (fun _ _ => rfl) (fun v u H2 e2 _ dv => ?_) (fun v u H2 e2 _ dv _ => eq_of (ev_vw1 (ev_var rfl) dv) fun _ _ => .str _)) fun l us1 H2 nl e2 h2 d2 => ?_
    · cases v with
      | quick x y => exact et_and (a := false) (b := (loO (.quick x y)).isSome && (decide (oV (loO (.quick x y)) = B) && decide (vwR (.quick x y) ∈ undL vs r))) (et_is (et_test (ev_op (ev_vw0 (ev_var rfl) dv) ev_c (rv_eq rfl))) (show decide (V.str "quick" = V.str "lead") = false by decide +kernel)) fun q => nomatch q
      | lead x lo hi =>
        obtain ⟨va, rfl, hva⟩ := vw_of dv
        refine et_and (a := true) (et_is (et_test (ev_op (ev_vw0 (ev_var rfl) dv) ev_c (rv_eq rfl))) rfl) fun _ => et_and (et_is (et_test (ev_notN (ev_at2 (ev_var rfl) hva))) (non_oV lo)) fun hs => et_and (et_test (ev_op (ev_at2 (ev_var rfl) hva) (ev_var rfl) (rv_eq ?_))) fun _ => et_test (ev_inLq (ev_at1 (ev_var rfl) hva) (lq_lask (ev_var rfl) (ev_var rfl) ((e1.trans e2) _ _ ha) (d.mono (e1.trans e2)) ok (by omega) hr'))
        cases lo with
        | none => cases hs
        | some z => rcases mx_is (bnds loO vs (undL vs r)) with h | ⟨i, h⟩ <;> (rw [← hB, show lowV vs r = _ from h]; rfl)
    · have e12 := e1.trans e2
      have dS : DqAll H2 us1 ((begs loO vs B (undL vs r)).map PyData.str) := by unfold begs; rw [List.map_map]; exact d2
      have dec : B = .non ∨ ∃ n, B = .int n := by rw [← hB]; exact mx_is _
      rcases dec with h | ⟨n, h⟩
      · exact s_ret (ev_if (b := true) (et_is (et_test (ev_isN (ev_var rfl))) (by rw [h]; rfl)) (fun _ => ev_c) fun q => nomatch q) fun H3 e3 => k1 h H3 (e12.trans e3)
      · subst h
        obtain ⟨c0, FF, kk⟩ := k2 n rfl
        have six : ∀ x ∈ begs loO vs (.int n) (undL vs r), x ∈ R6 := fun x hx => O.lead6 x (mem_begs.mp hx).1
        have FU := fitU ok hr'
        refine ret_k ((et_is (et_test (ev_isN (ev_var rfl))) rfl) H2 (Ex.refl _) _ fun H3 e3 => ?_)
        rw [if_neg (by simp)]
        refine call_k (ac_v (ev_var rfl) fun H4 e4 => ac_k (lqk (lq_call (ea_cons (ev_var rfl) ea_nil) (spq_once encS ((e3.trans e4) _ _ h2) (dS.mono (e3.trans e4)) (fun x hx => six_rule x (six x hx)) (by have := List.length_filter_le (begB loO (.int n) (undL vs r)) vs; unfold begs; rw [List.length_map]; omega))) fun l1 ls1 H5 nl1 e5 h5 d5 => ac_k (lst_k (ac_v (ev_var rfl) fun H6 e6 => ac_nil ⟨sz_of (show 1 ≤ 100000 by decide), fun l2 nl2 => ac_nil ?_⟩))))
        have eN := Ex.new (H := H6) (o := .lst [V.str r]) nl2
        have eA := ((e3.trans e4).trans e5).trans (e6.trans eN)
        have eZ := e12.trans eA
        have sl : (once (begs loO vs (.int n) (undL vs r))).length ≤ 6 := by
          have := sub_len (ys := R6) (once_nodup (begs loO vs (.int n) (undL vs r))) fun x hx => six x (mem_once'.mp hx)
          exact this
        refine ⟨a, l1, l2, us, vs, once (begs loO vs (.int n) (undL vs r)), [r], c0, rfl, eZ _ _ ha, d.mono eZ, ok, by omega, by rw [(e6.trans eN) _ _ h5, strs_of d5], upd_same, once_nodup _, by omega, fun x hx => six_rule x (six x (mem_once'.mp hx)), fun x hx => by rw [List.mem_singleton.mp hx]; exact hr', O.eds, O.tgt, .inr fun x hx => six x (mem_once'.mp hx), first_cut FF (fun x hx => (mem_begs.mp (mem_once'.mp hx)).1) (fun _ h => h) (fun x hx ⟨y, hy, m, hm⟩ => mem_once'.mpr (mem_begs.mpr ⟨hx, ?_⟩)) fun y hy _ => hy, fun q H7 e7 h7 => kk q H7 (eZ.trans e7) h7⟩
        rw [List.mem_singleton.mp hy] at hm
        exact (mem_rchL FU).mpr ⟨m, hm⟩
theorem ok_lhchain {f f1 f2 f4 : Addr} {fd fd1 fd2 fd4 : FuncData} (F : Fun K "_law_high_chain" "_law_high_chain" s__law_high_chain f fd) (T : Txt P w K mg C) (c__law_high : Cal P w K mg base "_law_high" f1 fd1 ["_law_vows", "_law_who"] 3 sp_lhigh) (c__law_over : Cal P w K mg base "_law_over" f2 fd2 ["_law_vows", "_law_who"] 2 sp_lover) (c__law_chain : Cal P w K mg base "_law_chain" f4 fd4 ["_law_vows", "_law_begins", "_law_ends"] 3 sp_lchain) :
    FnOk P w K mg base CX0 4 f fd ["_law_vows", "_law_who"] sp_lhchain := by
  refine F.ok sc__law_high_chain (fun vs H Q E h => ?_) (fun cdv A outer s H vs Q E hr h => ?_)
  · obtain ⟨a, us, vs, r, rfl, _⟩ := h
    rfl
  · obtain ⟨a, us, vs, r, rfl, ha, d, O, hr', k1, k2⟩ := h
    refine ⟨_, (pss_cons (ps_set (i := 2) sc__law_high_chain.nd rfl (Or.inr rfl) (pe_call c__law_high.ok (hr.mono (by decide)) (by rfl) c__law_high.mgx c__law_high.kp c__law_high.bd .nil pass0 (pa_cons (pv 0) (pa_cons (pv 1) pa_nil)))) (pss_cons (ps_setLc (i := 3) (own := [("_law_vow", 4)]) (g := (gName 4)) (by rfl) sc__law_high_chain.nd rfl rfl (sw_true rfl rfl rfl (by decide +kernel)) (piL (K := K) rfl (pv 0)) (blkOk_by (own := [("_law_vow", 4)]) (N := ["_law_vows", "_law_who", "_law_bound", "_law_ends", "_law_vow"]) (sc := defScope s__law_high_chain) (by decide +kernel)) (fun _ _ _ _ _ => (pg_name (i := 4) sc__law_high_chain.nd rfl (Or.inl rfl))) (fun _ _ _ _ _ => (pts_one (PW.pt (pw_and (pt_cmpR op_eq (pe_ix (ixT (K := K) rfl) (pv 4) pe_int (fun _ _ => rfl)) pe_str (nomark _)) (pw_and (pt_cmpR op_notN (pe_ix (ixT (K := K) rfl) (pv 4) pe_int (fun _ _ => rfl)) pe_non (nomark _)) (pw_and (pt_cmpR op_eq (pe_ix (ixT (K := K) rfl) (pv 4) pe_int (fun _ _ => rfl)) (pv 2) (nomark _)) (pw_and1 (pt_cmpR (inS (K := K) rfl) (pe_ix (ixT (K := K) rfl) (pv 4) pe_int (fun _ _ => rfl)) (pe_call c__law_over.ok (hr.mono (by decide)) (by rfl) c__law_over.mgx c__law_over.kp c__law_over.bd .nil pass0 (pa_cons (pv 0) (pa_cons (pv 1) pa_nil))) (by rfl))))))))) (fun _ _ _ _ _ => (pe_ix (ixT (K := K) rfl) (pv 4) pe_int (fun _ _ => rfl)))) (pss_one (ps_ret (pe_ifExp (pt_cmpR op_isN (pv 2) pe_non (nomark _)) pe_non (pe_call c__law_chain.ok (hr.mono (by decide)) (by rfl) c__law_chain.mgx c__law_chain.kp c__law_chain.bd .nil pass0 (pa_cons (pv 0) (pa_cons (pe_lst (pa_cons (pv 1) pa_nil)) (pa_cons (pv 3) pa_nil))))))))), ?_⟩
    have ok := O.ok
    have few := O.len
    refine q_asg (ev_lask (ev_var rfl) (ev_var rfl) ha d ok (by omega) hr') fun H1 e1 => ?_
    generalize hB : highV vs r = B at k1 k2
    refine q_lq (lq_lc vwD (fun v => .str (vwR v)) (begB hiO B (ovrL vs r)) (esl_ref (ev_var rfl) (e1 _ _ ha) (d.mono e1)) (by omega) (fun _ => rfl) (fun _ _ => rfl) (fun v u H2 e2 _ dv => ?_) (fun v u H2 e2 _ dv _ => eq_of (ev_vw1 (ev_var rfl) dv) fun _ _ => .str _)) fun l us1 H2 nl e2 h2 d2 => ?_
    · cases v with
      | quick x y => exact et_and (a := false) (b := (hiO (.quick x y)).isSome && (decide (oV (hiO (.quick x y)) = B) && decide (vwR (.quick x y) ∈ ovrL vs r))) (et_is (et_test (ev_op (ev_vw0 (ev_var rfl) dv) ev_c (rv_eq rfl))) (show decide (V.str "quick" = V.str "lead") = false by decide +kernel)) fun q => nomatch q
      | lead x lo hi =>
        obtain ⟨va, rfl, hva⟩ := vw_of dv
        refine et_and (a := true) (et_is (et_test (ev_op (ev_vw0 (ev_var rfl) dv) ev_c (rv_eq rfl))) rfl) fun _ => et_and (et_is (et_test (ev_notN (ev_op (ev_var rfl) ev_c (rv_ixT (st_of hva) (atI_nat (j := 3) rfl))))) (non_oV hi)) fun hs => et_and (et_test (ev_op (ev_op (ev_var rfl) ev_c (rv_ixT (st_of hva) (atI_nat (j := 3) rfl))) (ev_var rfl) (rv_eq ?_))) fun _ => et_test (ev_inLq (ev_at1 (ev_var rfl) hva) (lq_lask (ev_var rfl) (ev_var rfl) ((e1.trans e2) _ _ ha) (d.mono (e1.trans e2)) ok (by omega) hr'))
        cases hi with
        | none => cases hs
        | some z => rcases mn_is (bnds hiO vs (ovrL vs r)) with h | ⟨i, h⟩ <;> (rw [← hB, show highV vs r = _ from h]; rfl)
    · have e12 := e1.trans e2
      have dS : DqAll H2 us1 ((begs hiO vs B (ovrL vs r)).map PyData.str) := by unfold begs; rw [List.map_map]; exact d2
      have dec : B = .non ∨ ∃ n, B = .int n := by rw [← hB]; exact mn_is _
      rcases dec with h | ⟨n, h⟩
      · exact s_ret (ev_if (b := true) (et_is (et_test (ev_isN (ev_var rfl))) (by rw [h]; rfl)) (fun _ => ev_c) fun q => nomatch q) fun H3 e3 => k1 h H3 (e12.trans e3)
      · subst h
        obtain ⟨c0, FF, kk⟩ := k2 n rfl
        have six : ∀ x ∈ begs hiO vs (.int n) (ovrL vs r), x ∈ R6 := fun x hx => O.lead6 x (mem_begs.mp hx).1
        have FO := fitO ok hr'
        refine ret_k ((et_is (et_test (ev_isN (ev_var rfl))) rfl) H2 (Ex.refl _) _ fun H3 e3 => ?_)
        rw [if_neg (by simp)]
        refine call_k (ac_v (ev_var rfl) fun H4 e4 => ac_k (lst_k (ac_v (ev_var rfl) fun H6 e6 => ac_nil ⟨sz_of (show 1 ≤ 100000 by decide), fun l2 nl2 => ac_v (ev_var rfl) fun H7 e7 => ac_nil ?_⟩)))
        have eN := Ex.new (H := H6) (o := .lst [V.str r]) nl2
        have eA := (e3.trans e4).trans (e6.trans (eN.trans e7))
        have eZ := e12.trans eA
        refine ⟨a, l2, l, us, vs, [r], begs hiO vs (.int n) (ovrL vs r), c0, rfl, eZ _ _ ha, d.mono eZ, ok, by omega, e7 _ _ upd_same, by rw [eA _ _ h2, strs_of dS], by simp, by show 1 ≤ 8; decide, fun x hx => by rw [List.mem_singleton.mp hx]; exact hr', fun x hx => six_rule x (six x hx), O.eds, O.tgt, .inl (Nat.le_refl _), first_cut FF (fun _ h => h) (fun x hx => (mem_begs.mp hx).1) (fun x hx _ => hx) fun y hy ⟨x, hx, m, hm⟩ => mem_begs.mpr ⟨hy, ?_⟩, fun q H8 e8 h8 => kk q H8 (eZ.trans e8) h8⟩
        rw [List.mem_singleton.mp hx] at hm
        refine (mem_rchL FO).mpr ⟨m, rch_rev ?_⟩
        rw [bk_bk]
        exact hm
end
end K32
end
section
set_option maxHeartbeats 8000000
namespace K32
open PySem PyProof.Rows L2 Evl G OW BK TD
/-! ### a first chain there is -/
theorem min_str : ∀ {l : List Str}, l ≠ [] → ∃ y ∈ l, ∀ z ∈ l, sLt z y = false
  | [], h => absurd rfl h
  | [x], _ => ⟨x, List.mem_singleton.mpr rfl, fun z hz => by rw [List.mem_singleton.mp hz]; exact sLt_irr x⟩
  | x :: a :: l, _ => by
    obtain ⟨y, hy, mn⟩ := min_str (l := a :: l) (by simp)
    cases h : sLt x y with
    | true =>
      refine ⟨x, List.mem_cons_self, fun z hz => ?_⟩
      rcases List.mem_cons.mp hz with rfl | hz
      · exact sLt_irr _
      · exact ordSt.trans x y z (ordSt.asym _ _ h) (mn z hz)
    | false =>
      refine ⟨y, List.mem_cons_of_mem _ hy, fun z hz => ?_⟩
      rcases List.mem_cons.mp hz with rfl | hz
      · exact h
      · exact mn z hz
theorem gr_ex {E : List Ed} {G : List Str} : ∀ {n : Nat} {x : Str}, Dst E G x n → ∃ t, Gr sLt E G (x :: t) n
  | 0, x, d => ⟨[], d⟩
  | n + 1, x, d => by
    obtain ⟨y0, h0, r0⟩ := d.1
    have step : ∀ y, (x, y) ∈ E → Rch E G n y → Dst E G y n := fun y hy r => ⟨r, fun m hm => by have := d.2 (m + 1) ⟨y, hy, hm⟩; omega⟩
    have dec : ∀ q : Ed, Decidable (q.1 = x ∧ Dst E G q.2 n) := fun q => Classical.propDecidable _
    have ne : ((E.filter fun q => decide (q.1 = x ∧ Dst E G q.2 n)).map (·.2)) ≠ [] := fun z => by
      have : y0 ∈ ((E.filter fun q => decide (q.1 = x ∧ Dst E G q.2 n)).map (·.2)) := List.mem_map.mpr ⟨(x, y0), List.mem_filter.mpr ⟨h0, decide_eq_true ⟨rfl, step y0 h0 r0⟩⟩, rfl⟩
      rw [z] at this; cases this
    obtain ⟨y, hy, mn⟩ := min_str ne
    obtain ⟨⟨x', y'⟩, hq, rfl⟩ := List.mem_map.mp hy
    obtain ⟨he, hd⟩ := List.mem_filter.mp hq
    obtain ⟨ex, dy⟩ := of_decide_eq_true hd
    have ex : x' = x := ex
    subst ex
    obtain ⟨t, ht⟩ := gr_ex dy
    exact ⟨y' :: t, d, he, dy, fun z hz dz => mn z (List.mem_map.mpr ⟨(x', z), List.mem_filter.mpr ⟨hz, decide_eq_true ⟨rfl, dz⟩⟩, rfl⟩), ht⟩
theorem least_ex {p : Nat → Prop} : ∀ n, p n → ∃ m, p m ∧ ∀ j, p j → m ≤ j := fun n => by
  induction n using Nat.strongRecOn with
  | ind n ih =>
    intro h
    by_cases k : ∃ m, m < n ∧ p m
    · obtain ⟨m, hm, hp⟩ := k
      exact ih m hm hp
    · exact ⟨n, h, fun j hj => Classical.byContradiction fun z => k ⟨j, by omega, hj⟩⟩
theorem first_ex {E : List Ed} {S G : List Str} (h : ∃ x ∈ S, ∃ m, Rch E G m x) : ∃ c, IsFirst sLt E S G c := by
  obtain ⟨x0, hx0, m0, hm0⟩ := h
  obtain ⟨n0, _, d0⟩ := dst_ex hm0
  obtain ⟨n, ⟨x1, hx1, d1⟩, mn⟩ := least_ex (p := fun n => ∃ x ∈ S, Dst E G x n) n0 ⟨x0, hx0, d0⟩
  have dec : ∀ x, Decidable (Dst E G x n) := fun q => Classical.propDecidable _
  have ne : S.filter (fun x => decide (Dst E G x n)) ≠ [] := fun z => by
    have : x1 ∈ S.filter (fun x => decide (Dst E G x n)) := List.mem_filter.mpr ⟨hx1, decide_eq_true d1⟩
    rw [z] at this; cases this
  obtain ⟨x, hx, mx⟩ := min_str ne
  obtain ⟨hS, hd⟩ := List.mem_filter.mp hx
  obtain ⟨t, ht⟩ := gr_ex (of_decide_eq_true hd)
  refine ⟨x :: t, gr_first ht hS fun z hz m dz => ⟨mn m ⟨z, hz, dz⟩, fun e => mx z (List.mem_filter.mpr ⟨hz, decide_eq_true (e ▸ dz)⟩)⟩⟩
/-! ### what evaluates to data -/
def SpQv (sp : Sp) (vs : List V) (H : Hp) (d : PyData) : Prop := ∀ H1, Ex H H1 → ∀ Q : VK, (∀ v H2, Ex H1 H2 → Dq H2 v d → Q v H2) → ∀ E : XK, sp vs H1 Q E
theorem SpQv.mono {sp : Sp} {vs : List V} {H H' : Hp} {d : PyData} (h : SpQv sp vs H d) (e : Ex H H') : SpQv sp vs H' d := fun H1 e1 => h H1 (e.trans e1)
theorem spqv_l {sp : Sp} {vs : List V} {H : Hp} {ds : List PyData} (h : SpQs sp vs H ds) : SpQv sp vs H (.list ds) := fun H1 e Q q => h H1 e Q fun p us H2 _ e2 h2 d2 => q _ H2 e2 (.lst h2 d2)
theorem spqv_v {sp : Sp} {vs : List V} {H : Hp} {v : V} {d : PyData} (h : SpV sp vs H v) (hd : ∀ H1, Dq H1 v d) : SpQv sp vs H d := fun H1 e Q q => h H1 e Q fun H2 e2 => q _ H2 e2 (hd H2)
theorem encO : EncOk oD (fun _ => True) where
  eqv a b := eqv_oD a b
  lay a _ := by cases a <;> rfl
  dep a := by cases a <;> simp [oD, PyData.depth]
def mbD : Option (List Str) → PyData
  | none => .none
  | some c => pathD c
theorem encM : EncOk mbD (fun o => ∀ c, o = some c → ∀ x ∈ c, x ∈ ruleL) where
  eqv a b := by
    cases a with
    | none =>
      cases b with
      | none => simp [mbD, PyData.eqv]
      | some c => simp [mbD, pathD, PyData.eqv]
    | some c =>
      cases b with
      | none => simp [mbD, pathD, PyData.eqv]
      | some c' =>
        show PyData.eqv (pathD c) (pathD c') = _
        rw [encC.eqv, Bool.eq_iff_iff]
        simp
  lay a h := by
    cases a with
    | none => rfl
    | some c => exact encC.lay c (h c rfl)
  dep a := by
    cases a with
    | none => simp [mbD, PyData.depth]
    | some c => exact encC.dep c
section
variable {K : PySem.W.Frag} {σ : L2.St} {H : Hp} {te ta tb : TE} {tk : TA} {d : PyData} {zs vs : List V} {E : XK} {n : Nat} {sp : Sp} {gV : List V → List V → List V} {α : Type} [DecidableEq α] {enc : α → PyData} {ok : α → Prop} {a b : α}
theorem eq_call (h : EvA tk σ H vs) (hs : SpQv sp (vs ++ []) H d) : EvQ (tCall sp [] E tk) σ H d := fun H1 e Q q => h H1 e _ fun H2 e2 => hs H2 (e.trans e2) Q (fun v H3 e3 hv => q v H3 (e2.trans e3) hv) E
theorem eq_callN (h : EvA tk σ H zs) (hn : zs.length = n) (hs : SpQv sp (gV [] zs) H d) : EvQ (tCallN0 n sp gV E tk) σ H d := fun H1 e Q q => h H1 e _ fun H2 e2 => ⟨hn, hs H2 (e.trans e2) Q (fun v H3 e3 hv => q v H3 (e2.trans e3) hv) E⟩
theorem ev_neQ (O : EncOk enc ok) (ha : EvQ ta σ H (enc a)) (hb : EvQ tb σ H (enc b)) (ka : ok a) (kb : ok b) : Ev (tOp (rNeD K) ta tb) σ H (.bl (!decide (a = b))) := fun H1 e Q q =>
  ha H1 e _ fun v H2 e2 dv => hb H2 (e.trans e2) _ fun u H3 e3 du => by
    refine ⟨enc a, enc b, dq_dp _ (O.lay a ka) (dv.mono e3), dq_dp _ (O.lay b kb) du, O.sh ka, O.sh kb, ?_⟩
    rw [O.eqv]
    exact q H3 (e2.trans e3)
theorem ev_eqQ (O : EncOk enc ok) (ha : EvQ ta σ H (enc a)) (hb : EvQ tb σ H (enc b)) (ka : ok a) (kb : ok b) : Ev (tOp (rEqD K) ta tb) σ H (.bl (decide (a = b))) := fun H1 e Q q =>
  ha H1 e _ fun v H2 e2 dv => hb H2 (e.trans e2) _ fun u H3 e3 du => by
    refine ⟨enc a, enc b, dq_dp _ (O.lay a ka) (dv.mono e3), dq_dp _ (O.lay b kb) du, O.sh ka, O.sh kb, ?_⟩
    rw [O.eqv]
    exact q H3 (e2.trans e3)
/-- two told lists of like things: nothing but like -/
theorem et_same (O : EncOk enc ok) (ha : EvQ ta σ H (enc a)) (hb : EvQ tb σ H (enc a)) (ka : ok a) : EvT (tTest (tOp (rNeD K) ta tb)) σ H false := et_is (et_test (ev_neQ O ha hb ka ka)) (by simp)
theorem et_sameL (O : EncOk enc ok) {xs : List α} (ha : EvLq ta σ H (xs.map enc)) (hb : EvLq tb σ H (xs.map enc)) (kx : ∀ x ∈ xs, ok x) : EvT (tTest (tOp (rNeD K) ta tb)) σ H false := et_is (et_test (ev_neLs O (esl_lq ha) (fun H1 e1 => esl_lq fun H2 e2 => hb H2 (e1.trans e2)) kx kx)) (by simp)
theorem ev_neO {a b : Option Int} (ha : EvQ ta σ H (oD a)) (hb : EvQ tb σ H (oD b)) : Ev (tOp rNe ta tb) σ H (.bl (!decide (oV a = oV b))) := fun H1 e Q q =>
  ha H1 e _ fun v H2 e2 dv => hb H2 (e.trans e2) _ fun u H3 e3 du => by
    rw [oV_of dv, oV_of du]
    exact ⟨by cases a <;> cases b <;> rfl, q H3 (e2.trans e3)⟩
theorem ev_isNQ {a : Option Int} (ha : EvQ ta σ H (oD a)) : Ev (tOp (fun x y H Q => y = V.non ∧ Q (V.bl (decide (x = V.non))) H) ta (tC .non)) σ H (.bl (decide (oV a = .non))) := fun H1 e Q q =>
  ha H1 e _ fun v H2 e2 dv => ⟨rfl, by rw [oV_of dv]; exact q H2 e2⟩
end
/-! ### the first chain of a bound, or None -/
theorem low_has {vs : List Vow} (ok : ∀ v ∈ vs, vwOk v) {r : Str} (hr : r ∈ ruleL) {n : Int} (h : lowV vs r = .int n) : ∃ c, IsFirst sLt (eds vs) (withB loO vs n) [r] c := by
  obtain ⟨m1, _⟩ := mx_mem h
  obtain ⟨v, v1, v2, v3, v4⟩ := mem_bnds.mp m1
  exact first_ex ⟨vwR v, mem_withB.mpr ⟨v, v1, v2, v4, rfl⟩, (mem_rchL (fitU ok hr)).mp v3⟩
theorem high_has {vs : List Vow} (ok : ∀ v ∈ vs, vwOk v) {r : Str} (hr : r ∈ ruleL) {n : Int} (h : highV vs r = .int n) : ∃ c, IsFirst sLt (eds vs) [r] (withB hiO vs n) c := by
  obtain ⟨m1, _⟩ := mn_mem h
  obtain ⟨v, v1, v2, v3, v4⟩ := mem_bnds.mp m1
  obtain ⟨m, hm⟩ := (mem_rchL (fitO ok hr)).mp v3
  exact first_ex ⟨r, List.mem_singleton.mpr rfl, m, rch_more (fun x hx => by rw [List.mem_singleton.mp hx]; exact mem_withB.mpr ⟨v, v1, v2, v4, rfl⟩) (rch_rev hm)⟩
theorem first_rule {E : List Ed} {S G c : List Str} (he : ∀ p ∈ E, p.2 ∈ ruleL) (hs : ∀ x ∈ S, x ∈ ruleL) (h : IsFirst sLt E S G c) : ∀ x ∈ c, x ∈ ruleL := by
  obtain ⟨x, r, rfl, hx⟩ := h.is_.hd
  exact pth_rule he h.is_.pth (hs x hx)
/-- what a def tells: None, or the one first chain -/
def OneC (E : List Ed) (v : V) (S G : Int → List Str) (o : Option (List Str)) : Prop := (v = .non → o = none) ∧ ∀ n, v = .int n → ∃ c, o = some c ∧ IsFirst sLt E (S n) (G n) c
theorem one_ex {E : List Ed} {v : V} {S G : Int → List Str} (h : v = .non ∨ ∃ n, v = .int n) (k : ∀ n, v = .int n → ∃ c, IsFirst sLt E (S n) (G n) c) : ∃ o, OneC E v S G o := by
  rcases h with rfl | ⟨n, rfl⟩
  · exact ⟨none, fun _ => rfl, fun n q => nomatch q⟩
  · obtain ⟨c, hc⟩ := k n rfl
    exact ⟨some c, ⟨(fun q => nomatch q), fun m e => by cases e; exact ⟨c, rfl, hc⟩⟩⟩
theorem retC_of {E E' : List Ed} {v : V} {S G S' G' : Int → List Str} {o : Option (List Str)} (O : OneC E v S G o) (hv : v = .non ∨ ∃ n, v = .int n) (he : ∀ p, p ∈ E' ↔ p ∈ E) (hs : ∀ n x, x ∈ S' n ↔ x ∈ S n) (hg : ∀ n x, x ∈ G' n ↔ x ∈ G n) {H : Hp} {Q : VK} (q : ∀ v H2, Ex H H2 → Dq H2 v (mbD o) → Q v H2) : RetC E' v S' G' H Q := by
  refine ⟨fun e H2 e2 => ?_, fun n e p c H2 np e2 h2 FF => ?_⟩
  · rw [O.1 e] at q
    exact q .non H2 e2 .non
  · obtain ⟨c0, rfl, F0⟩ := O.2 n e
    have := first_one ordSt (first_same he (hs n) (hg n) FF) F0
    subst this
    exact q _ H2 e2 (.lst h2 (of_strs _))
theorem retP_of {E : List Ed} {v : V} {S G : Int → List Str} {o : Option (List Str)} (O : OneC E v S G o) {H : Hp} {Q : VK} (q : ∀ v H2, Ex H H2 → Dq H2 v (mbD o) → Q v H2) : RetP E v S G H Q := by
  refine ⟨fun e H2 e2 => ?_, fun n e => ?_⟩
  · rw [O.1 e] at q
    exact q .non H2 e2 .non
  · obtain ⟨c0, rfl, F0⟩ := O.2 n e
    exact ⟨c0, F0, fun p H2 e2 h2 => q _ H2 e2 (.lst h2 (of_strs _))⟩
end K32
end
section
set_option maxHeartbeats 8000000
namespace K32
open PySem PyProof.Rows L2 Evl G OW BK TD
abbrev KbBR (K : PySem.W.Frag) (fd : FuncData) : Prop := KBn K fd ["book", "rule"] 0 ["rule", "book"] (fun us ws => us ++ ws.reverse) (fun vs zs => vs ++ zs.reverse)
def sp_rright (C : Addr) : Sp := fun as H Q _ => ∃ (s a : Addr) (us : List V) (rs : List Rw) (vs : List Vow) (r : Str), as = [.ref s, .ref a, .str r] ∧ BkAt H C s rs (srtV vs) ∧ H a = some (.lst us) ∧ DqAll H us (vs.map vwD) ∧ Oath vs ∧ r ∈ ruleL ∧ RetV (.bl true) H Q
section
variable {P : Program} {w : World} {K : PySem.W.Frag} {mg : Str → Option Value} {base : Heap} {C : Addr}
theorem lowV_o (vs : List Vow) (r : Str) : ∃ o, lowV vs r = oV o := by
  rcases mx_is (bnds loO vs (undL vs r)) with h | ⟨i, h⟩
  · exact ⟨none, h⟩
  · exact ⟨some i, h⟩
theorem highV_o (vs : List Vow) (r : Str) : ∃ o, highV vs r = oV o := by
  rcases mn_is (bnds hiO vs (ovrL vs r)) with h | ⟨i, h⟩
  · exact ⟨none, h⟩
  · exact ⟨some i, h⟩
theorem und_rule {vs : List Vow} (ok : ∀ v ∈ vs, vwOk v) {r : Str} (hr : r ∈ ruleL) : ∀ x ∈ undL vs r, x ∈ ruleL := fun x hx => by
  obtain ⟨m, hm⟩ := (mem_rchL (fitU ok hr)).mp hx
  exact rch_rule (fitU ok hr) hm
theorem und_len {vs : List Vow} (ok : ∀ v ∈ vs, vwOk v) {r : Str} (hr : r ∈ ruleL) : (undL vs r).length ≤ 8 := by
  have := sub_len (ys := ruleL) (nrm_nodup (xs := _)) (und_rule ok hr)
  rw [show ruleL.length = 8 by decide +kernel] at this
  exact this
theorem Oath.srtOk {vs : List Vow} (O : Oath vs) : ∀ v ∈ srtV vs, vwOk v := fun v h => O.ok v (mem_srt.mp h)
theorem Oath.srtLen {vs : List Vow} (O : Oath vs) : (srtV vs).length ≤ 12 := Nat.le_trans (srt_le fun x h => h) (Nat.le_trans O.len (by decide))
theorem mem_srtV {vs : List Vow} (v : Vow) : v ∈ srtV vs ↔ v ∈ vs := mem_srt
theorem ok_rright {f f1 f2 f3 f4 f5 f6 g1 g2 g3 g4 g5 g6 : Addr} {fd fd1 fd2 fd3 fd4 fd5 fd6 gd1 gd2 gd3 gd4 gd5 gd6 : FuncData} (F : Fun K "_law_rule_right" "_law_rule_right" s__law_rule_right f fd) (T : Txt P w K mg C)
    (c_beneath : Cal P w K mg base "beneath" f1 fd1 ["book", "rule"] 4 (sp_beneath C)) (c_above : Cal P w K mg base "above" f2 fd2 ["book", "rule"] 4 (sp_above C)) (c_low : Cal P w K mg base "low" f3 fd3 ["book", "rule"] 5 (sp_low C)) (c_high : Cal P w K mg base "high" f4 fd4 ["book", "rule"] 5 (sp_high C)) (c_low_chain : Cal P w K mg base "low_chain" f5 fd5 ["book", "rule"] 6 (sp_low_chain C)) (c_high_chain : Cal P w K mg base "high_chain" f6 fd6 ["book", "rule"] 6 (sp_high_chain C))
    (c__law_under : Cal P w K mg base "_law_under" g1 gd1 ["_law_vows", "_law_who"] 2 sp_lunder) (c__law_over : Cal P w K mg base "_law_over" g2 gd2 ["_law_vows", "_law_who"] 2 sp_lover) (c__law_low : Cal P w K mg base "_law_low" g3 gd3 ["_law_vows", "_law_who"] 3 sp_llow) (c__law_high : Cal P w K mg base "_law_high" g4 gd4 ["_law_vows", "_law_who"] 3 sp_lhigh) (c__law_low_chain : Cal P w K mg base "_law_low_chain" g5 gd5 ["_law_vows", "_law_who"] 4 sp_llchain) (c__law_high_chain : Cal P w K mg base "_law_high_chain" g6 gd6 ["_law_vows", "_law_who"] 4 sp_lhchain)
    (kb_beneath_rule_book : KbBR K fd1) (kb_above_rule_book : KbBR K fd2) (kb_low_rule_book : KbBR K fd3) (kb_high_rule_book : KbBR K fd4) (kb_low_chain_rule_book : KbBR K fd5) (kb_high_chain_book_rule : KBn K fd6 ["book", "rule"] 0 ["book", "rule"] (fun us ws => us ++ ws) (fun vs zs => vs ++ zs)) :
    FnOk P w K mg base CX0 7 f fd ["_law_shelf", "_law_vows", "_law_who"] (sp_rright C) := by
  refine F.ok sc__law_rule_right (fun vs H Q E h => ?_) (fun cdv A outer st H vs Q E hr h => ?_)
  · obtain ⟨s, a, us, rs, vs, r, rfl, _⟩ := h
    rfl
  · obtain ⟨s, a, us, rs, vs, r, rfl, b, ha, d, O, hr', k⟩ := h
    refine ⟨_, (pss_cons (ps_if (PW.pt (pw_or (pt_cmpR (neD (K := K) rfl hr.units) (pe_call c_beneath.ok (hr.mono (by decide)) (by rfl) c_beneath.mgx c_beneath.kp c_beneath.bd .nil pass0 (pa_cons (pv 0) (pa_cons (pv 2) pa_nil))) (pe_call c__law_under.ok (hr.mono (by decide)) (by rfl) c__law_under.mgx c__law_under.kp c__law_under.bd .nil pass0 (pa_cons (pv 1) (pa_cons (pv 2) pa_nil))) (nomark _)) (pw_or1 (pt_cmpR (neD (K := K) rfl hr.units) (pe_callN0 c_above.ok (hr.mono (by decide)) (by rfl) c_above.mgx c_above.kp kb_above_rule_book pass0 (pk_cons (pv 2) (pk_cons (pv 0) pk_nil))) (pe_call c__law_over.ok (hr.mono (by decide)) (by rfl) c__law_over.mgx c__law_over.kp c__law_over.bd .nil pass0 (pa_cons (pv 1) (pa_cons (pv 2) pa_nil))) (nomark _))))) (pss_one (ps_ret pe_bl)) pss_nil) (pss_cons (ps_if (PW.pt (pw_or (pt_cmpR op_ne (pe_call c_low.ok (hr.mono (by decide)) (by rfl) c_low.mgx c_low.kp c_low.bd .nil pass0 (pa_cons (pv 0) (pa_cons (pv 2) pa_nil))) (pe_call c__law_low.ok (hr.mono (by decide)) (by rfl) c__law_low.mgx c__law_low.kp c__law_low.bd .nil pass0 (pa_cons (pv 1) (pa_cons (pv 2) pa_nil))) (nomark _)) (pw_or1 (pt_cmpR op_ne (pe_call c_high.ok (hr.mono (by decide)) (by rfl) c_high.mgx c_high.kp c_high.bd .nil pass0 (pa_cons (pv 0) (pa_cons (pv 2) pa_nil))) (pe_call c__law_high.ok (hr.mono (by decide)) (by rfl) c__law_high.mgx c__law_high.kp c__law_high.bd .nil pass0 (pa_cons (pv 1) (pa_cons (pv 2) pa_nil))) (nomark _))))) (pss_one (ps_ret pe_bl)) pss_nil) (pss_cons (ps_if (pt_cmpR (neD (K := K) rfl hr.units) (pe_lst (pa_cons (pe_callN0 c_beneath.ok (hr.mono (by decide)) (by rfl) c_beneath.mgx c_beneath.kp kb_beneath_rule_book pass0 (pk_cons (pv 2) (pk_cons (pv 0) pk_nil))) (pa_cons (pe_call c_above.ok (hr.mono (by decide)) (by rfl) c_above.mgx c_above.kp c_above.bd .nil pass0 (pa_cons (pv 0) (pa_cons (pv 2) pa_nil))) pa_nil))) (pe_lst (pa_cons (pe_call c__law_under.ok (hr.mono (by decide)) (by rfl) c__law_under.mgx c__law_under.kp c__law_under.bd .nil pass0 (pa_cons (pv 1) (pa_cons (pv 2) pa_nil))) (pa_cons (pe_call c__law_over.ok (hr.mono (by decide)) (by rfl) c__law_over.mgx c__law_over.kp c__law_over.bd .nil pass0 (pa_cons (pv 1) (pa_cons (pv 2) pa_nil))) pa_nil))) (nomark _)) (pss_one (ps_ret pe_bl)) pss_nil) (pss_cons (ps_if (pt_cmpR (neD (K := K) rfl hr.units) (pe_lst (pa_cons (pe_callN0 c_low.ok (hr.mono (by decide)) (by rfl) c_low.mgx c_low.kp kb_low_rule_book pass0 (pk_cons (pv 2) (pk_cons (pv 0) pk_nil))) (pa_cons (pe_callN0 c_high.ok (hr.mono (by decide)) (by rfl) c_high.mgx c_high.kp kb_high_rule_book pass0 (pk_cons (pv 2) (pk_cons (pv 0) pk_nil))) pa_nil))) (pe_lst (pa_cons (pe_call c__law_low.ok (hr.mono (by decide)) (by rfl) c__law_low.mgx c__law_low.kp c__law_low.bd .nil pass0 (pa_cons (pv 1) (pa_cons (pv 2) pa_nil))) (pa_cons (pe_call c__law_high.ok (hr.mono (by decide)) (by rfl) c__law_high.mgx c__law_high.kp c__law_high.bd .nil pass0 (pa_cons (pv 1) (pa_cons (pv 2) pa_nil))) pa_nil))) (nomark _)) (pss_one (ps_ret pe_bl)) pss_nil) (pss_cons (ps_if (pt_cmpR (neD (K := K) rfl hr.units) (pe_lst (pa_cons (pe_callN0 c_low_chain.ok (hr.mono (by decide)) (by rfl) c_low_chain.mgx c_low_chain.kp kb_low_chain_rule_book pass0 (pk_cons (pv 2) (pk_cons (pv 0) pk_nil))) (pa_cons (pe_call c_high_chain.ok (hr.mono (by decide)) (by rfl) c_high_chain.mgx c_high_chain.kp c_high_chain.bd .nil pass0 (pa_cons (pv 0) (pa_cons (pv 2) pa_nil))) pa_nil))) (pe_lst (pa_cons (pe_call c__law_low_chain.ok (hr.mono (by decide)) (by rfl) c__law_low_chain.mgx c__law_low_chain.kp c__law_low_chain.bd .nil pass0 (pa_cons (pv 1) (pa_cons (pv 2) pa_nil))) (pa_cons (pe_call c__law_high_chain.ok (hr.mono (by decide)) (by rfl) c__law_high_chain.mgx c__law_high_chain.kp c__law_high_chain.bd .nil pass0 (pa_cons (pv 1) (pa_cons (pv 2) pa_nil))) pa_nil))) (nomark _)) (pss_one (ps_ret pe_bl)) pss_nil) (pss_cons (ps_if (PW.pt (pw_or (pt_cmpR op_ne (pe_cmpR op_isN (pe_call c_low.ok (hr.mono (by decide)) (by rfl) c_low.mgx c_low.kp c_low.bd .nil pass0 (pa_cons (pv 0) (pa_cons (pv 2) pa_nil))) pe_non (nomark _)) (pe_cmpR op_isN (pe_call c__law_low.ok (hr.mono (by decide)) (by rfl) c__law_low.mgx c__law_low.kp c__law_low.bd .nil pass0 (pa_cons (pv 1) (pa_cons (pv 2) pa_nil))) pe_non (nomark _)) (nomark _)) (pw_or1 (pt_cmpR op_ne (pe_cmpR op_isN (pe_call c_high.ok (hr.mono (by decide)) (by rfl) c_high.mgx c_high.kp c_high.bd .nil pass0 (pa_cons (pv 0) (pa_cons (pv 2) pa_nil))) pe_non (nomark _)) (pe_cmpR op_isN (pe_call c__law_high.ok (hr.mono (by decide)) (by rfl) c__law_high.mgx c__law_high.kp c__law_high.bd .nil pass0 (pa_cons (pv 1) (pa_cons (pv 2) pa_nil))) pe_non (nomark _)) (nomark _))))) (pss_one (ps_ret pe_bl)) pss_nil) (pss_cons (ps_if (PW.pt (pw_or (pt_cmpR (neD (K := K) rfl hr.units) (pe_call c_low_chain.ok (hr.mono (by decide)) (by rfl) c_low_chain.mgx c_low_chain.kp c_low_chain.bd .nil pass0 (pa_cons (pv 0) (pa_cons (pv 2) pa_nil))) (pe_call c__law_low_chain.ok (hr.mono (by decide)) (by rfl) c__law_low_chain.mgx c__law_low_chain.kp c__law_low_chain.bd .nil pass0 (pa_cons (pv 1) (pa_cons (pv 2) pa_nil))) (nomark _)) (pw_or1 (pt_cmpR (neD (K := K) rfl hr.units) (pe_callN0 c_high_chain.ok (hr.mono (by decide)) (by rfl) c_high_chain.mgx c_high_chain.kp kb_high_chain_book_rule pass0 (pk_cons (pv 0) (pk_cons (pv 2) pk_nil))) (pe_call c__law_high_chain.ok (hr.mono (by decide)) (by rfl) c__law_high_chain.mgx c__law_high_chain.kp c__law_high_chain.bd .nil pass0 (pa_cons (pv 1) (pa_cons (pv 2) pa_nil))) (nomark _))))) (pss_one (ps_ret pe_bl)) pss_nil) (pss_cons (ps_set (i := 3) sc__law_rule_right.nd rfl (Or.inl rfl) (pe_call c_beneath.ok (hr.mono (by decide)) (by rfl) c_beneath.mgx c_beneath.kp c_beneath.bd .nil pass0 (pa_cons (pv 0) (pa_cons (pv 2) pa_nil)))) (pss_cons (ps_expr (pe_bm PySem.F.plainAttrs_list PySem.F.slot_list_append PySem.F.type_list_append mt_append (pv 3) (pa_cons pe_str pa_nil))) (pss_one (ps_ret (pe_and (pe_cmpR (eqD (K := K) rfl hr.units) (pe_call c_beneath.ok (hr.mono (by decide)) (by rfl) c_beneath.mgx c_beneath.kp c_beneath.bd .nil pass0 (pa_cons (pv 0) (pa_cons (pv 2) pa_nil))) (pe_call c__law_under.ok (hr.mono (by decide)) (by rfl) c__law_under.mgx c__law_under.kp c__law_under.bd .nil pass0 (pa_cons (pv 1) (pa_cons (pv 2) pa_nil))) (nomark _)) (pe_one (pe_callB call_isi (by rfl) T.b_isinstance (by decide +kernel) (pa_cons (pe_call c_above.ok (hr.mono (by decide)) (by rfl) c_above.mgx c_above.kp c_above.bd .nil pass0 (pa_cons (pv 0) (pa_cons (pv 2) pa_nil))) (pa_cons (pe_bltn (v := .ty "list") (u := .type "list") (by rfl) T.b_list (by decide +kernel) rfl) pa_nil)))))))))))))))), ?_⟩
    have ok := O.ok
    have len := O.len
    have same := fun v => (mem_srtV (vs := vs) v)
    obtain ⟨lo, hlo⟩ := lowV_o vs r
    obtain ⟨hi, hhi⟩ := highV_o vs r
    have dl : lowV vs r = .non ∨ ∃ n, lowV vs r = .int n := mx_is _
    have dh : highV vs r = .non ∨ ∃ n, highV vs r = .int n := mn_is _
    obtain ⟨c1, O1⟩ := one_ex (E := eds vs) (S := withB loO vs) (G := fun _ => [r]) dl fun n h => low_has ok hr' h
    obtain ⟨c2, O2⟩ := one_ex (E := eds vs) (S := fun _ => [r]) (G := withB hiO vs) dh fun n h => high_has ok hr' h
    have r1 : ∀ x ∈ ([r] : List Str), x ∈ ruleL := fun x hx => by rw [List.mem_singleton.mp hx]; exact hr'
    have k1 : ∀ c, c1 = some c → ∀ x ∈ c, x ∈ ruleL := fun c e => by
      rcases dl with h | ⟨n, h⟩
      · rw [O1.1 h] at e; cases e
      · obtain ⟨c', e', F1⟩ := O1.2 n h
        rw [e'] at e; cases e
        exact first_rule (fun p hp => (eds_rule ok p hp).2) (withB_ok ok) F1
    have k2 : ∀ c, c2 = some c → ∀ x ∈ c, x ∈ ruleL := fun c e => by
      rcases dh with h | ⟨n, h⟩
      · rw [O2.1 h] at e; cases e
      · obtain ⟨c', e', F1⟩ := O2.2 n h
        rw [e'] at e; cases e
        exact first_rule (fun p hp => (eds_rule ok p hp).2) r1 F1
    have hU := und_rule ok hr'
    have hO := ovr_rule ok hr'
    -- what each def tells
    have fb : SpQv (sp_beneath C) [.ref s, .str r] H (pathD (undL vs r)) := spqv_l fun H1 e Q q E => ⟨s, rs, srtV vs, r, rfl, b.mono e, O.srtOk, O.srtLen, hr', by rw [← undL_same same r] at q; exact q⟩
    have fa : SpQv (sp_above C) [.ref s, .str r] H (pathD (ovrL vs r)) := spqv_l fun H1 e Q q E => ⟨s, rs, srtV vs, r, rfl, b.mono e, O.srtOk, O.srtLen, hr', by rw [← ovrL_same same r] at q; exact q⟩
    have fl : SpQv (sp_low C) [.ref s, .str r] H (oD lo) := spqv_v (v := oV lo) (fun H1 e Q q E => ⟨s, rs, srtV vs, r, rfl, b.mono e, O.srtOk, O.srtLen, hr', by rw [← hlo, ← lowV_same same r] at q; exact q⟩) fun _ => oD_of lo
    have fh : SpQv (sp_high C) [.ref s, .str r] H (oD hi) := spqv_v (v := oV hi) (fun H1 e Q q E => ⟨s, rs, srtV vs, r, rfl, b.mono e, O.srtOk, O.srtLen, hr', by rw [← hhi, ← highV_same same r] at q; exact q⟩) fun _ => oD_of hi
    have fc1 : SpQv (sp_low_chain C) [.ref s, .str r] H (mbD c1) := fun H1 e Q q E => ⟨s, rs, srtV vs, r, rfl, b.mono e, srt_srt ordV vs, O.srtOk, O.srtLen, hr', by
      rw [lowV_same same r]
      exact retC_of O1 dl (edsI same) (fun n x => withB_same same loO n x) (fun _ _ => Iff.rfl) q⟩
    have fc2 : SpQv (sp_high_chain C) [.ref s, .str r] H (mbD c2) := fun H1 e Q q E => ⟨s, rs, srtV vs, r, rfl, b.mono e, srt_srt ordV vs, O.srtOk, O.srtLen, hr', by
      rw [highV_same same r]
      exact retC_of O2 dh (edsI same) (fun _ _ => Iff.rfl) (fun n x => withB_same same hiO n x) q⟩
    have gb : SpQv sp_lunder [.ref a, .str r] H (pathD (undL vs r)) := spqv_l fun H1 e Q q E => ⟨a, us, vs, r, rfl, e _ _ ha, d.mono e, ok, by omega, hr', q⟩
    have ga : SpQv sp_lover [.ref a, .str r] H (pathD (ovrL vs r)) := spqv_l fun H1 e Q q E => ⟨a, us, vs, r, rfl, e _ _ ha, d.mono e, ok, by omega, hr', q⟩
    have gl : SpQv sp_llow [.ref a, .str r] H (oD lo) := spqv_v (v := oV lo) (fun H1 e Q q E => ⟨a, us, vs, r, rfl, e _ _ ha, d.mono e, ok, by omega, hr', by rw [← hlo] at q; exact q⟩) fun _ => oD_of lo
    have gh : SpQv sp_lhigh [.ref a, .str r] H (oD hi) := spqv_v (v := oV hi) (fun H1 e Q q E => ⟨a, us, vs, r, rfl, e _ _ ha, d.mono e, ok, by omega, hr', by rw [← hhi] at q; exact q⟩) fun _ => oD_of hi
    have gc1 : SpQv sp_llchain [.ref a, .str r] H (mbD c1) := fun H1 e Q q E => ⟨a, us, vs, r, rfl, e _ _ ha, d.mono e, O, hr', retP_of O1 q⟩
    have gc2 : SpQv sp_lhchain [.ref a, .str r] H (mbD c2) := fun H1 e Q q E => ⟨a, us, vs, r, rfl, e _ _ ha, d.mono e, O, hr', retP_of O2 q⟩
    refine q_when (b := false) (et_or (a := false) (b := false) (et_same encC (eq_call (ea_cons (ev_var rfl) (ea_cons (ev_var rfl) ea_nil)) fb) (eq_call (ea_cons (ev_var rfl) (ea_cons (ev_var rfl) ea_nil)) gb) hU) fun _ => et_same encC (eq_callN (ea_cons (ev_var rfl) (ea_cons (ev_var rfl) ea_nil)) rfl fa) (eq_call (ea_cons (ev_var rfl) (ea_cons (ev_var rfl) ea_nil)) ga) hO) (fun q => nomatch q) fun _ H1 e1 => ?_
    refine q_when (b := false) (et_or (a := false) (b := false) (et_is (et_test (ev_neO (eq_call (ea_cons (ev_var rfl) (ea_cons (ev_var rfl) ea_nil)) (fl.mono e1)) (eq_call (ea_cons (ev_var rfl) (ea_cons (ev_var rfl) ea_nil)) (gl.mono e1)))) (by simp)) fun _ => et_is (et_test (ev_neO (eq_call (ea_cons (ev_var rfl) (ea_cons (ev_var rfl) ea_nil)) (fh.mono e1)) (eq_call (ea_cons (ev_var rfl) (ea_cons (ev_var rfl) ea_nil)) (gh.mono e1)))) (by simp)) (fun q => nomatch q) fun _ H2 e2 => ?_
    have e12 := e1.trans e2
    refine q_when (b := false) (et_sameL encC (xs := [undL vs r, ovrL vs r]) (lq_lst (aq_cons (eq_callN (ea_cons (ev_var rfl) (ea_cons (ev_var rfl) ea_nil)) rfl (fb.mono e12)) (aq_cons (eq_call (ea_cons (ev_var rfl) (ea_cons (ev_var rfl) ea_nil)) (fa.mono e12)) aq_nil)) (by show 2 ≤ 100000; decide)) (lq_lst (aq_cons (eq_call (ea_cons (ev_var rfl) (ea_cons (ev_var rfl) ea_nil)) (gb.mono e12)) (aq_cons (eq_call (ea_cons (ev_var rfl) (ea_cons (ev_var rfl) ea_nil)) (ga.mono e12)) aq_nil)) (by show 2 ≤ 100000; decide)) (fun x hx => by
      rcases List.mem_cons.mp hx with rfl | hx
      · exact hU
      · rw [List.mem_singleton.mp hx]; exact hO)) (fun q => nomatch q) fun _ H3 e3 => ?_
    have e13 := e12.trans e3
    refine q_when (b := false) (et_sameL encO (xs := [lo, hi]) (lq_lst (aq_cons (eq_callN (ea_cons (ev_var rfl) (ea_cons (ev_var rfl) ea_nil)) rfl (fl.mono e13)) (aq_cons (eq_callN (ea_cons (ev_var rfl) (ea_cons (ev_var rfl) ea_nil)) rfl (fh.mono e13)) aq_nil)) (by show 2 ≤ 100000; decide)) (lq_lst (aq_cons (eq_call (ea_cons (ev_var rfl) (ea_cons (ev_var rfl) ea_nil)) (gl.mono e13)) (aq_cons (eq_call (ea_cons (ev_var rfl) (ea_cons (ev_var rfl) ea_nil)) (gh.mono e13)) aq_nil)) (by show 2 ≤ 100000; decide)) (fun _ _ => trivial)) (fun q => nomatch q) fun _ H4 e4 => ?_
    have e14 := e13.trans e4
    refine q_when (b := false) (et_sameL encM (xs := [c1, c2]) (lq_lst (aq_cons (eq_callN (ea_cons (ev_var rfl) (ea_cons (ev_var rfl) ea_nil)) rfl (fc1.mono e14)) (aq_cons (eq_call (ea_cons (ev_var rfl) (ea_cons (ev_var rfl) ea_nil)) (fc2.mono e14)) aq_nil)) (by show 2 ≤ 100000; decide)) (lq_lst (aq_cons (eq_call (ea_cons (ev_var rfl) (ea_cons (ev_var rfl) ea_nil)) (gc1.mono e14)) (aq_cons (eq_call (ea_cons (ev_var rfl) (ea_cons (ev_var rfl) ea_nil)) (gc2.mono e14)) aq_nil)) (by show 2 ≤ 100000; decide)) (fun x hx => by
      rcases List.mem_cons.mp hx with rfl | hx
      · exact k1
      · rw [List.mem_singleton.mp hx]; exact k2)) (fun q => nomatch q) fun _ H5 e5 => ?_
    have e15 := e14.trans e5
    refine q_when (b := false) (et_or (a := false) (b := false) (et_is (et_test (ev_op (ev_isNQ (eq_call (ea_cons (ev_var rfl) (ea_cons (ev_var rfl) ea_nil)) (fl.mono e15))) (ev_isNQ (eq_call (ea_cons (ev_var rfl) (ea_cons (ev_var rfl) ea_nil)) (gl.mono e15))) (rv_ne rfl))) (by simp)) fun _ => et_is (et_test (ev_op (ev_isNQ (eq_call (ea_cons (ev_var rfl) (ea_cons (ev_var rfl) ea_nil)) (fh.mono e15))) (ev_isNQ (eq_call (ea_cons (ev_var rfl) (ea_cons (ev_var rfl) ea_nil)) (gh.mono e15))) (rv_ne rfl))) (by simp)) (fun q => nomatch q) fun _ H6 e6 => ?_
    have e16 := e15.trans e6
    refine q_when (b := false) (et_or (a := false) (b := false) (et_same encM (eq_call (ea_cons (ev_var rfl) (ea_cons (ev_var rfl) ea_nil)) (fc1.mono e16)) (eq_call (ea_cons (ev_var rfl) (ea_cons (ev_var rfl) ea_nil)) (gc1.mono e16)) k1) fun _ => et_same encM (eq_callN (ea_cons (ev_var rfl) (ea_cons (ev_var rfl) ea_nil)) rfl (fc2.mono e16)) (eq_call (ea_cons (ev_var rfl) (ea_cons (ev_var rfl) ea_nil)) (gc2.mono e16)) k2) (fun q => nomatch q) fun _ H7 e7 => ?_
    have e17 := e16.trans e7
    refine q_els (ks := undL (srtV vs) r) (lq_ask (ev_var rfl) (ev_var rfl) (b.mono e17) O.srtOk O.srtLen hr') fun l H8 nl e8 h8 => ?_
    have ul := und_len O.srtOk hr'
    refine q_app (l := l) (xs := (undL (srtV vs) r).map V.str) h8 (ev_var rfl) ev_c (by rw [List.length_map]; omega) fun H9 e9 => ?_
    have eM : Ex H (upd H9 l (.lst ((undL (srtV vs) r).map V.str ++ [V.str "h"]))) := (e17.trans (e8.trans e9)).mut (fresh_back e17 nl)
    exact s_ret (ev_andV (a := true) (b := true) (ev_is (ev_eqQ encC (eq_call (ea_cons (ev_var rfl) (ea_cons (ev_var rfl) ea_nil)) (fb.mono eM)) (eq_call (ea_cons (ev_var rfl) (ea_cons (ev_var rfl) ea_nil)) (gb.mono eM)) hU hU) (by simp)) fun _ => ev_isiLq (lq_ask (ev_var rfl) (ev_var rfl) (b.mono eM) O.srtOk O.srtLen hr')) fun H10 e10 => k H10 (eM.trans e10)
end
end K32
end
section
set_option maxHeartbeats 8000000
namespace K32
open PySem PyProof.Rows L2 Evl G OW BK TD
/-! ### what the law asks at the end -/
theorem cut_takeG (xs : List V) (k : Nat) : cutV xs none (some (k : Int)) = xs.take k := by
  unfold cutV
  rw [HT.sIx_none, HT.sIx_nat]
  simp
theorem fit_of {xs zs : List Rw} {ys ws : List Vow} (hx : ∀ x ∈ zs, rwOk x) (hy : ∀ y ∈ ws, vwOk y) (n : zs.length ≤ 24) (m : ws.length ≤ 12) : Fit zs ws := ⟨hx, hy, by omega, by omega, Nat.le_trans (srt_le fun x h => h) n, Nat.le_trans (srt_le fun x h => h) m⟩
theorem named_same {xs : List Rw} {ys : List Vow} : nrm (named (srtR xs) (srtV ys)) = nrm (named xs ys) := nrm_congr fun k => by
  unfold named
  simp only [List.mem_append, List.mem_map, List.mem_filterMap, mem_srt]
theorem nrm_filter {xs ys : List Str} (p : Str → Bool) (h : ∀ k, k ∈ ys ↔ k ∈ xs ∧ p k = true) : nrm ys = (nrm xs).filter p := by
  refine sorted_same _ _ (sorted_pw _ (nrm_is ys).1) ((sorted_pw _ (nrm_is xs).1).filter p) ((List.perm_ext_iff_of_nodup (nrm_is ys).2.1 (List.Pairwise.filter p (nrm_is xs).2.1)).mpr fun k => ?_)
  rw [mem_nrm, h, List.mem_filter, mem_nrm]
theorem tornB_same {vs ws : List Vow} (h : ∀ v, v ∈ vs ↔ v ∈ ws) (r : Str) : tornB vs r = tornB ws r := by
  unfold tornB
  rw [lowV_same h, highV_same h]
theorem pairs_same {vs ws : List Vow} (h : ∀ v, v ∈ vs ↔ v ∈ ws) (A : List Str) : prsL (ovrL vs) (fun r x => !decide (x = r)) A = prsL (ovrL ws) (fun r x => !decide (x = r)) A := by
  have : ovrL vs = ovrL ws := funext fun r => ovrL_same h r
  rw [this]
/-- rules that no promise names have nothing above them -/
theorem ovr_alone {vs : List Vow} (ok : ∀ v ∈ vs, vwOk v) {r : Str} (hr : r ∈ ruleL) (h : r ∉ named [] vs) : ∀ x ∈ ovrL vs r, x = r := fun x hx => by
  obtain ⟨m, hm⟩ := (mem_rchL (fitO ok hr)).mp hx
  cases m with
  | zero => exact List.mem_singleton.mp hm
  | succ m =>
    exfalso
    have last : ∀ {m : Nat} {x : Str}, Rch (bk (eds vs)) [r] (m + 1) x → ∃ y, (r, y) ∈ eds vs := by
      intro m
      induction m with
      | zero =>
        rintro x ⟨y, hy, k⟩
        obtain ⟨⟨a, c⟩, hp, e⟩ := List.mem_map.mp hy
        cases e
        exact ⟨c, by rw [← List.mem_singleton.mp k]; exact hp⟩
      | succ m ih =>
        rintro x ⟨y, hy, k⟩
        exact ih k
    obtain ⟨y, hy⟩ := last hm
    obtain ⟨v, hv, e⟩ := List.mem_filterMap.mp hy
    cases v with
    | lead a lo hi => cases e
    | quick a c =>
      cases e
      refine h ?_
      unfold named
      exact List.mem_append.mpr (.inl (List.mem_append.mpr (.inr (List.mem_map.mpr ⟨_, hv, rfl⟩))))
theorem pairs_cut {vs : List Vow} (ok : ∀ v ∈ vs, vwOk v) (p : Str → Bool) (hp : ∀ r, p r = false → r ∉ named [] vs) : ∀ {A : List Str}, (∀ r ∈ A, r ∈ ruleL) → prsL (ovrL vs) (fun r x => !decide (x = r)) (A.filter p) = prsL (ovrL vs) (fun r x => !decide (x = r)) A
  | [], _ => rfl
  | r :: A, hA => by
    have ih := pairs_cut ok p hp (A := A) fun x hx => hA x (List.mem_cons_of_mem _ hx)
    rw [List.filter_cons]
    cases h : p r with
    | true =>
      rw [if_pos rfl]
      unfold prsL at ih ⊢
      rw [List.flatMap_cons, List.flatMap_cons, ih]
    | false =>
      rw [if_neg Bool.false_ne_true, ih]
      unfold prsL
      rw [List.flatMap_cons]
      have : (ovrL vs r).filter (fun x => !decide (x = r)) = [] := List.filter_eq_nil_iff.mpr fun x hx => by
        rw [ovr_alone ok (hA r List.mem_cons_self) (hp r h) x hx]
        simp
      rw [this]; rfl
theorem encE : EncOk edD (fun p => p.1 ∈ ruleL ∧ p.2 ∈ ruleL) where
  eqv a b := by
    obtain ⟨a1, a2⟩ := a
    obtain ⟨b1, b2⟩ := b
    simp only [edD, PyData.eqv, PyData.eqvAll, Bool.and_true]
    rw [Bool.eq_iff_iff]
    simp
  lay a h := by
    have h1 := letter_ok a.1 h.1
    have h2 := letter_ok a.2 h.2
    simp only [edD, PyData.canLay0, PyData.canLayAll0, Bool.and_true, Bool.and_eq_true] at h1 h2 ⊢
    exact ⟨h1, h2⟩
  dep a := by simp [edD, PyData.depth, PyData.depthAll]
section
variable {P : Program} {w : World} {K : PySem.W.Frag} {mg : Str → Option Value} {base : Heap} {C : Addr} {σ : L2.St} {H : Hp} {te tl ta tb : TE} {tlo thi : TO} {tk : TA} {D : Ends} {tz : TS} {i j : Nat} {E : XK} {Q : VK} {p s : Addr} {rs : List Rw} {vs : List Vow} {sp : Sp} {ds : List PyData}
theorem bk_k (h : EvB C te σ H rs vs) (k : ∀ x H2, H x = none → Ex H H2 → BkAt H2 C x rs vs → Q (.ref x) H2) : te σ H Q := h H (Ex.refl H) Q k
theorem sl_k {r : V → Option Int → Option Int → Hp → VK → Prop} (h : te σ H fun x H1 => tlo σ H1 fun l H2 => thi σ H2 fun u H3 => r x l u H3 Q) : tSl r te tlo thi σ H Q := h
theorem part_k {QO : Option Int → Hp → Prop} (h : te σ H fun x H1 => ∃ i, x = .int i ∧ QO (some i) H1) : tPart te σ H QO := h
theorem nopart_k {QO : Option Int → Hp → Prop} (h : QO none H) : tNoPart σ H QO := h
theorem et_sameS {α : Type} [DecidableEq α] {enc : α → PyData} {ok : α → Prop} (O : EncOk enc ok) {xs : List α} (ha : EvSl ta σ H (xs.map enc)) (hb : EvSl tb σ H (xs.map enc)) (kx : ∀ x ∈ xs, ok x) : EvT (tTest (tOp (rNeD K) ta tb)) σ H false := et_is (et_test (ev_neLs O ha (fun H1 e1 H2 e2 => hb H2 (e1.trans e2)) kx kx)) (by simp)
theorem lq_callB (h : EvB C tb σ H rs vs) (k : ∀ x H2, Ex H H2 → BkAt H2 C x rs vs → SpQs sp ([.ref x] ++ []) H2 ds) : EvLq (tCall sp [] E (tCons tb tNil)) σ H ds := fun H1 e Q q =>
  call_k (ac_k (h H1 e _ fun x H2 nx e2 b2 => ac_nil (k x H2 (e.trans e2) b2 H2 (Ex.refl _) Q (fun a us H3 na e3 h3 d3 => q a us H3 (fresh_back e2 na) (e2.trans e3) h3 d3) E)))
theorem lq_callN (h : EvA tk σ H [.ref s]) (hs : SpQs sp ([.ref s] ++ []) H ds) : EvLq (tCallN0 1 sp (fun vs zs => vs ++ zs) E tk) σ H ds := fun H1 e Q q => h H1 e _ fun H2 e2 => ⟨rfl, hs H2 (e.trans e2) Q (fun a us H3 na e3 h3 d3 => q a us H3 (fresh_back e2 na) (e2.trans e3) h3 d3) E⟩
theorem et_gt {v w : V} (hv : v = .non ∨ ∃ i, v = .int i) (hw : w = .non ∨ ∃ i, w = .int i) (h1 : Ev ta σ H v) (h2 : Ev tb σ H w) :
    EvT (tAnd (tTest (tOp (fun x y H Q => y = V.non ∧ Q (V.bl (!decide (x = V.non))) H) ta (tC .non))) (tAnd (tTest (tOp (fun x y H Q => y = V.non ∧ Q (V.bl (!decide (x = V.non))) H) tb (tC .non))) (tTest (tOp (rI0 fun i j => .bl (decide (i > j))) ta tb)))) σ H (gtV v w) := by
  rcases hv with rfl | ⟨i, rfl⟩
  · exact et_and (a := false) (b := false) (et_is (et_test (ev_notN h1)) rfl) fun q => nomatch q
  · rcases hw with rfl | ⟨j, rfl⟩
    · exact et_and (a := true) (b := false) (et_is (et_test (ev_notN h1)) rfl) fun _ => et_and (a := false) (b := false) (et_is (et_test (ev_notN h2)) rfl) fun q => nomatch q
    · exact et_and (a := true) (b := decide (i > j)) (et_is (et_test (ev_notN h1)) rfl) fun _ => et_and (a := true) (b := decide (i > j)) (et_is (et_test (ev_notN h2)) rfl) fun _ => et_test (ev_op h1 h2 rv_I0)
theorem spq_torn {x : Addr} (b : BkAt H C x rs (srtV vs)) (O : Oath vs) (hr : ∀ r ∈ rs, rwOk r) (nr : rs.length ≤ 24) : SpQs (sp_torn C) ([.ref x] ++ []) H (((nrm (named rs (srtV vs))).filter (tornB vs)).map PyData.str) := fun H1 e Q q E => ⟨x, rs, srtV vs, rfl, b.mono e, hr, O.srtOk, nr, O.srtLen, by
  rw [show tornB (srtV vs) = tornB vs from funext fun r => tornB_same (fun v => mem_srtV v) r]
  exact q⟩
theorem spq_pairs {x : Addr} (b : BkAt H C x rs (srtV vs)) (O : Oath vs) (hr : ∀ r ∈ rs, rwOk r) (nr : rs.length ≤ 24) : SpQs (sp_pairs C) ([.ref x] ++ []) H ((prsL (ovrL vs) (fun r x => !decide (x = r)) (nrm (named rs (srtV vs)))).map edD) := fun H1 e Q q E => ⟨x, rs, srtV vs, rfl, b.mono e, hr, O.srtOk, nr, O.srtLen, by
  unfold pairsQ
  rw [pairs_same (fun v => mem_srtV v)]
  exact q⟩
end
end K32
end
section
set_option maxHeartbeats 8000000
namespace K32
open PySem PyProof.Rows L2 Evl G OW BK TD
def sp_law (K : PySem.W.Frag) : Sp := fun vs H Q _ => ∃ (a : Addr) (ns : List Int), vs = [.ref a] ∧ SqL K H a (ns.map V.int) ∧ ns.length ≤ 63 ∧ RetV (.bl true) H Q
def sp_right : Sp := fun vs H Q _ => ∃ (p : Addr), vs = [.ref p] ∧ PotAt H p ∧ ∀ H2, Rg p H H2 → Q (.bl true) H2
theorem dq_rev {H : Hp} : ∀ {us : List V} {ds : List PyData}, DqAll H us ds → DqAll H us.reverse ds.reverse
  | [], [], _ => .nil
  | [], _ :: _, h => by cases h
  | _ :: _, [], h => by cases h
  | u :: us, d :: ds, h => by
    cases h with
    | cons h1 h2 =>
      rw [List.reverse_cons, List.reverse_cons]
      exact (dq_rev h2).app (.cons h1 .nil)
theorem g_ok : ("g" : Str) ∈ ruleL ∧ ("h" : Str) ∈ ruleL ∧ ("a" : Str) ∈ ruleL := by decide +kernel
abbrev KbB (K : PySem.W.Frag) (fd : FuncData) : Prop := KBn K fd ["book"] 0 ["book"] (fun us ws => us ++ ws) (fun vs zs => vs ++ zs)
section
variable {P : Program} {w : World} {K : PySem.W.Frag} {mg : Str → Option Value} {base : Heap} {C : Addr} {σ : L2.St} {H' : Hp} {i j : Nat} {E : XK} {Q : VK} {p s : Addr} {ks : List Str}
theorem pickG (hp : PotAt H' p) (hv : σ[i]? = some (some (.ref p))) (hs : σ[j]? = some (some (.ref s))) (hl : wo H' p s = some (.lst (ks.map V.str))) (h1 : ks.length ≤ 8) (k : ∀ x H2, x ∈ ks ++ (["g"] : List Str) → Rg p H' H2 → Q (.str x) H2) :
    tCall (sp_pick K) [] E (tCons (tVar i) (tCons (tOp rCat (tVar j) (tLst (tCons (tC (.str "g")) tNil))) tNil)) σ H' Q := ⟨.ref p, hv, (lq_catS (ds := ks.map PyData.str) (es := [.str "g"]) (esl_ref (ev_var hs) (wo_ex _ _ hl) (of_strs ks)) (fun H1 e1 => esl_lq (lq_lst (aq_cons (eq_of ev_c fun _ _ => .str _) aq_nil) (by show 1 ≤ 100000; decide))) (by rw [List.length_map, List.length_singleton]; omega)) H' (Ex.refl _) _ fun l us H1 nl e1 h1' d1 => by
      have d1 : DqAll H1 us ((ks ++ (["g"] : List Str)).map PyData.str) := by rw [List.map_append]; exact d1
      obtain rfl := strs_of d1
      have ne : l ≠ p := fun z => by obtain ⟨o, ho⟩ := hp.some; rw [z, ho] at nl; cases nl
      refine ⟨p, l, _, rfl, hp.mono e1, sq_of (by rw [wo_ne ne]; exact h1'), by simp, by rw [List.length_map, List.length_append, List.length_singleton]; omega, fun m v H2 hm e2 h2 => ?_⟩
      rw [List.getElem?_map] at hm
      obtain ⟨x, hx, rfl⟩ := Option.map_eq_some_iff.mp hm
      exact k x H2 (List.mem_of_getElem? hx) ⟨(wo_mono e1).trans e2, h2⟩⟩
theorem ok_right {f f1 f2 f3 f4 f5 f6 f7 f8 f9 f0 fi : Addr} {fd fd1 fd2 fd3 fd4 fd5 fd6 fd7 fd8 fd9 fd0 fdi : FuncData} (F : Fun K "_law_right" "_law_right" s__law_right f fd) (T : Txt P w K mg C) (mkI : Mk K C fi) (m_init : Ini P w K mg base C fi fdi)
    (c__law_draw : Cal P w K mg base "_law_draw" f1 fd1 ["_law_pot_here", "_law_size"] 1 sp_draw) (c__law_pick : Cal P w K mg base "_law_pick" f2 fd2 ["_law_pot_here", "_law_some"] 2 (sp_pick K)) (c__law_oaths : Cal P w K mg base "_law_oaths" f3 fd3 ["_law_pot_here", "_law_some"] 3 sp_oaths) (c__law_rule_right : Cal P w K mg base "_law_rule_right" f4 fd4 ["_law_shelf", "_law_vows", "_law_who"] 7 (sp_rright C)) (c__law_named : Cal P w K mg base "_law_named" f5 fd5 ["_law_lines", "_law_vows"] 2 sp_named)
    (c__law_low : Cal P w K mg base "_law_low" f6 fd6 ["_law_vows", "_law_who"] 3 sp_llow) (c__law_high : Cal P w K mg base "_law_high" f7 fd7 ["_law_vows", "_law_who"] 3 sp_lhigh) (c__law_over : Cal P w K mg base "_law_over" f8 fd8 ["_law_vows", "_law_who"] 2 sp_lover) (c_torn : Cal P w K mg base "torn" f9 fd9 ["book"] 7 (sp_torn C)) (c_quick_pairs : Cal P w K mg base "quick_pairs" f0 fd0 ["book"] 5 (sp_pairs C)) (kb_torn_book : KbB K fd9) (kb_quick_pairs_book : KbB K fd0) :
    FnG P w K mg base CX0 8 f fd ["_law_pot_here"] sp_right := by
  refine okG F sc__law_right (fun vs H Q E h => ?_) (fun cdv A outer st H vs Q E hg hr h => ?_)
  · obtain ⟨p, rfl, _⟩ := h
    rfl
  · obtain ⟨p, rfl, hp, k⟩ := h
    refine ⟨_, (pss_cons (ps_set (i := 1) sc__law_right.nd rfl (Or.inl rfl) (pe_slice (slK (K := K) rfl) (pe_lst (pa_cons pe_str (pa_cons pe_str (pa_cons pe_str (pa_cons pe_str (pa_cons pe_str (pa_cons pe_str pa_nil))))))) po_none (po_some (pe_op op_add pe_int (pe_call c__law_draw.ok (hr.mono (by decide)) (by rfl) c__law_draw.mgx c__law_draw.kp c__law_draw.bd .nil pass0 (pa_cons (pv 0) (pa_cons pe_int pa_nil))))))) (pss_cons (ps_set (i := 2) sc__law_right.nd rfl (Or.inr rfl) (pe_call c__law_oaths.ok (hr.mono (by decide)) (by rfl) c__law_oaths.mgx c__law_oaths.kp c__law_oaths.bd .nil pass0 (pa_cons (pv 0) (pa_cons (pv 1) pa_nil)))) (pss_cons (ps_set (i := 3) sc__law_right.nd rfl (Or.inl rfl) (pe_slice (slK (K := K) rfl) (pe_lst (pa_cons (pe_tup (pa_cons pe_str (pa_cons pe_int (pa_cons (pe_call c__law_draw.ok (hr.mono (by decide)) (by rfl) c__law_draw.mgx c__law_draw.kp c__law_draw.bd .nil pass0 (pa_cons (pv 0) (pa_cons pe_int pa_nil))) pa_nil)))) (pa_cons (pe_tup (pa_cons (pe_call c__law_pick.ok (hr.mono (by decide)) (by rfl) c__law_pick.mgx c__law_pick.kp c__law_pick.bd .nil pass0 (pa_cons (pv 0) (pa_cons (pe_op op_cat (pv 1) (pe_lst (pa_cons pe_str pa_nil))) pa_nil))) (pa_cons pe_int (pa_cons pe_int pa_nil)))) pa_nil))) po_none (po_some (pe_call c__law_draw.ok (hr.mono (by decide)) (by rfl) c__law_draw.mgx c__law_draw.kp c__law_draw.bd .nil pass0 (pa_cons (pv 0) (pa_cons pe_int pa_nil)))))) (pss_cons (ps_set (i := 4) sc__law_right.nd rfl (Or.inr rfl) (pe_make mkI m_init.ok (hr.mono (by decide)) (by rfl) T.mg_Book m_init.bd .nil pass0 (pa_cons (pv 3) (pa_cons (pv 2) pa_nil)))) (pss_cons (ps_if (pt_not (pt_val (pe_callB (allL (K := K) rfl rfl) (by rfl) T.b_all (by decide +kernel) (pa_cons (pe_lc (own := [("_law_who", 7)]) (g := (gName 7)) (by rfl) sc__law_right.nd (piL (K := K) rfl (pe_op op_cat (pv 1) (pe_lst (pa_cons pe_str (pa_cons pe_str pa_nil))))) (blkOk_by (own := [("_law_who", 7)]) (N := ["_law_pot_here", "_law_some", "_law_vows", "_law_lines", "_law_shelf", "_law_due", "_law_pairs", "_law_who", "_law_least", "_law_most", "_law_far"]) (sc := defScope s__law_right) (by decide +kernel)) (fun _ _ _ _ _ => (pg_name (i := 7) sc__law_right.nd rfl (Or.inl rfl))) (fun _ _ _ _ _ => pts_nil) (fun _ _ _ _ _ => (pe_call c__law_rule_right.ok (hr.mono (by decide)) (by rfl) c__law_rule_right.mgx c__law_rule_right.kp c__law_rule_right.bd .nil pass0 (pa_cons (pv 4) (pa_cons (pv 2) (pa_cons (pv 7) pa_nil)))))) pa_nil)))) (pss_one (ps_ret pe_bl)) pss_nil) (pss_cons (ps_par (i := 5) (j := 6) (by rfl) sc__law_right.nd rfl rfl (by decide) rfl rfl (pa_cons (pe_lst pa_nil) (pa_cons (pe_lst pa_nil) pa_nil)) (by rfl)) (pss_cons (ps_for PassesOwn.never rfl (piL (K := K) rfl (pe_call c__law_named.ok (hr.mono (by decide)) (by rfl) c__law_named.mgx c__law_named.kp c__law_named.bd .nil pass0 (pa_cons (pv 3) (pa_cons (pv 2) pa_nil)))) (pg_name (i := 7) sc__law_right.nd rfl (Or.inr rfl)) (pss_cons (ps_par (i := 8) (j := 9) (by rfl) sc__law_right.nd rfl rfl (by decide) rfl rfl (pa_cons (pe_call c__law_low.ok (hr.mono (by decide)) (by rfl) c__law_low.mgx c__law_low.kp c__law_low.bd .nil pass0 (pa_cons (pv 2) (pa_cons (pv 7) pa_nil))) (pa_cons (pe_call c__law_high.ok (hr.mono (by decide)) (by rfl) c__law_high.mgx c__law_high.kp c__law_high.bd .nil pass0 (pa_cons (pv 2) (pa_cons (pv 7) pa_nil))) pa_nil)) (by rfl)) (pss_cons (ps_set (i := 5) sc__law_right.nd rfl (Or.inl rfl) (pe_op op_cat (pv 5) (pe_ifExp (PW.pt (pw_and (pt_cmpR op_notN (pv 8) pe_non (nomark _)) (pw_and (pt_cmpR op_notN (pv 9) pe_non (nomark _)) (pw_and1 (pt_cmpR op_gt (pv 8) (pv 9) (nomark _)))))) (pe_lst (pa_cons (pv 7) pa_nil)) (pe_lst pa_nil)))) (pss_one (ps_set (i := 6) sc__law_right.nd rfl (Or.inl rfl) (pe_op op_cat (pv 6) (pe_lc (own := [("_law_far", 10)]) (g := (gName 10)) (by rfl) sc__law_right.nd (piL (K := K) rfl (pe_call c__law_over.ok (hr.mono (by decide)) (by rfl) c__law_over.mgx c__law_over.kp c__law_over.bd .nil pass0 (pa_cons (pv 2) (pa_cons (pv 7) pa_nil)))) (blkOk_by (own := [("_law_far", 10)]) (N := ["_law_pot_here", "_law_some", "_law_vows", "_law_lines", "_law_shelf", "_law_due", "_law_pairs", "_law_who", "_law_least", "_law_most", "_law_far"]) (sc := defScope s__law_right) (by decide +kernel)) (fun _ _ _ _ _ => (pg_name (i := 10) sc__law_right.nd rfl (Or.inl rfl))) (fun _ _ _ _ _ => (pts_one (pt_cmpR op_ne (pv 10) (pv 7) (nomark _)))) (fun _ _ _ _ _ => (pe_tup (pa_cons (pv 7) (pa_cons (pv 10) pa_nil))))))))))) (pss_cons (ps_if (PW.pt (pw_or (pt_cmpR (neD (K := K) rfl hr.units) (pe_call c_torn.ok (hr.mono (by decide)) (by rfl) c_torn.mgx c_torn.kp c_torn.bd .nil pass0 (pa_cons (pv 4) pa_nil)) (pv 5) (nomark _)) (pw_or (pt_cmpR (neD (K := K) rfl hr.units) (pe_callN0 c_torn.ok (hr.mono (by decide)) (by rfl) c_torn.mgx c_torn.kp kb_torn_book pass0 (pk_cons (pv 4) pk_nil)) (pv 5) (nomark _)) (pw_or (pt_cmpR (neD (K := K) rfl hr.units) (pe_callN0 c_quick_pairs.ok (hr.mono (by decide)) (by rfl) c_quick_pairs.mgx c_quick_pairs.kp kb_quick_pairs_book pass0 (pk_cons (pv 4) pk_nil)) (pv 6) (nomark _)) (pw_or1 (pt_not (pt_val (pe_callB call_isi (by rfl) T.b_isinstance (by decide +kernel) (pa_cons (pe_call c_torn.ok (hr.mono (by decide)) (by rfl) c_torn.mgx c_torn.kp c_torn.bd .nil pass0 (pa_cons (pv 4) pa_nil)) (pa_cons (pe_bltn (v := .ty "list") (u := .type "list") (by rfl) T.b_list (by decide +kernel) rfl) pa_nil)))))))))) (pss_one (ps_ret pe_bl)) pss_nil) (pss_one (ps_ret (pe_and (pe_cmpR (eqD (K := K) rfl hr.units) (pe_call c_torn.ok (hr.mono (by decide)) (by rfl) c_torn.mgx c_torn.kp c_torn.bd .nil pass0 (pa_cons (pe_make mkI m_init.ok (hr.mono (by decide)) (by rfl) T.mg_Book m_init.bd .nil pass0 (pa_cons (pe_lst pa_nil) (pa_cons (pv 2) pa_nil))) pa_nil)) (pe_lc (own := [("_law_who", 7)]) (g := (gName 7)) (by rfl) sc__law_right.nd (piL (K := K) rfl (pv 5)) (blkOk_by (own := [("_law_who", 7)]) (N := ["_law_pot_here", "_law_some", "_law_vows", "_law_lines", "_law_shelf", "_law_due", "_law_pairs", "_law_who", "_law_least", "_law_most", "_law_far"]) (sc := defScope s__law_right) (by decide +kernel)) (fun _ _ _ _ _ => (pg_name (i := 7) sc__law_right.nd rfl (Or.inl rfl))) (fun _ _ _ _ _ => (pts_one (pt_cmpR (inS (K := K) rfl) (pv 7) (pe_call c__law_named.ok (hr.mono (by decide)) (by rfl) c__law_named.mgx c__law_named.kp c__law_named.bd .nil pass0 (pa_cons (pe_lst pa_nil) (pa_cons (pv 2) pa_nil))) (by rfl)))) (fun _ _ _ _ _ => (pv 7))) (nomark _)) (pe_one (pe_cmpR (eqD (K := K) rfl hr.units) (pe_call c_quick_pairs.ok (hr.mono (by decide)) (by rfl) c_quick_pairs.mgx c_quick_pairs.kp c_quick_pairs.bd .nil pass0 (pa_cons (pe_make mkI m_init.ok (hr.mono (by decide)) (by rfl) T.mg_Book m_init.bd .nil pass0 (pa_cons (pe_lst pa_nil) (pa_cons (pe_revL (pv 2)) pa_nil))) pa_nil)) (pv 6) (nomark _)))))))))))))), ?_⟩
    -- the rules
    refine asg_k (sl_k (el_lst (ea_cons ev_c (ea_cons ev_c (ea_cons ev_c (ea_cons ev_c (ea_cons ev_c (ea_cons ev_c ea_nil)))))) (by show 6 ≤ 100000; decide) H (Ex.refl _) _ fun l0 H1 n0 e1 h1 => nopart_k (part_k (op_k (v_k (v := .int 2) ev_c fun H2 e2 => dr_k (hp.mono (e1.trans e2)) rfl (by decide) (by decide) fun d H3 d0 d1 r3 => ⟨2, d, rfl, rfl, 2 + d, rfl, ?_⟩)))))
    obtain ⟨n, rfl⟩ : ∃ n : Nat, d = (n : Int) := ⟨d.toNat, by omega⟩
    rw [show (2 : Int) + (n : Int) = ((2 + n : Nat) : Int) by omega]
    have l0p : l0 ≠ p := fun z => by obtain ⟨o, ho⟩ := hp.some; rw [z, ho] at n0; cases n0
    refine ⟨l0, R6.map V.str, rfl, sq_of (r3.x l0 _ (by rw [wo_ne l0p]; exact e2 _ _ h1)), fun l1 nl1 => ?_⟩
    rw [cut_takeG, ← List.map_take]
    have ks6 : ∀ x ∈ R6.take (2 + n), x ∈ R6 := fun x hx => List.mem_of_mem_take hx
    have kl : (R6.take (2 + n)).length = 2 + n := by rw [List.length_take]; show min (2 + n) 6 = _; omega
    have rA : Rg p H (upd H3 l1 (.lst ((R6.take (2 + n)).map V.str))) := (((Rg.rfl hp).mono (e1.trans e2)).tr r3).mono (Ex.new nl1)
    have l1p : l1 ≠ p := rg_ne r3.hp nl1
    have sA : wo (upd H3 l1 (.lst ((R6.take (2 + n)).map V.str))) p l1 = some (.lst ((R6.take (2 + n)).map V.str)) := by rw [wo_ne l1p]; exact upd_same
    generalize R6.take (2 + n) = ks at ks6 kl rA sA ⊢
    generalize upd H3 l1 (.lst (ks.map V.str)) = HA at rA sA ⊢
    -- the promises
    refine asg_k ⟨.ref p, rfl, .ref l1, rfl, p, l1, ks, rfl, rA.hp, sA, by omega, by omega, ks6, fun q ys HB rb nq lq O => ?_⟩
    have rB := rA.tr rb
    have sB : wo HB p l1 = some (.lst (ks.map V.str)) := wo_sub rb.x _ _ sA
    show tSeq _ _ _ [some (V.ref p), some (V.ref l1), some (V.ref q), none, none, none, none, none, none, none, none] HB
    -- the rows
    refine asg_k (sl_k (lst_k (ac_k (tupN_k (ac_v ev_c fun H4 e4 => ac_v ev_c fun H5 e5 => ac_k (dr_k (rB.hp.mono (e4.trans e5)) rfl (by decide) (by decide) fun dd H6 d60 d61 r6 => ac_nil ⟨sz_of (show 3 ≤ 100000 by decide), fun t1 nt1 => ac_k (tupN_k (ac_k (pickG (ks := ks) (s := l1) (r6.hp.mono (Ex.new nt1)) rfl rfl (wo_sub ((r6.mono (Ex.new nt1)).x) _ _ (wo_mono (e4.trans e5) _ _ sB)) (by omega) fun x H7 hx r7 => ac_v ev_c fun H8 e8 => ac_v ev_c fun H9 e9 => ac_nil ⟨sz_of (show 3 ≤ 100000 by decide), fun t2 nt2 => ac_nil ⟨sz_of (show 2 ≤ 100000 by decide), fun l2 nl2 => nopart_k (part_k (dr_k ((r7.hp.mono (e8.trans e9)).mono ((Ex.new nt2).trans (Ex.new nl2))) rfl (by decide) (by decide) fun d3 H10 d30 d31 r10 => ⟨d3, rfl, ?_⟩))⟩⟩)))⟩))))))
    obtain ⟨m, rfl⟩ : ∃ n : Nat, d3 = (n : Int) := ⟨d3.toNat, by omega⟩
    have xr : x ∈ ruleL := by
      rcases List.mem_append.mp hx with h | h
      · exact six_rule x (ks6 x h)
      · rw [List.mem_singleton.mp h]; exact g_ok.1
    have r7' := (r7.mono (e8.trans e9)).mono ((Ex.new (o := .tup [V.str x, .int 3, .int 5]) nt2).trans (Ex.new (o := .lst [V.ref t1, .ref t2]) nl2))
    have pA := r6.hp.mono (Ex.new (o := .tup [V.str "a", .int 0, .int dd]) nt1)
    have t1' := r10.tup r7'.hp t1 [V.str "a", .int 0, .int dd] (r7'.tup pA _ _ upd_same)
    have t2' := r10.tup r7'.hp t2 [V.str x, .int 3, .int 5] ((Ex.new nl2) _ _ upd_same)
    have l2' : H10 l2 = some (.lst [V.ref t1, .ref t2]) := r10.x l2 _ (by rw [wo_ne (rg_ne ((r7.hp.mono (e8.trans e9)).mono (Ex.new nt2)) nl2)]; exact upd_same)
    have rC0 := (((rB.mono (e4.trans e5)).tr r6).mono (Ex.new (o := .tup [V.str "a", .int 0, .int dd]) nt1)).tr (r7'.tr r10)
    have rBC : Rg p HB H10 := ((((Rg.rfl rB.hp).mono (e4.trans e5)).tr r6).mono (Ex.new (o := .tup [V.str "a", .int 0, .int dd]) nt1)).tr (r7'.tr r10)
    refine ⟨l2, [V.ref t1, .ref t2], rfl, sq_of l2', fun l3 nl3 => ?_⟩
    rw [cut_takeG]
    let two : List Rw := [("a", 0, dd), (x, 3, 5)]
    have dtwo : DqAll H10 [V.ref t1, .ref t2] (two.map rwD) := .cons (of_rw t1') (.cons (of_rw t2') .nil)
    have eN := Ex.new (H := H10) (o := .lst (List.take m [V.ref t1, .ref t2])) nl3
    have rC := rC0.mono eN
    have rBD := rBC.mono eN
    have lsl : LsAt (upd H10 l3 (.lst (List.take m [V.ref t1, .ref t2]))) l3 rwD (two.take m) := ⟨_, upd_same, by rw [List.map_take]; exact (dtwo.take m).mono eN⟩
    have lsv := lq.rg tuplV rB.hp rBD
    have sC : wo (upd H10 l3 (.lst (List.take m [V.ref t1, .ref t2]))) p l1 = some (.lst (ks.map V.str)) := wo_sub rBD.x _ _ sB
    have okr : ∀ r ∈ two.take m, rwOk r := fun r hr => by
      rcases List.mem_cons.mp (List.mem_of_mem_take hr) with rfl | h
      · exact g_ok.2.2
      · rw [List.mem_singleton.mp h]; exact xr
    have nr : (two.take m).length ≤ 2 := by rw [List.length_take]; exact Nat.min_le_right _ _
    generalize two.take m = lines at lsl okr nr
    generalize upd H10 l3 (.lst (List.take m [V.ref t1, .ref t2])) = HC at rC lsl lsv sC ⊢
    show tSeq _ _ _ [some (V.ref p), some (V.ref l1), some (V.ref q), some (V.ref l3), none, none, none, none, none, none, none] HC
    -- the book
    have ok := O.ok
    have len := O.len
    have fit : Fit lines ys := fit_of (xs := lines) (ys := ys) okr ok (by omega) (by omega)
    refine asg_k (bk_k (eb_make (esq (lsl.esl (ev_var rfl))) (fun H1 e1 => esq ((lsv.mono e1).esl (ev_var rfl))) fit) fun sh HD nsh eD bsh => ?_)
    obtain ⟨uv, v1, v2⟩ := lsv.mono eD
    obtain ⟨ul, u1, u2⟩ := lsl.mono eD
    have rD := rC.mono eD
    have s1 := eD _ _ (wo_ex _ _ sC)
    have okS : ∀ r ∈ srtR lines, rwOk r := fun r h => okr r (mem_srt.mp h)
    have nS : (srtR lines).length ≤ 24 := fit.mr
    refine q_when (b := false) (et_not (a := true) (et_B (ev_is (ev_allB (fun _ => true) (ts := ks ++ (["g", "h"] : List Str)) (el_eq (el_lcQ (fun _ => true) (fun _ => V.bl true) (ds := (ks ++ (["g", "h"] : List Str)).map PyData.str) (lq_eq (lq_catS (es := [.str "g", .str "h"]) (esl_ref (ev_var rfl) s1 (of_strs ks)) (fun H1 e1 => esl_lq (lq_lst (aq_cons (eq_of ev_c fun _ _ => .str _) (aq_cons (eq_of ev_c fun _ _ => .str _) aq_nil)) (by show 2 ≤ 100000; decide))) (by rw [List.length_map]; show ks.length + 2 ≤ 100000; omega)) (by rw [List.map_append]; rfl)) (by rw [List.length_map, List.length_append]; show ks.length + 2 ≤ 40000; omega) (fun _ => rfl) (fun _ _ _ _ _ _ => lc_yes) (fun x t H1 e1 dx ht _ => ?_)) (by rw [filter_yes, List.map_map]; rfl))) (by simp)))) (fun q => nomatch q) fun _ HE eE => ?_
    · obtain ⟨z, hz, rfl⟩ := List.mem_map.mp ht
      cases dx
      have zr : z ∈ ruleL := by
        rcases List.mem_append.mp hz with h | h
        · exact six_rule z (ks6 z h)
        · rcases List.mem_cons.mp h with rfl | h
          · exact g_ok.1
          · rw [List.mem_singleton.mp h]; exact g_ok.2.1
      exact ev_call (ea_cons (ev_var rfl) (ea_cons (ev_var rfl) (ea_cons (ev_var rfl) ea_nil))) fun H2 e2 Q q' E => ⟨sh, q, uv, srtR lines, ys, z, rfl, bsh.mono (e1.trans e2), (e1.trans e2) _ _ v1, v2.mono (e1.trans e2), O, zr, q'⟩
    -- torn rules, pairs
    refine par_k (ac_k (lqk (lq_lst aq_nil (by show 0 ≤ 100000; decide)) fun du us1 HF nF eF hF dF => ac_k (lqk (lq_lst aq_nil (by show 0 ≤ 100000; decide)) fun pa us2 HG nG eG hG dG => ac_nil ⟨_, _, rfl, ?_⟩)))
    have eDG := (eE.trans eF).trans eG
    have ruleA : ∀ r ∈ nrm (named lines ys), r ∈ ruleL := fun r hr => named_ok okr ok r (mem_nrm.mp hr)
    have lenA := rules_len okr ok
    have us1e : us1 = [] := by cases dF; rfl
    refine q_forLq (ds := (nrm (named lines ys)).map PyData.str) (lq_call (ea_cons (ev_var rfl) (ea_cons (ev_var rfl) ea_nil)) (spq_named (eDG _ _ u1) (u2.mono eDG) (eDG _ _ v1) (v2.mono eDG) okr ok (by omega) (by omega))) (fun l zs i σ' H' => ∃ (du pa : Addr) (pas : List V) (x7 x8 x9 x10 : Option V), σ' = [some (V.ref p), some (V.ref l1), some (V.ref q), some (V.ref l3), some (V.ref sh), some (V.ref du), some (V.ref pa), x7, x8, x9, x10] ∧ Ex HD H' ∧ zs = (nrm (named lines ys)).map V.str ∧ H' l = some (.lst zs) ∧ H' du = some (.lst ((((nrm (named lines ys)).take i).filter (tornB ys)).map V.str)) ∧ H' pa = some (.lst pas) ∧ DqAll H' pas ((prsL (ovrL ys) (fun r x => !decide (x = r)) ((nrm (named lines ys)).take i)).map edD))
      (fun l zs H1 nl e1 h1 d1 => ⟨du, pa, us2, _, _, _, _, rfl, eDG.trans e1, strs_of d1, h1, by rw [(eG.trans e1) _ _ hF, us1e]; rfl, e1 _ _ hG, dG.mono e1⟩) (fun l zs i σ' H' hi pv => ?_) (fun l zs i x σ' H' hx pv => ?_) (fun l zs σ' H' hl pv => ?_)
    · obtain ⟨du, pa, pas, x7, x8, x9, x10, rfl, ex, ez, hl, _⟩ := pv
      exact sq_of hl
    · obtain ⟨du, pa, pas, x7, x8, x9, x10, rfl, ex, ez, hl, hdu, hpa, dpa⟩ := pv
      subst ez
      rw [List.getElem?_map] at hx
      obtain ⟨r, hr, rfl⟩ := Option.map_eq_some_iff.mp hx
      have rr := ruleA r (List.mem_of_getElem? hr)
      have tk : (nrm (named lines ys)).take (i + 1) = (nrm (named lines ys)).take i ++ [r] := by rw [List.take_add_one, hr]; rfl
      have ilen : ((nrm (named lines ys)).take i).length ≤ 8 := Nat.le_trans (List.length_take_le' _ _) lenA
      refine par_k (ac_v (ev_lask (ev_var rfl) (ev_var rfl) (ex _ _ v1) (v2.mono ex) ok (by omega) rr) fun H1 e1 => ac_v (ev_lask (ev_var rfl) (ev_var rfl) ((ex.trans e1) _ _ v1) (v2.mono (ex.trans e1)) ok (by omega) rr) fun H2 e2 => ac_nil ⟨_, _, rfl, ?_⟩)
      have e12 := e1.trans e2
      have dl : lowV ys r = .non ∨ ∃ n, lowV ys r = .int n := mx_is _
      have dh : highV ys r = .non ∨ ∃ n, highV ys r = .int n := mn_is _
      refine q_lq (lq_eq (es := (((nrm (named lines ys)).take (i + 1)).filter (tornB ys)).map PyData.str) (lq_catS (es := ([r].filter (tornB ys)).map PyData.str) (esl_ref (ev_var rfl) (e12 _ _ hdu) (of_strs _)) (fun H3 e3 => esl_lq (lq_if (et_gt dl dh (ev_var rfl) (ev_var rfl)) (fun h => ?_) fun h => ?_)) (by rw [List.length_map, List.length_map]; have := List.length_filter_le (tornB ys) ((nrm (named lines ys)).take i); have := List.length_filter_le (tornB ys) [r]; rw [List.length_singleton] at this; omega)) (by rw [tk, List.filter_append, List.map_append])) fun du2 dus2 H3 n3 e3 h3 d3 => ?_
      · have h : tornB ys r = true := h
        rw [List.filter_cons, if_pos h]
        exact lq_lst (aq_cons (eq_of (ev_var rfl) fun _ _ => .str _) aq_nil) (by show 1 ≤ 100000; decide)
      · have h : tornB ys r = false := h
        rw [List.filter_cons, if_neg (by rw [h]; exact Bool.false_ne_true)]
        exact lq_lst aq_nil (by show 0 ≤ 100000; decide)
      have e13 := e12.trans e3
      have bo := ovr_len ok rr
      have bp : (prsL (ovrL ys) (fun r x => !decide (x = r)) ((nrm (named lines ys)).take i)).length ≤ 8 * 8 := by
        unfold prsL
        refine Nat.le_trans (flat_len (k := 8) fun c hc => ?_) (Nat.mul_le_mul_right 8 ilen)
        rw [List.length_map]
        exact Nat.le_trans (List.length_filter_le _ _) (ovr_len ok (ruleA c (List.mem_of_mem_take hc)))
      refine (lq_eq (es := (prsL (ovrL ys) (fun r x => !decide (x = r)) ((nrm (named lines ys)).take (i + 1))).map edD) (lq_catS (esl_ref (ev_var rfl) (e13 _ _ hpa) (dpa.mono e13)) (fun H4 e4 => esl_lq (lq_lc PyData.str (fun x => edD (r, x)) (fun x => !decide (x = r)) (esl_lq (lq_lask (g := fun vs r => (ovrL vs r).map PyData.str) (ev_var rfl) (ev_var rfl) (((ex.trans e13).trans e4) _ _ v1) (v2.mono ((ex.trans e13).trans e4)) ok (by omega) rr)) (by omega) (fun _ => rfl) (fun _ _ => rfl) (fun x u H5 e5 _ dx => ?_) (fun x u H5 e5 _ dx _ => ?_))) (by rw [List.length_map, List.length_map]; have := List.length_filter_le (fun x => !decide (x = r)) (ovrL ys r); omega)) ?_) H3 (Ex.refl _) _ fun pa2 pas2 H4 n4 e4 h4 d4 => ?_
      · cases dx
        exact et_is (et_test (ev_op (ev_var rfl) (ev_var rfl) (rv_ne rfl))) (by simp)
      · cases dx
        exact eq_tup (aq_cons (eq_of (ev_var rfl) fun _ _ => .str _) (aq_cons (eq_of (ev_var rfl) fun _ _ => .str _) aq_nil)) (by show 2 ≤ 100000; decide)
      · rw [tk]
        unfold prsL
        rw [List.flatMap_append, List.map_append, List.flatMap_cons, List.flatMap_nil, List.append_nil, List.map_map]
        rfl
      · refine ⟨du2, pa2, pas2, _, _, _, _, rfl, (ex.trans e13).trans e4, rfl, (e13.trans e4) _ _ hl, ?_, h4, d4⟩
        rw [e4 _ _ h3, strs_of d3]
    · obtain ⟨du, pa, pas, x7, x8, x9, x10, rfl, ex, ez, hl', hdu, hpa, dpa⟩ := pv
      have tkA : (nrm (named lines ys)).take zs.length = nrm (named lines ys) := List.take_of_length_le (by rw [hl, List.length_map]; exact Nat.le_refl _)
      rw [tkA] at hdu dpa
      have nsame : nrm (named (srtR lines) (srtV ys)) = nrm (named lines ys) := named_same
      have dueOk : ∀ x ∈ (nrm (named lines ys)).filter (tornB ys), x ∈ ruleL := fun x hx => ruleA x (List.mem_filter.mp hx).1
      have prOk : ∀ A : List Str, (∀ r ∈ A, r ∈ ruleL) → ∀ e ∈ prsL (ovrL ys) (fun r x => !decide (x = r)) A, e.1 ∈ ruleL ∧ e.2 ∈ ruleL := fun A hA e he => by
        unfold prsL at he
        obtain ⟨r, hr, h⟩ := List.mem_flatMap.mp he
        obtain ⟨x, hx, rfl⟩ := List.mem_map.mp h
        exact ⟨hA r hr, ovr_rule ok (hA r hr) x (List.mem_filter.mp hx).1⟩
      have tT : ∀ {H1 : Hp}, Ex H' H1 → SpQs (sp_torn C) ([.ref sh] ++ []) H1 (((nrm (named lines ys)).filter (tornB ys)).map PyData.str) := fun {H1} e1 => by
        have := spq_torn (bsh.mono (ex.trans e1)) O okS nS
        rw [nsame] at this
        exact this
      have tP : ∀ {H1 : Hp}, Ex H' H1 → SpQs (sp_pairs C) ([.ref sh] ++ []) H1 ((prsL (ovrL ys) (fun r x => !decide (x = r)) (nrm (named lines ys))).map edD) := fun {H1} e1 => by
        have := spq_pairs (bsh.mono (ex.trans e1)) O okS nS
        rw [nsame] at this
        exact this
      refine q_when (b := false) (et_or (a := false) (b := false) (et_sameS encS (esl_lq (lq_call (ea_cons (ev_var rfl) ea_nil) (tT (Ex.refl _)))) (esl_ref (ev_var rfl) hdu (of_strs _)) dueOk) fun _ => et_or (a := false) (b := false) (et_sameS encS (esl_lq (lq_callN (ea_cons (ev_var rfl) ea_nil) (tT (Ex.refl _)))) (esl_ref (ev_var rfl) hdu (of_strs _)) dueOk) fun _ => et_or (a := false) (b := false) (et_sameS encE (esl_lq (lq_callN (ea_cons (ev_var rfl) ea_nil) (tP (Ex.refl _)))) (esl_ref (ev_var rfl) hpa dpa) (prOk _ ruleA)) fun _ => et_not (a := true) (et_B (ev_isiLq (lq_call (ea_cons (ev_var rfl) ea_nil) (tT (Ex.refl _)))))) (fun q => nomatch q) fun _ HZ eZ => ?_
      have exZ := ex.trans eZ
      have fit2 : Fit [] ys := fit_of (xs := []) (ys := ys) (fun _ h => nomatch h) ok (by show 0 ≤ 24; decide) (by omega)
      have okn : ∀ r ∈ srtR [], rwOk r := fun r h => nomatch (mem_srt.mp h)
      have nn : (srtR []).length ≤ 24 := fit2.mr
      have cutA : nrm (named [] ys) = (nrm (named lines ys)).filter fun x => decide (x ∈ nrm (named [] ys)) := nrm_filter _ fun x => by
        rw [decide_eq_true_eq, mem_nrm]
        refine ⟨fun h => ⟨?_, h⟩, fun h => h.2⟩
        unfold named at h ⊢
        simp only [List.map_nil, List.nil_append, List.mem_append] at h ⊢
        rcases h with h | h
        · exact .inl (.inr h)
        · exact .inr h
      have nsame2 : nrm (named (srtR []) (srtV ys)) = nrm (named [] ys) := named_same
      have rev : srtV ys.reverse = srtV ys := srt_same ordV fun v => List.mem_reverse
      have fit3 : Fit [] ys.reverse := fit_of (xs := []) (ys := ys.reverse) (fun _ h => nomatch h) (fun v h => ok v (List.mem_reverse.mp h)) (by show 0 ≤ 24; decide) (by rw [List.length_reverse]; omega)
      refine s_ret (ev_andV (a := true) (b := true) (ev_is (ev_eqLs encS (xs := (nrm (named [] ys)).filter (tornB ys)) (ys := ((nrm (named lines ys)).filter (tornB ys)).filter fun x => decide (x ∈ nrm (named [] ys))) (esl_lq (lq_callB (C := C) (rs := srtR []) (vs := srtV ys) (eb_make (rs := []) (vs := ys) (esq (esl_lq (lq_lst aq_nil (by show 0 ≤ 100000; decide)))) (fun H1 e1 => esq (esl_ref (ev_var rfl) ((exZ.trans e1) _ _ v1) (v2.mono (exZ.trans e1)))) fit2) fun x H1 e1 b1 => ?_))
        (fun H1 e1 => esl_lq (lq_eq (lq_lc PyData.str PyData.str (fun x => decide (x ∈ nrm (named [] ys))) (esl_ref (ev_var rfl) ((eZ.trans e1) _ _ hdu) (of_strs _)) ?_ (fun _ => rfl) (fun _ _ => rfl) (fun x u H2 e2 _ dx => ?_) (fun x u H2 e2 _ dx _ => eq_of (ev_var rfl) fun H3 e3 => dx.mono e3)) rfl)) ?_ ?_) ?_) fun _ => ev_is (ev_eqLs encE (xs := prsL (ovrL ys) (fun r x => !decide (x = r)) (nrm (named [] ys))) (ys := prsL (ovrL ys) (fun r x => !decide (x = r)) (nrm (named lines ys))) (esl_lq (lq_callB (C := C) (rs := srtR []) (vs := srtV ys) (eb_eq (eb_make (rs := []) (vs := ys.reverse) (esq (esl_lq (lq_lst aq_nil (by show 0 ≤ 100000; decide)))) (fun H1 e1 => esq fun H2 e2 Q q' => ?_) fit3) rfl rev) fun x H1 e1 b1 => ?_)) (fun H1 e1 => esl_ref (ev_var rfl) ((eZ.trans e1) _ _ hpa) (dpa.mono (eZ.trans e1))) ?_ (prOk _ ruleA)) ?_) fun HY eY => k HY (rD.mono (exZ.trans eY))
      · have := spq_torn b1 O okn nn
        rw [nsame2] at this
        exact this
      · have := List.length_filter_le (tornB ys) (nrm (named lines ys))
        omega
      · cases dx
        refine et_test (ev_inLq (ev_var rfl) fun H3 e3 Q q' => call_k (ac_k (lqk (lq_lst aq_nil (by show 0 ≤ 100000; decide)) fun l2 us3 H4 n4 e4 h4 d4 => ac_v (ev_var rfl) fun H5 e5 => ac_nil (spq_named (xs := []) (ys := ys) (H := H5) (e5 _ _ h4) (d4.mono e5) ((exZ.trans (e1.trans (e2.trans (e3.trans (e4.trans e5))))) _ _ v1) (v2.mono (exZ.trans (e1.trans (e2.trans (e3.trans (e4.trans e5)))))) (fun _ h => nomatch h) ok (by show 0 ≤ 100; decide) (by omega) H5 (Ex.refl _) Q (fun a us6 H6 n6 e6 h6 d6 => q' a us6 H6 (fresh_back (e4.trans e5) n6) ((e4.trans e5).trans e6) h6 d6) _))))
      · exact fun x hx => ruleA x (by
          have h := (List.mem_filter.mp hx).1
          rw [cutA] at h
          exact (List.mem_filter.mp h).1)
      · exact fun x hx => dueOk x (List.mem_filter.mp hx).1
      · refine congrArg V.bl (decide_eq_true ?_)
        rw [List.filter_filter]
        conv => lhs; rw [cutA]
        rw [List.filter_filter]
        refine List.filter_congr fun x _ => ?_
        rw [Bool.and_comm]
      · refine (ev_var rfl) H2 e2 _ fun H3 e3 => ⟨q, uv, rfl, sq_of ((exZ.trans ((e1.trans e2).trans e3)) _ _ v1), fun lr nlr => q' lr uv.reverse _ (e3.trans (Ex.new nlr)) upd_same ?_⟩
        rw [List.map_reverse]
        exact dq_rev ((v2.mono (exZ.trans ((e1.trans e2).trans e3))).mono (Ex.new nlr))
      · have := spq_pairs b1 O okn nn
        rw [nsame2] at this
        exact this
      · exact prOk _ fun x hx => by
          rw [cutA] at hx
          exact ruleA x (List.mem_filter.mp hx).1
      · refine congrArg V.bl (decide_eq_true ?_)
        rw [cutA]
        exact pairs_cut ok _ (fun r h hr => by
          have := of_decide_eq_false h
          exact this (mem_nrm.mpr hr)) ruleA
end
end K32
end
section
set_option maxHeartbeats 8000000
namespace K32
open PySem L2 Evl G OW BK TD
section
variable {P : Program} {w : World} {K : PySem.W.Frag} {mg : Str → Option Value} {base : Heap} {C : Addr}
theorem ok_law {f f1 f2 : Addr} {fd fd1 fd2 : FuncData} (F : Fun K "law" "law" s_law f fd) (T : Txt P w K mg C) (c__law_pot : Cal P w K mg base "_law_pot" f1 fd1 ["_law_script", "_law_k"] 1 (sp_pot K)) (c__law_right : CalG P w K mg base "_law_right" f2 fd2 ["_law_pot_here"] 8 sp_right) :
    FnG P w K mg base CX0 9 f fd ["_law_script"] (sp_law K) := by
  refine okG F sc_law (fun vs H Q E h => ?_) (fun cdv A outer s H vs Q E hg hr h => ?_)
  · obtain ⟨a, ns, rfl, _⟩ := h
    rfl
  · obtain ⟨a, ns, rfl, hs, hl, k⟩ := h
    have hu := hr.units
    have e0 : (ns.map V.int).length = ns.length := List.length_map ..
    refine ⟨_, (pss_one (ps_ret (pe_callB (allL (K := K) rfl rfl) (by rfl) T.b_all (by decide +kernel) (pa_cons (pe_lc (own := [("_law_k", 1)]) (g := (gName 1)) (by rfl) sc_law.nd (pi_range1 (by rfl) T.b_range (pa_cons (pe_callB (call_max2 rfl) (by rfl) T.b_max (by decide +kernel) (pa_cons pe_int (pa_cons (pe_callB (call_min2 rfl) (by rfl) T.b_min (by decide +kernel) (pa_cons pe_int (pa_cons (pe_callB (lenS (K := K) rfl) (by rfl) T.b_len (by decide +kernel) (pa_cons (pv 0) pa_nil)) pa_nil))) pa_nil))) pa_nil)) (blkOk_by (own := [("_law_k", 1)]) (N := ["_law_script", "_law_k"]) (sc := defScope s_law) (by decide +kernel)) (fun _ _ _ _ _ => (pg_name (i := 1) sc_law.nd rfl (Or.inl rfl))) (fun _ _ _ _ _ => pts_nil) (fun _ _ _ _ _ => (pe_callG c__law_right.ok hg (hr.mono (by decide)) (by rfl) c__law_right.mgx c__law_right.kp c__law_right.bd .nil pass0 (pa_cons (pe_call c__law_pot.ok (hr.mono (by decide)) (by rfl) c__law_pot.mgx c__law_pot.kp c__law_pot.bd .nil pass0 (pa_cons (pv 0) (pa_cons (pv 1) pa_nil))) pa_nil)))) pa_nil)))), ?_⟩
    refine s_ret (ev_allT (el_lcR1 (fun _ => true) (fun _ => V.bl true) (ea_cons (ev_cb (ea_cons ev_c (ea_cons (ev_cb (ea_cons ev_c (ea_cons (ev_cb (ea_cons (ev_var rfl) ea_nil) (rc_len (.inl hs) e0)) ea_nil)) rc_min2) ea_nil)) rc_max2) ea_nil) ?_ (fun _ => rfl) (fun _ _ _ _ => lc_yes) (fun i H1 e1 hi _ => ?_))) k
    · split <;> split <;> omega
    · refine fun Ha ea Qa qa => ⟨.ref a, rfl, .int (i : Int), rfl, a, ns, (i : Int), rfl, ex_l (e1.trans ea) hs, by omega, ?_, fun p H2 hp e2 pot => ⟨p, rfl, pot, fun H3 r3 => qa H3 ((ex_wo e2 hp).trans r3.x)⟩⟩
      split at hi <;> split at hi <;> omega
end
end K32
end
section
set_option maxHeartbeats 8000000
namespace K32
open PySem L2 Evl G OW BK TD
theorem us_nil {α : Type} {us : List α} (h : us.length = 0) : us = [] := List.eq_nil_of_length_eq_zero h
theorem us_cons {α : Type} {us : List α} {n : Nat} (h : us.length = n + 1) : ∃ a t, us = a :: t ∧ t.length = n := by
  cases us with
  | nil => exact absurd h (Nat.succ_ne_zero n).symm
  | cons a t => exact ⟨a, t, rfl, Nat.succ.inj h⟩
theorem us_0 {fn : FuncData} (h : bindArgs fn ⟨[], []⟩ = pure (([] : List Str).zip [])) (us : List Value) (hl : us.length = ([] : List Str).length) : bindArgs fn ⟨us, []⟩ = pure (([] : List Str).zip us) := by
  cases us_nil hl
  exact h
theorem us_1 {fn : FuncData} {p0 : Str} (h : ∀ a0, bindArgs fn ⟨[a0], []⟩ = pure ([p0].zip [a0])) (us : List Value) (hl : us.length = [p0].length) : bindArgs fn ⟨us, []⟩ = pure ([p0].zip us) := by
  obtain ⟨a0, t0, rfl, h0⟩ := us_cons (n := 0) hl
  cases us_nil h0
  exact h a0
theorem us_2 {fn : FuncData} {p0 p1 : Str} (h : ∀ a0 a1, bindArgs fn ⟨[a0, a1], []⟩ = pure ([p0, p1].zip [a0, a1])) (us : List Value) (hl : us.length = [p0, p1].length) : bindArgs fn ⟨us, []⟩ = pure ([p0, p1].zip us) := by
  obtain ⟨a0, t0, rfl, h0⟩ := us_cons (n := 1) hl
  obtain ⟨a1, t1, rfl, h1⟩ := us_cons (n := 0) h0
  cases us_nil h1
  exact h a0 a1
theorem us_3 {fn : FuncData} {p0 p1 p2 : Str} (h : ∀ a0 a1 a2, bindArgs fn ⟨[a0, a1, a2], []⟩ = pure ([p0, p1, p2].zip [a0, a1, a2])) (us : List Value) (hl : us.length = [p0, p1, p2].length) : bindArgs fn ⟨us, []⟩ = pure ([p0, p1, p2].zip us) := by
  obtain ⟨a0, t0, rfl, h0⟩ := us_cons (n := 2) hl
  obtain ⟨a1, t1, rfl, h1⟩ := us_cons (n := 1) h0
  obtain ⟨a2, t2, rfl, h2⟩ := us_cons (n := 0) h1
  cases us_nil h2
  exact h a0 a1 a2
theorem us_4 {fn : FuncData} {p0 p1 p2 p3 : Str} (h : ∀ a0 a1 a2 a3, bindArgs fn ⟨[a0, a1, a2, a3], []⟩ = pure ([p0, p1, p2, p3].zip [a0, a1, a2, a3])) (us : List Value) (hl : us.length = [p0, p1, p2, p3].length) : bindArgs fn ⟨us, []⟩ = pure ([p0, p1, p2, p3].zip us) := by
  obtain ⟨a0, t0, rfl, h0⟩ := us_cons (n := 3) hl
  obtain ⟨a1, t1, rfl, h1⟩ := us_cons (n := 2) h0
  obtain ⟨a2, t2, rfl, h2⟩ := us_cons (n := 1) h1
  obtain ⟨a3, t3, rfl, h3⟩ := us_cons (n := 0) h2
  cases us_nil h3
  exact h a0 a1 a2 a3
theorem us_5 {fn : FuncData} {p0 p1 p2 p3 p4 : Str} (h : ∀ a0 a1 a2 a3 a4, bindArgs fn ⟨[a0, a1, a2, a3, a4], []⟩ = pure ([p0, p1, p2, p3, p4].zip [a0, a1, a2, a3, a4])) (us : List Value) (hl : us.length = [p0, p1, p2, p3, p4].length) : bindArgs fn ⟨us, []⟩ = pure ([p0, p1, p2, p3, p4].zip us) := by
  obtain ⟨a0, t0, rfl, h0⟩ := us_cons (n := 4) hl
  obtain ⟨a1, t1, rfl, h1⟩ := us_cons (n := 3) h0
  obtain ⟨a2, t2, rfl, h2⟩ := us_cons (n := 2) h1
  obtain ⟨a3, t3, rfl, h3⟩ := us_cons (n := 1) h2
  obtain ⟨a4, t4, rfl, h4⟩ := us_cons (n := 0) h3
  cases us_nil h4
  exact h a0 a1 a2 a3 a4
section
variable {P : Program} {w : World} {K : PySem.W.Frag} {mg : Str → Option Value} {base : Heap} {C : Addr}
theorem all_mk {h : Heap} {fa : Addr} (X : K.In h) (G : h.Ns mainGlobals mg) (hmg : mg "law" = some (.ref fa))
    {C : Addr}
    {tk_MOST_ROWS : Tok}
    {tk_MOST_PROMISES : Tok}
    {f_is_day : Addr} {od_is_day an_is_day : Option Addr} {sl_is_day : Array (Option Value)} {oc_is_day kV_is_day dc_is_day pm_is_day cd_is_day ct_is_day : Value}
    {f_is_rule : Addr} {od_is_rule an_is_rule : Option Addr} {sl_is_rule : Array (Option Value)} {oc_is_rule kV_is_rule dc_is_rule pm_is_rule cd_is_rule ct_is_rule : Value}
    {f_need_rule : Addr} {od_need_rule an_need_rule : Option Addr} {sl_need_rule : Array (Option Value)} {oc_need_rule kV_need_rule dc_need_rule pm_need_rule cd_need_rule ct_need_rule : Value}
    {f_is_list : Addr} {od_is_list an_is_list : Option Addr} {sl_is_list : Array (Option Value)} {oc_is_list kV_is_list dc_is_list pm_is_list cd_is_list ct_is_list : Value}
    {f_Book___init__ : Addr} {od_Book___init__ an_Book___init__ : Option Addr} {sl_Book___init__ : Array (Option Value)} {oc_Book___init__ kV_Book___init__ dc_Book___init__ pm_Book___init__ cd_Book___init__ ct_Book___init__ : Value}
    {f_Book_log : Addr} {od_Book_log an_Book_log : Option Addr} {sl_Book_log : Array (Option Value)} {oc_Book_log kV_Book_log dc_Book_log pm_Book_log cd_Book_log ct_Book_log : Value}
    {p_Book_log : Addr} {rs_Book_log : List Value}
    {f_Book_promises : Addr} {od_Book_promises an_Book_promises : Option Addr} {sl_Book_promises : Array (Option Value)} {oc_Book_promises kV_Book_promises dc_Book_promises pm_Book_promises cd_Book_promises ct_Book_promises : Value}
    {p_Book_promises : Addr} {rs_Book_promises : List Value}
    {f_Book_rules : Addr} {od_Book_rules an_Book_rules : Option Addr} {sl_Book_rules : Array (Option Value)} {oc_Book_rules kV_Book_rules dc_Book_rules pm_Book_rules cd_Book_rules ct_Book_rules : Value}
    {p_Book_rules : Addr} {rs_Book_rules : List Value}
    {f_is_row : Addr} {od_is_row an_is_row : Option Addr} {sl_is_row : Array (Option Value)} {oc_is_row kV_is_row dc_is_row pm_is_row cd_is_row ct_is_row : Value}
    {f_need_row : Addr} {od_need_row an_need_row : Option Addr} {sl_need_row : Array (Option Value)} {oc_need_row kV_need_row dc_need_row pm_need_row cd_need_row ct_need_row : Value}
    {f_is_promise : Addr} {od_is_promise an_is_promise : Option Addr} {sl_is_promise : Array (Option Value)} {oc_is_promise kV_is_promise dc_is_promise pm_is_promise cd_is_promise ct_is_promise : Value}
    {f_need_promise : Addr} {od_need_promise an_need_promise : Option Addr} {sl_need_promise : Array (Option Value)} {oc_need_promise kV_need_promise dc_need_promise pm_need_promise cd_need_promise ct_need_promise : Value}
    {f_promise_place : Addr} {od_promise_place an_promise_place : Option Addr} {sl_promise_place : Array (Option Value)} {oc_promise_place kV_promise_place dc_promise_place pm_promise_place cd_promise_place ct_promise_place : Value}
    {f__bound_place : Addr} {od__bound_place an__bound_place : Option Addr} {sl__bound_place : Array (Option Value)} {oc__bound_place kV__bound_place dc__bound_place pm__bound_place cd__bound_place ct__bound_place : Value}
    {f__are_bounds : Addr} {od__are_bounds an__are_bounds : Option Addr} {sl__are_bounds : Array (Option Value)} {oc__are_bounds kV__are_bounds dc__are_bounds pm__are_bounds cd__are_bounds ct__are_bounds : Value}
    {f__need_rows : Addr} {od__need_rows an__need_rows : Option Addr} {sl__need_rows : Array (Option Value)} {oc__need_rows kV__need_rows dc__need_rows pm__need_rows cd__need_rows ct__need_rows : Value}
    {f__need_promises : Addr} {od__need_promises an__need_promises : Option Addr} {sl__need_promises : Array (Option Value)} {oc__need_promises kV__need_promises dc__need_promises pm__need_promises cd__need_promises ct__need_promises : Value}
    {f_beneath : Addr} {od_beneath an_beneath : Option Addr} {sl_beneath : Array (Option Value)} {oc_beneath kV_beneath dc_beneath pm_beneath cd_beneath ct_beneath : Value}
    {f_above : Addr} {od_above an_above : Option Addr} {sl_above : Array (Option Value)} {oc_above kV_above dc_above pm_above cd_above ct_above : Value}
    {f_low : Addr} {od_low an_low : Option Addr} {sl_low : Array (Option Value)} {oc_low kV_low dc_low pm_low cd_low ct_low : Value}
    {f_high : Addr} {od_high an_high : Option Addr} {sl_high : Array (Option Value)} {oc_high kV_high dc_high pm_high cd_high ct_high : Value}
    {f_low_chain : Addr} {od_low_chain an_low_chain : Option Addr} {sl_low_chain : Array (Option Value)} {oc_low_chain kV_low_chain dc_low_chain pm_low_chain cd_low_chain ct_low_chain : Value}
    {f_high_chain : Addr} {od_high_chain an_high_chain : Option Addr} {sl_high_chain : Array (Option Value)} {oc_high_chain kV_high_chain dc_high_chain pm_high_chain cd_high_chain ct_high_chain : Value}
    {f_torn : Addr} {od_torn an_torn : Option Addr} {sl_torn : Array (Option Value)} {oc_torn kV_torn dc_torn pm_torn cd_torn ct_torn : Value}
    {f_quick_pairs : Addr} {od_quick_pairs an_quick_pairs : Option Addr} {sl_quick_pairs : Array (Option Value)} {oc_quick_pairs kV_quick_pairs dc_quick_pairs pm_quick_pairs cd_quick_pairs ct_quick_pairs : Value}
    {f__quick : Addr} {od__quick an__quick : Option Addr} {sl__quick : Array (Option Value)} {oc__quick kV__quick dc__quick pm__quick cd__quick ct__quick : Value}
    {f__leads : Addr} {od__leads an__leads : Option Addr} {sl__leads : Array (Option Value)} {oc__leads kV__leads dc__leads pm__leads cd__leads ct__leads : Value}
    {f__is_torn : Addr} {od__is_torn an__is_torn : Option Addr} {sl__is_torn : Array (Option Value)} {oc__is_torn kV__is_torn dc__is_torn pm__is_torn cd__is_torn ct__is_torn : Value}
    {f__steps_to : Addr} {od__steps_to an__steps_to : Option Addr} {sl__steps_to : Array (Option Value)} {oc__steps_to kV__steps_to dc__steps_to pm__steps_to cd__steps_to ct__steps_to : Value}
    {f__shortest_chain : Addr} {od__shortest_chain an__shortest_chain : Option Addr} {sl__shortest_chain : Array (Option Value)} {oc__shortest_chain kV__shortest_chain dc__shortest_chain pm__shortest_chain cd__shortest_chain ct__shortest_chain : Value}
    {f__law_pot : Addr} {od__law_pot an__law_pot : Option Addr} {sl__law_pot : Array (Option Value)} {oc__law_pot kV__law_pot dc__law_pot pm__law_pot cd__law_pot ct__law_pot : Value}
    {f__law_draw : Addr} {od__law_draw an__law_draw : Option Addr} {sl__law_draw : Array (Option Value)} {oc__law_draw kV__law_draw dc__law_draw pm__law_draw cd__law_draw ct__law_draw : Value}
    {f__law_pick : Addr} {od__law_pick an__law_pick : Option Addr} {sl__law_pick : Array (Option Value)} {oc__law_pick kV__law_pick dc__law_pick pm__law_pick cd__law_pick ct__law_pick : Value}
    {f__law_once : Addr} {od__law_once an__law_once : Option Addr} {sl__law_once : Array (Option Value)} {oc__law_once kV__law_once dc__law_once pm__law_once cd__law_once ct__law_once : Value}
    {f__law_under : Addr} {od__law_under an__law_under : Option Addr} {sl__law_under : Array (Option Value)} {oc__law_under kV__law_under dc__law_under pm__law_under cd__law_under ct__law_under : Value}
    {f__law_over : Addr} {od__law_over an__law_over : Option Addr} {sl__law_over : Array (Option Value)} {oc__law_over kV__law_over dc__law_over pm__law_over cd__law_over ct__law_over : Value}
    {f__law_low : Addr} {od__law_low an__law_low : Option Addr} {sl__law_low : Array (Option Value)} {oc__law_low kV__law_low dc__law_low pm__law_low cd__law_low ct__law_low : Value}
    {f__law_high : Addr} {od__law_high an__law_high : Option Addr} {sl__law_high : Array (Option Value)} {oc__law_high kV__law_high dc__law_high pm__law_high cd__law_high ct__law_high : Value}
    {f__law_named : Addr} {od__law_named an__law_named : Option Addr} {sl__law_named : Array (Option Value)} {oc__law_named kV__law_named dc__law_named pm__law_named cd__law_named ct__law_named : Value}
    {f__law_oaths : Addr} {od__law_oaths an__law_oaths : Option Addr} {sl__law_oaths : Array (Option Value)} {oc__law_oaths kV__law_oaths dc__law_oaths pm__law_oaths cd__law_oaths ct__law_oaths : Value}
    {f__law_longer : Addr} {od__law_longer an__law_longer : Option Addr} {sl__law_longer : Array (Option Value)} {oc__law_longer kV__law_longer dc__law_longer pm__law_longer cd__law_longer ct__law_longer : Value}
    {f__law_chain : Addr} {od__law_chain an__law_chain : Option Addr} {sl__law_chain : Array (Option Value)} {oc__law_chain kV__law_chain dc__law_chain pm__law_chain cd__law_chain ct__law_chain : Value}
    {f__law_low_chain : Addr} {od__law_low_chain an__law_low_chain : Option Addr} {sl__law_low_chain : Array (Option Value)} {oc__law_low_chain kV__law_low_chain dc__law_low_chain pm__law_low_chain cd__law_low_chain ct__law_low_chain : Value}
    {f__law_high_chain : Addr} {od__law_high_chain an__law_high_chain : Option Addr} {sl__law_high_chain : Array (Option Value)} {oc__law_high_chain kV__law_high_chain dc__law_high_chain pm__law_high_chain cd__law_high_chain ct__law_high_chain : Value}
    {f__law_rule_right : Addr} {od__law_rule_right an__law_rule_right : Option Addr} {sl__law_rule_right : Array (Option Value)} {oc__law_rule_right kV__law_rule_right dc__law_rule_right pm__law_rule_right cd__law_rule_right ct__law_rule_right : Value}
    {f__law_right : Addr} {od__law_right an__law_right : Option Addr} {sl__law_right : Array (Option Value)} {oc__law_right kV__law_right dc__law_right pm__law_right cd__law_right ct__law_right : Value}
    {f_law : Addr} {od_law an_law : Option Addr} {sl_law : Array (Option Value)} {oc_law kV_law dc_law pm_law cd_law ct_law : Value}
    (aC : PySem.W.nsIn K mainGlobals "Book" = some (some (.ref C)))
    (pg : PySem.W.plainGet K C Str.empty = true)
    (hd : PySem.W.hasDictIn K C = true)
    (po : PySem.W.plainOver K C = true)
    (sa : PySem.W.findIn K (.ref C) "__setattr__" = some (some (.builtin "object.__setattr__")))
    (mk : PySem.W.makesIn K C = true)
    (kc : PySem.W.keepIn K (.ref C) = true)
    (n_log : PySem.W.findIn K (.ref C) "_log" = some none)
    (n_promises : PySem.W.findIn K (.ref C) "_promises" = some none)
    (vMOST_ROWS : PySem.W.findIn K (.ref C) "MOST_ROWS" = some (some (.int 24 tk_MOST_ROWS)))
    (wMOST_ROWS : PySem.W.specialIn K (.int 24 tk_MOST_ROWS) "__get__" = some none)
    (vMOST_PROMISES : PySem.W.findIn K (.ref C) "MOST_PROMISES" = some (some (.int 12 tk_MOST_PROMISES)))
    (wMOST_PROMISES : PySem.W.specialIn K (.int 12 tk_MOST_PROMISES) "__get__" = some none)
    (ne : PySem.W.findIn K (.ref C) "__ne__" = some (some (.builtin "object.__ne__")))
    (mo : PySem.W.mroIn K C (.type "object") = some true)
    (tc1 : PySem.W.findIn K (.ref C) "__class__" = some (some (.builtin "object.__class__")))
    (tc2 : PySem.W.specialIn K (.builtin "object.__class__") "__get__" = some (some (.builtin "getset_descriptor.__get__")))
    (tc3 : PySem.W.takesIn K (.builtin "object.__class__") = some true)
    (nf_NoneType : PySem.W.notFirst K C (.type "NoneType") = true)
    (nf_bool : PySem.W.notFirst K C (.type "bool") = true)
    (nf_int : PySem.W.notFirst K C (.type "int") = true)
    (nf_str : PySem.W.notFirst K C (.type "str") = true)
    (nf_list : PySem.W.notFirst K C (.type "list") = true)
    (nf_tuple : PySem.W.notFirst K C (.type "tuple") = true)
    (nf_dict : PySem.W.notFirst K C (.type "dict") = true)
    (ki_NoneType : PySem.W.kitOne K (.type "NoneType") (.ref C) = some false)
    (ki_bool : PySem.W.kitOne K (.type "bool") (.ref C) = some false)
    (ki_int : PySem.W.kitOne K (.type "int") (.ref C) = some false)
    (ki_str : PySem.W.kitOne K (.type "str") (.ref C) = some false)
    (ki_list : PySem.W.kitOne K (.type "list") (.ref C) = some false)
    (ki_tuple : PySem.W.kitOne K (.type "tuple") (.ref C) = some false)
    (ki_dict : PySem.W.kitOne K (.type "dict") (.ref C) = some false)
    (a_is_day : PySem.W.nsIn K mainGlobals "is_day" = some (some (.ref f_is_day)))
    (l_is_day : K.lookup f_is_day = some ⟨oc_is_day, od_is_day, .func (PySem.W.fnOf "is_day" "is_day" (defArgs s_is_day) (defBody s_is_day) (defScope s_is_day) .none kV_is_day dc_is_day pm_is_day an_is_day cd_is_day ct_is_day), sl_is_day⟩)
    (c_is_day : PySem.W.codeIn K cd_is_day "is_day" = true)
    (k_is_day : PySem.W.keepIn K (.ref f_is_day) = true)
    (a_is_rule : PySem.W.nsIn K mainGlobals "is_rule" = some (some (.ref f_is_rule)))
    (l_is_rule : K.lookup f_is_rule = some ⟨oc_is_rule, od_is_rule, .func (PySem.W.fnOf "is_rule" "is_rule" (defArgs s_is_rule) (defBody s_is_rule) (defScope s_is_rule) .none kV_is_rule dc_is_rule pm_is_rule an_is_rule cd_is_rule ct_is_rule), sl_is_rule⟩)
    (c_is_rule : PySem.W.codeIn K cd_is_rule "is_rule" = true)
    (k_is_rule : PySem.W.keepIn K (.ref f_is_rule) = true)
    (a_need_rule : PySem.W.nsIn K mainGlobals "need_rule" = some (some (.ref f_need_rule)))
    (l_need_rule : K.lookup f_need_rule = some ⟨oc_need_rule, od_need_rule, .func (PySem.W.fnOf "need_rule" "need_rule" (defArgs s_need_rule) (defBody s_need_rule) (defScope s_need_rule) .none kV_need_rule dc_need_rule pm_need_rule an_need_rule cd_need_rule ct_need_rule), sl_need_rule⟩)
    (c_need_rule : PySem.W.codeIn K cd_need_rule "need_rule" = true)
    (k_need_rule : PySem.W.keepIn K (.ref f_need_rule) = true)
    (a_is_list : PySem.W.nsIn K mainGlobals "is_list" = some (some (.ref f_is_list)))
    (l_is_list : K.lookup f_is_list = some ⟨oc_is_list, od_is_list, .func (PySem.W.fnOf "is_list" "is_list" (defArgs s_is_list) (defBody s_is_list) (defScope s_is_list) .none kV_is_list dc_is_list pm_is_list an_is_list cd_is_list ct_is_list), sl_is_list⟩)
    (c_is_list : PySem.W.codeIn K cd_is_list "is_list" = true)
    (k_is_list : PySem.W.keepIn K (.ref f_is_list) = true)
    (a_Book___init__ : PySem.W.findIn K (.ref C) "__init__" = some (some (.ref f_Book___init__)))
    (i_Book___init__ : PySem.W.isFn K (.ref f_Book___init__) = true)
    (l_Book___init__ : K.lookup f_Book___init__ = some ⟨oc_Book___init__, od_Book___init__, .func (PySem.W.fnOf "__init__" "Book.__init__" (defArgs s_Book___init__) (defBody s_Book___init__) (defScope s_Book___init__) .none kV_Book___init__ dc_Book___init__ pm_Book___init__ an_Book___init__ cd_Book___init__ ct_Book___init__), sl_Book___init__⟩)
    (c_Book___init__ : PySem.W.codeIn K cd_Book___init__ "Book.__init__" = true)
    (k_Book___init__ : PySem.W.keepIn K (.ref f_Book___init__) = true)
    (a_Book_log : PySem.W.findIn K (.ref C) "log" = some (some (.ref p_Book_log)))
    (g_Book_log : PySem.W.specialIn K (.ref p_Book_log) "__get__" = some (some (.builtin "property.__get__")))
    (t_Book_log : PySem.W.takesIn K (.ref p_Book_log) = some true)
    (r_Book_log : PySem.W.recIn K p_Book_log "property" = some (.ref f_Book_log :: rs_Book_log))
    (l_Book_log : K.lookup f_Book_log = some ⟨oc_Book_log, od_Book_log, .func (PySem.W.fnOf "log" "Book.log" (defArgs s_Book_log) (defBody s_Book_log) (defScope s_Book_log) .none kV_Book_log dc_Book_log pm_Book_log an_Book_log cd_Book_log ct_Book_log), sl_Book_log⟩)
    (c_Book_log : PySem.W.codeIn K cd_Book_log "Book.log" = true)
    (k_Book_log : PySem.W.keepIn K (.ref f_Book_log) = true)
    (a_Book_promises : PySem.W.findIn K (.ref C) "promises" = some (some (.ref p_Book_promises)))
    (g_Book_promises : PySem.W.specialIn K (.ref p_Book_promises) "__get__" = some (some (.builtin "property.__get__")))
    (t_Book_promises : PySem.W.takesIn K (.ref p_Book_promises) = some true)
    (r_Book_promises : PySem.W.recIn K p_Book_promises "property" = some (.ref f_Book_promises :: rs_Book_promises))
    (l_Book_promises : K.lookup f_Book_promises = some ⟨oc_Book_promises, od_Book_promises, .func (PySem.W.fnOf "promises" "Book.promises" (defArgs s_Book_promises) (defBody s_Book_promises) (defScope s_Book_promises) .none kV_Book_promises dc_Book_promises pm_Book_promises an_Book_promises cd_Book_promises ct_Book_promises), sl_Book_promises⟩)
    (c_Book_promises : PySem.W.codeIn K cd_Book_promises "Book.promises" = true)
    (k_Book_promises : PySem.W.keepIn K (.ref f_Book_promises) = true)
    (a_Book_rules : PySem.W.findIn K (.ref C) "rules" = some (some (.ref p_Book_rules)))
    (g_Book_rules : PySem.W.specialIn K (.ref p_Book_rules) "__get__" = some (some (.builtin "property.__get__")))
    (t_Book_rules : PySem.W.takesIn K (.ref p_Book_rules) = some true)
    (r_Book_rules : PySem.W.recIn K p_Book_rules "property" = some (.ref f_Book_rules :: rs_Book_rules))
    (l_Book_rules : K.lookup f_Book_rules = some ⟨oc_Book_rules, od_Book_rules, .func (PySem.W.fnOf "rules" "Book.rules" (defArgs s_Book_rules) (defBody s_Book_rules) (defScope s_Book_rules) .none kV_Book_rules dc_Book_rules pm_Book_rules an_Book_rules cd_Book_rules ct_Book_rules), sl_Book_rules⟩)
    (c_Book_rules : PySem.W.codeIn K cd_Book_rules "Book.rules" = true)
    (k_Book_rules : PySem.W.keepIn K (.ref f_Book_rules) = true)
    (a_is_row : PySem.W.nsIn K mainGlobals "is_row" = some (some (.ref f_is_row)))
    (l_is_row : K.lookup f_is_row = some ⟨oc_is_row, od_is_row, .func (PySem.W.fnOf "is_row" "is_row" (defArgs s_is_row) (defBody s_is_row) (defScope s_is_row) .none kV_is_row dc_is_row pm_is_row an_is_row cd_is_row ct_is_row), sl_is_row⟩)
    (c_is_row : PySem.W.codeIn K cd_is_row "is_row" = true)
    (k_is_row : PySem.W.keepIn K (.ref f_is_row) = true)
    (a_need_row : PySem.W.nsIn K mainGlobals "need_row" = some (some (.ref f_need_row)))
    (l_need_row : K.lookup f_need_row = some ⟨oc_need_row, od_need_row, .func (PySem.W.fnOf "need_row" "need_row" (defArgs s_need_row) (defBody s_need_row) (defScope s_need_row) .none kV_need_row dc_need_row pm_need_row an_need_row cd_need_row ct_need_row), sl_need_row⟩)
    (c_need_row : PySem.W.codeIn K cd_need_row "need_row" = true)
    (k_need_row : PySem.W.keepIn K (.ref f_need_row) = true)
    (a_is_promise : PySem.W.nsIn K mainGlobals "is_promise" = some (some (.ref f_is_promise)))
    (l_is_promise : K.lookup f_is_promise = some ⟨oc_is_promise, od_is_promise, .func (PySem.W.fnOf "is_promise" "is_promise" (defArgs s_is_promise) (defBody s_is_promise) (defScope s_is_promise) .none kV_is_promise dc_is_promise pm_is_promise an_is_promise cd_is_promise ct_is_promise), sl_is_promise⟩)
    (c_is_promise : PySem.W.codeIn K cd_is_promise "is_promise" = true)
    (k_is_promise : PySem.W.keepIn K (.ref f_is_promise) = true)
    (a_need_promise : PySem.W.nsIn K mainGlobals "need_promise" = some (some (.ref f_need_promise)))
    (l_need_promise : K.lookup f_need_promise = some ⟨oc_need_promise, od_need_promise, .func (PySem.W.fnOf "need_promise" "need_promise" (defArgs s_need_promise) (defBody s_need_promise) (defScope s_need_promise) .none kV_need_promise dc_need_promise pm_need_promise an_need_promise cd_need_promise ct_need_promise), sl_need_promise⟩)
    (c_need_promise : PySem.W.codeIn K cd_need_promise "need_promise" = true)
    (k_need_promise : PySem.W.keepIn K (.ref f_need_promise) = true)
    (a_promise_place : PySem.W.nsIn K mainGlobals "promise_place" = some (some (.ref f_promise_place)))
    (l_promise_place : K.lookup f_promise_place = some ⟨oc_promise_place, od_promise_place, .func (PySem.W.fnOf "promise_place" "promise_place" (defArgs s_promise_place) (defBody s_promise_place) (defScope s_promise_place) .none kV_promise_place dc_promise_place pm_promise_place an_promise_place cd_promise_place ct_promise_place), sl_promise_place⟩)
    (c_promise_place : PySem.W.codeIn K cd_promise_place "promise_place" = true)
    (k_promise_place : PySem.W.keepIn K (.ref f_promise_place) = true)
    (a__bound_place : PySem.W.nsIn K mainGlobals "_bound_place" = some (some (.ref f__bound_place)))
    (l__bound_place : K.lookup f__bound_place = some ⟨oc__bound_place, od__bound_place, .func (PySem.W.fnOf "_bound_place" "_bound_place" (defArgs s__bound_place) (defBody s__bound_place) (defScope s__bound_place) .none kV__bound_place dc__bound_place pm__bound_place an__bound_place cd__bound_place ct__bound_place), sl__bound_place⟩)
    (c__bound_place : PySem.W.codeIn K cd__bound_place "_bound_place" = true)
    (k__bound_place : PySem.W.keepIn K (.ref f__bound_place) = true)
    (a__are_bounds : PySem.W.nsIn K mainGlobals "_are_bounds" = some (some (.ref f__are_bounds)))
    (l__are_bounds : K.lookup f__are_bounds = some ⟨oc__are_bounds, od__are_bounds, .func (PySem.W.fnOf "_are_bounds" "_are_bounds" (defArgs s__are_bounds) (defBody s__are_bounds) (defScope s__are_bounds) .none kV__are_bounds dc__are_bounds pm__are_bounds an__are_bounds cd__are_bounds ct__are_bounds), sl__are_bounds⟩)
    (c__are_bounds : PySem.W.codeIn K cd__are_bounds "_are_bounds" = true)
    (k__are_bounds : PySem.W.keepIn K (.ref f__are_bounds) = true)
    (a__need_rows : PySem.W.nsIn K mainGlobals "_need_rows" = some (some (.ref f__need_rows)))
    (l__need_rows : K.lookup f__need_rows = some ⟨oc__need_rows, od__need_rows, .func (PySem.W.fnOf "_need_rows" "_need_rows" (defArgs s__need_rows) (defBody s__need_rows) (defScope s__need_rows) .none kV__need_rows dc__need_rows pm__need_rows an__need_rows cd__need_rows ct__need_rows), sl__need_rows⟩)
    (c__need_rows : PySem.W.codeIn K cd__need_rows "_need_rows" = true)
    (k__need_rows : PySem.W.keepIn K (.ref f__need_rows) = true)
    (a__need_promises : PySem.W.nsIn K mainGlobals "_need_promises" = some (some (.ref f__need_promises)))
    (l__need_promises : K.lookup f__need_promises = some ⟨oc__need_promises, od__need_promises, .func (PySem.W.fnOf "_need_promises" "_need_promises" (defArgs s__need_promises) (defBody s__need_promises) (defScope s__need_promises) .none kV__need_promises dc__need_promises pm__need_promises an__need_promises cd__need_promises ct__need_promises), sl__need_promises⟩)
    (c__need_promises : PySem.W.codeIn K cd__need_promises "_need_promises" = true)
    (k__need_promises : PySem.W.keepIn K (.ref f__need_promises) = true)
    (a_beneath : PySem.W.nsIn K mainGlobals "beneath" = some (some (.ref f_beneath)))
    (l_beneath : K.lookup f_beneath = some ⟨oc_beneath, od_beneath, .func (PySem.W.fnOf "beneath" "beneath" (defArgs s_beneath) (defBody s_beneath) (defScope s_beneath) .none kV_beneath dc_beneath pm_beneath an_beneath cd_beneath ct_beneath), sl_beneath⟩)
    (c_beneath : PySem.W.codeIn K cd_beneath "beneath" = true)
    (k_beneath : PySem.W.keepIn K (.ref f_beneath) = true)
    (a_above : PySem.W.nsIn K mainGlobals "above" = some (some (.ref f_above)))
    (l_above : K.lookup f_above = some ⟨oc_above, od_above, .func (PySem.W.fnOf "above" "above" (defArgs s_above) (defBody s_above) (defScope s_above) .none kV_above dc_above pm_above an_above cd_above ct_above), sl_above⟩)
    (c_above : PySem.W.codeIn K cd_above "above" = true)
    (k_above : PySem.W.keepIn K (.ref f_above) = true)
    (a_low : PySem.W.nsIn K mainGlobals "low" = some (some (.ref f_low)))
    (l_low : K.lookup f_low = some ⟨oc_low, od_low, .func (PySem.W.fnOf "low" "low" (defArgs s_low) (defBody s_low) (defScope s_low) .none kV_low dc_low pm_low an_low cd_low ct_low), sl_low⟩)
    (c_low : PySem.W.codeIn K cd_low "low" = true)
    (k_low : PySem.W.keepIn K (.ref f_low) = true)
    (a_high : PySem.W.nsIn K mainGlobals "high" = some (some (.ref f_high)))
    (l_high : K.lookup f_high = some ⟨oc_high, od_high, .func (PySem.W.fnOf "high" "high" (defArgs s_high) (defBody s_high) (defScope s_high) .none kV_high dc_high pm_high an_high cd_high ct_high), sl_high⟩)
    (c_high : PySem.W.codeIn K cd_high "high" = true)
    (k_high : PySem.W.keepIn K (.ref f_high) = true)
    (a_low_chain : PySem.W.nsIn K mainGlobals "low_chain" = some (some (.ref f_low_chain)))
    (l_low_chain : K.lookup f_low_chain = some ⟨oc_low_chain, od_low_chain, .func (PySem.W.fnOf "low_chain" "low_chain" (defArgs s_low_chain) (defBody s_low_chain) (defScope s_low_chain) .none kV_low_chain dc_low_chain pm_low_chain an_low_chain cd_low_chain ct_low_chain), sl_low_chain⟩)
    (c_low_chain : PySem.W.codeIn K cd_low_chain "low_chain" = true)
    (k_low_chain : PySem.W.keepIn K (.ref f_low_chain) = true)
    (a_high_chain : PySem.W.nsIn K mainGlobals "high_chain" = some (some (.ref f_high_chain)))
    (l_high_chain : K.lookup f_high_chain = some ⟨oc_high_chain, od_high_chain, .func (PySem.W.fnOf "high_chain" "high_chain" (defArgs s_high_chain) (defBody s_high_chain) (defScope s_high_chain) .none kV_high_chain dc_high_chain pm_high_chain an_high_chain cd_high_chain ct_high_chain), sl_high_chain⟩)
    (c_high_chain : PySem.W.codeIn K cd_high_chain "high_chain" = true)
    (k_high_chain : PySem.W.keepIn K (.ref f_high_chain) = true)
    (a_torn : PySem.W.nsIn K mainGlobals "torn" = some (some (.ref f_torn)))
    (l_torn : K.lookup f_torn = some ⟨oc_torn, od_torn, .func (PySem.W.fnOf "torn" "torn" (defArgs s_torn) (defBody s_torn) (defScope s_torn) .none kV_torn dc_torn pm_torn an_torn cd_torn ct_torn), sl_torn⟩)
    (c_torn : PySem.W.codeIn K cd_torn "torn" = true)
    (k_torn : PySem.W.keepIn K (.ref f_torn) = true)
    (a_quick_pairs : PySem.W.nsIn K mainGlobals "quick_pairs" = some (some (.ref f_quick_pairs)))
    (l_quick_pairs : K.lookup f_quick_pairs = some ⟨oc_quick_pairs, od_quick_pairs, .func (PySem.W.fnOf "quick_pairs" "quick_pairs" (defArgs s_quick_pairs) (defBody s_quick_pairs) (defScope s_quick_pairs) .none kV_quick_pairs dc_quick_pairs pm_quick_pairs an_quick_pairs cd_quick_pairs ct_quick_pairs), sl_quick_pairs⟩)
    (c_quick_pairs : PySem.W.codeIn K cd_quick_pairs "quick_pairs" = true)
    (k_quick_pairs : PySem.W.keepIn K (.ref f_quick_pairs) = true)
    (a__quick : PySem.W.nsIn K mainGlobals "_quick" = some (some (.ref f__quick)))
    (l__quick : K.lookup f__quick = some ⟨oc__quick, od__quick, .func (PySem.W.fnOf "_quick" "_quick" (defArgs s__quick) (defBody s__quick) (defScope s__quick) .none kV__quick dc__quick pm__quick an__quick cd__quick ct__quick), sl__quick⟩)
    (c__quick : PySem.W.codeIn K cd__quick "_quick" = true)
    (k__quick : PySem.W.keepIn K (.ref f__quick) = true)
    (a__leads : PySem.W.nsIn K mainGlobals "_leads" = some (some (.ref f__leads)))
    (l__leads : K.lookup f__leads = some ⟨oc__leads, od__leads, .func (PySem.W.fnOf "_leads" "_leads" (defArgs s__leads) (defBody s__leads) (defScope s__leads) .none kV__leads dc__leads pm__leads an__leads cd__leads ct__leads), sl__leads⟩)
    (c__leads : PySem.W.codeIn K cd__leads "_leads" = true)
    (k__leads : PySem.W.keepIn K (.ref f__leads) = true)
    (a__is_torn : PySem.W.nsIn K mainGlobals "_is_torn" = some (some (.ref f__is_torn)))
    (l__is_torn : K.lookup f__is_torn = some ⟨oc__is_torn, od__is_torn, .func (PySem.W.fnOf "_is_torn" "_is_torn" (defArgs s__is_torn) (defBody s__is_torn) (defScope s__is_torn) .none kV__is_torn dc__is_torn pm__is_torn an__is_torn cd__is_torn ct__is_torn), sl__is_torn⟩)
    (c__is_torn : PySem.W.codeIn K cd__is_torn "_is_torn" = true)
    (k__is_torn : PySem.W.keepIn K (.ref f__is_torn) = true)
    (a__steps_to : PySem.W.nsIn K mainGlobals "_steps_to" = some (some (.ref f__steps_to)))
    (l__steps_to : K.lookup f__steps_to = some ⟨oc__steps_to, od__steps_to, .func (PySem.W.fnOf "_steps_to" "_steps_to" (defArgs s__steps_to) (defBody s__steps_to) (defScope s__steps_to) .none kV__steps_to dc__steps_to pm__steps_to an__steps_to cd__steps_to ct__steps_to), sl__steps_to⟩)
    (c__steps_to : PySem.W.codeIn K cd__steps_to "_steps_to" = true)
    (k__steps_to : PySem.W.keepIn K (.ref f__steps_to) = true)
    (a__shortest_chain : PySem.W.nsIn K mainGlobals "_shortest_chain" = some (some (.ref f__shortest_chain)))
    (l__shortest_chain : K.lookup f__shortest_chain = some ⟨oc__shortest_chain, od__shortest_chain, .func (PySem.W.fnOf "_shortest_chain" "_shortest_chain" (defArgs s__shortest_chain) (defBody s__shortest_chain) (defScope s__shortest_chain) .none kV__shortest_chain dc__shortest_chain pm__shortest_chain an__shortest_chain cd__shortest_chain ct__shortest_chain), sl__shortest_chain⟩)
    (c__shortest_chain : PySem.W.codeIn K cd__shortest_chain "_shortest_chain" = true)
    (k__shortest_chain : PySem.W.keepIn K (.ref f__shortest_chain) = true)
    (a__law_pot : PySem.W.nsIn K mainGlobals "_law_pot" = some (some (.ref f__law_pot)))
    (l__law_pot : K.lookup f__law_pot = some ⟨oc__law_pot, od__law_pot, .func (PySem.W.fnOf "_law_pot" "_law_pot" (defArgs s__law_pot) (defBody s__law_pot) (defScope s__law_pot) .none kV__law_pot dc__law_pot pm__law_pot an__law_pot cd__law_pot ct__law_pot), sl__law_pot⟩)
    (c__law_pot : PySem.W.codeIn K cd__law_pot "_law_pot" = true)
    (k__law_pot : PySem.W.keepIn K (.ref f__law_pot) = true)
    (a__law_draw : PySem.W.nsIn K mainGlobals "_law_draw" = some (some (.ref f__law_draw)))
    (l__law_draw : K.lookup f__law_draw = some ⟨oc__law_draw, od__law_draw, .func (PySem.W.fnOf "_law_draw" "_law_draw" (defArgs s__law_draw) (defBody s__law_draw) (defScope s__law_draw) .none kV__law_draw dc__law_draw pm__law_draw an__law_draw cd__law_draw ct__law_draw), sl__law_draw⟩)
    (c__law_draw : PySem.W.codeIn K cd__law_draw "_law_draw" = true)
    (k__law_draw : PySem.W.keepIn K (.ref f__law_draw) = true)
    (a__law_pick : PySem.W.nsIn K mainGlobals "_law_pick" = some (some (.ref f__law_pick)))
    (l__law_pick : K.lookup f__law_pick = some ⟨oc__law_pick, od__law_pick, .func (PySem.W.fnOf "_law_pick" "_law_pick" (defArgs s__law_pick) (defBody s__law_pick) (defScope s__law_pick) .none kV__law_pick dc__law_pick pm__law_pick an__law_pick cd__law_pick ct__law_pick), sl__law_pick⟩)
    (c__law_pick : PySem.W.codeIn K cd__law_pick "_law_pick" = true)
    (k__law_pick : PySem.W.keepIn K (.ref f__law_pick) = true)
    (a__law_once : PySem.W.nsIn K mainGlobals "_law_once" = some (some (.ref f__law_once)))
    (l__law_once : K.lookup f__law_once = some ⟨oc__law_once, od__law_once, .func (PySem.W.fnOf "_law_once" "_law_once" (defArgs s__law_once) (defBody s__law_once) (defScope s__law_once) .none kV__law_once dc__law_once pm__law_once an__law_once cd__law_once ct__law_once), sl__law_once⟩)
    (c__law_once : PySem.W.codeIn K cd__law_once "_law_once" = true)
    (k__law_once : PySem.W.keepIn K (.ref f__law_once) = true)
    (a__law_under : PySem.W.nsIn K mainGlobals "_law_under" = some (some (.ref f__law_under)))
    (l__law_under : K.lookup f__law_under = some ⟨oc__law_under, od__law_under, .func (PySem.W.fnOf "_law_under" "_law_under" (defArgs s__law_under) (defBody s__law_under) (defScope s__law_under) .none kV__law_under dc__law_under pm__law_under an__law_under cd__law_under ct__law_under), sl__law_under⟩)
    (c__law_under : PySem.W.codeIn K cd__law_under "_law_under" = true)
    (k__law_under : PySem.W.keepIn K (.ref f__law_under) = true)
    (a__law_over : PySem.W.nsIn K mainGlobals "_law_over" = some (some (.ref f__law_over)))
    (l__law_over : K.lookup f__law_over = some ⟨oc__law_over, od__law_over, .func (PySem.W.fnOf "_law_over" "_law_over" (defArgs s__law_over) (defBody s__law_over) (defScope s__law_over) .none kV__law_over dc__law_over pm__law_over an__law_over cd__law_over ct__law_over), sl__law_over⟩)
    (c__law_over : PySem.W.codeIn K cd__law_over "_law_over" = true)
    (k__law_over : PySem.W.keepIn K (.ref f__law_over) = true)
    (a__law_low : PySem.W.nsIn K mainGlobals "_law_low" = some (some (.ref f__law_low)))
    (l__law_low : K.lookup f__law_low = some ⟨oc__law_low, od__law_low, .func (PySem.W.fnOf "_law_low" "_law_low" (defArgs s__law_low) (defBody s__law_low) (defScope s__law_low) .none kV__law_low dc__law_low pm__law_low an__law_low cd__law_low ct__law_low), sl__law_low⟩)
    (c__law_low : PySem.W.codeIn K cd__law_low "_law_low" = true)
    (k__law_low : PySem.W.keepIn K (.ref f__law_low) = true)
    (a__law_high : PySem.W.nsIn K mainGlobals "_law_high" = some (some (.ref f__law_high)))
    (l__law_high : K.lookup f__law_high = some ⟨oc__law_high, od__law_high, .func (PySem.W.fnOf "_law_high" "_law_high" (defArgs s__law_high) (defBody s__law_high) (defScope s__law_high) .none kV__law_high dc__law_high pm__law_high an__law_high cd__law_high ct__law_high), sl__law_high⟩)
    (c__law_high : PySem.W.codeIn K cd__law_high "_law_high" = true)
    (k__law_high : PySem.W.keepIn K (.ref f__law_high) = true)
    (a__law_named : PySem.W.nsIn K mainGlobals "_law_named" = some (some (.ref f__law_named)))
    (l__law_named : K.lookup f__law_named = some ⟨oc__law_named, od__law_named, .func (PySem.W.fnOf "_law_named" "_law_named" (defArgs s__law_named) (defBody s__law_named) (defScope s__law_named) .none kV__law_named dc__law_named pm__law_named an__law_named cd__law_named ct__law_named), sl__law_named⟩)
    (c__law_named : PySem.W.codeIn K cd__law_named "_law_named" = true)
    (k__law_named : PySem.W.keepIn K (.ref f__law_named) = true)
    (a__law_oaths : PySem.W.nsIn K mainGlobals "_law_oaths" = some (some (.ref f__law_oaths)))
    (l__law_oaths : K.lookup f__law_oaths = some ⟨oc__law_oaths, od__law_oaths, .func (PySem.W.fnOf "_law_oaths" "_law_oaths" (defArgs s__law_oaths) (defBody s__law_oaths) (defScope s__law_oaths) .none kV__law_oaths dc__law_oaths pm__law_oaths an__law_oaths cd__law_oaths ct__law_oaths), sl__law_oaths⟩)
    (c__law_oaths : PySem.W.codeIn K cd__law_oaths "_law_oaths" = true)
    (k__law_oaths : PySem.W.keepIn K (.ref f__law_oaths) = true)
    (a__law_longer : PySem.W.nsIn K mainGlobals "_law_longer" = some (some (.ref f__law_longer)))
    (l__law_longer : K.lookup f__law_longer = some ⟨oc__law_longer, od__law_longer, .func (PySem.W.fnOf "_law_longer" "_law_longer" (defArgs s__law_longer) (defBody s__law_longer) (defScope s__law_longer) .none kV__law_longer dc__law_longer pm__law_longer an__law_longer cd__law_longer ct__law_longer), sl__law_longer⟩)
    (c__law_longer : PySem.W.codeIn K cd__law_longer "_law_longer" = true)
    (k__law_longer : PySem.W.keepIn K (.ref f__law_longer) = true)
    (a__law_chain : PySem.W.nsIn K mainGlobals "_law_chain" = some (some (.ref f__law_chain)))
    (l__law_chain : K.lookup f__law_chain = some ⟨oc__law_chain, od__law_chain, .func (PySem.W.fnOf "_law_chain" "_law_chain" (defArgs s__law_chain) (defBody s__law_chain) (defScope s__law_chain) .none kV__law_chain dc__law_chain pm__law_chain an__law_chain cd__law_chain ct__law_chain), sl__law_chain⟩)
    (c__law_chain : PySem.W.codeIn K cd__law_chain "_law_chain" = true)
    (k__law_chain : PySem.W.keepIn K (.ref f__law_chain) = true)
    (a__law_low_chain : PySem.W.nsIn K mainGlobals "_law_low_chain" = some (some (.ref f__law_low_chain)))
    (l__law_low_chain : K.lookup f__law_low_chain = some ⟨oc__law_low_chain, od__law_low_chain, .func (PySem.W.fnOf "_law_low_chain" "_law_low_chain" (defArgs s__law_low_chain) (defBody s__law_low_chain) (defScope s__law_low_chain) .none kV__law_low_chain dc__law_low_chain pm__law_low_chain an__law_low_chain cd__law_low_chain ct__law_low_chain), sl__law_low_chain⟩)
    (c__law_low_chain : PySem.W.codeIn K cd__law_low_chain "_law_low_chain" = true)
    (k__law_low_chain : PySem.W.keepIn K (.ref f__law_low_chain) = true)
    (a__law_high_chain : PySem.W.nsIn K mainGlobals "_law_high_chain" = some (some (.ref f__law_high_chain)))
    (l__law_high_chain : K.lookup f__law_high_chain = some ⟨oc__law_high_chain, od__law_high_chain, .func (PySem.W.fnOf "_law_high_chain" "_law_high_chain" (defArgs s__law_high_chain) (defBody s__law_high_chain) (defScope s__law_high_chain) .none kV__law_high_chain dc__law_high_chain pm__law_high_chain an__law_high_chain cd__law_high_chain ct__law_high_chain), sl__law_high_chain⟩)
    (c__law_high_chain : PySem.W.codeIn K cd__law_high_chain "_law_high_chain" = true)
    (k__law_high_chain : PySem.W.keepIn K (.ref f__law_high_chain) = true)
    (a__law_rule_right : PySem.W.nsIn K mainGlobals "_law_rule_right" = some (some (.ref f__law_rule_right)))
    (l__law_rule_right : K.lookup f__law_rule_right = some ⟨oc__law_rule_right, od__law_rule_right, .func (PySem.W.fnOf "_law_rule_right" "_law_rule_right" (defArgs s__law_rule_right) (defBody s__law_rule_right) (defScope s__law_rule_right) .none kV__law_rule_right dc__law_rule_right pm__law_rule_right an__law_rule_right cd__law_rule_right ct__law_rule_right), sl__law_rule_right⟩)
    (c__law_rule_right : PySem.W.codeIn K cd__law_rule_right "_law_rule_right" = true)
    (k__law_rule_right : PySem.W.keepIn K (.ref f__law_rule_right) = true)
    (a__law_right : PySem.W.nsIn K mainGlobals "_law_right" = some (some (.ref f__law_right)))
    (l__law_right : K.lookup f__law_right = some ⟨oc__law_right, od__law_right, .func (PySem.W.fnOf "_law_right" "_law_right" (defArgs s__law_right) (defBody s__law_right) (defScope s__law_right) .none kV__law_right dc__law_right pm__law_right an__law_right cd__law_right ct__law_right), sl__law_right⟩)
    (c__law_right : PySem.W.codeIn K cd__law_right "_law_right" = true)
    (k__law_right : PySem.W.keepIn K (.ref f__law_right) = true)
    (a_law : PySem.W.nsIn K mainGlobals "law" = some (some (.ref f_law)))
    (l_law : K.lookup f_law = some ⟨oc_law, od_law, .func (PySem.W.fnOf "law" "law" (defArgs s_law) (defBody s_law) (defScope s_law) .none kV_law dc_law pm_law an_law cd_law ct_law), sl_law⟩)
    (c_law : PySem.W.codeIn K cd_law "law" = true)
    (k_law : PySem.W.keepIn K (.ref f_law) = true)
    (b_isinstance : PySem.W.nsIn K mainGlobals "isinstance" = some none)
    (b_int : PySem.W.nsIn K mainGlobals "int" = some none)
    (b_bool : PySem.W.nsIn K mainGlobals "bool" = some none)
    (b_list : PySem.W.nsIn K mainGlobals "list" = some none)
    (b_tuple : PySem.W.nsIn K mainGlobals "tuple" = some none)
    (b_str : PySem.W.nsIn K mainGlobals "str" = some none)
    (b_len : PySem.W.nsIn K mainGlobals "len" = some none)
    (b_range : PySem.W.nsIn K mainGlobals "range" = some none)
    (b_divmod : PySem.W.nsIn K mainGlobals "divmod" = some none)
    (b_min : PySem.W.nsIn K mainGlobals "min" = some none)
    (b_max : PySem.W.nsIn K mainGlobals "max" = some none)
    (b_all : PySem.W.nsIn K mainGlobals "all" = some none)
    (b_any : PySem.W.nsIn K mainGlobals "any" = some none)
    (b_abs : PySem.W.nsIn K mainGlobals "abs" = some none)
    (b_sorted : PySem.W.nsIn K mainGlobals "sorted" = some none)
    (b_set : PySem.W.nsIn K mainGlobals "set" = some none)
    (b_enumerate : PySem.W.nsIn K mainGlobals "enumerate" = some none)
    : ∃ fd : FuncData, (∀ (s : Shared) (u : Value), BindsTo s fd ⟨[u], []⟩ [("_law_script", u)]) ∧ ∀ base : Heap, K.In base → base.Ns mainGlobals mg → FnG P w K mg base CX0 9 fa fd ["_law_script"] (sp_law K) := by
  have ef : fa = f_law := by
    have z := PySem.W.mg_of X G a_law
    rw [hmg] at z
    cases z
    rfl
  subst ef
  have T : Txt P w K mg C := { cl := ⟨pg, hd, po, sa⟩, nL := n_log, nP := n_promises, kc := kc, mki := mk, mg_Book := PySem.W.mg_of X G aC, tyC := fun H a dx fs e => .ins e ⟨pg, hd, po, sa⟩ tc1 tc2 tc3 mo, cR := ⟨_, vMOST_ROWS, ⟨_, rfl⟩, wMOST_ROWS, rfl⟩, cP := ⟨_, vMOST_PROMISES, ⟨_, rfl⟩, wMOST_PROMISES, rfl⟩, mo := mo, ne := ne, nf := fun d => by cases d <;> first | exact nf_NoneType | exact nf_bool | exact nf_int | exact nf_str | exact nf_list | exact nf_tuple | exact nf_dict, ki := fun d => by cases d <;> first | exact ki_NoneType | exact ki_bool | exact ki_int | exact ki_str | exact ki_list | exact ki_tuple | exact ki_dict, b_isinstance := PySem.W.mg_none_of X G b_isinstance, b_int := PySem.W.mg_none_of X G b_int, b_bool := PySem.W.mg_none_of X G b_bool, b_list := PySem.W.mg_none_of X G b_list, b_tuple := PySem.W.mg_none_of X G b_tuple, b_str := PySem.W.mg_none_of X G b_str, b_len := PySem.W.mg_none_of X G b_len, b_range := PySem.W.mg_none_of X G b_range, b_divmod := PySem.W.mg_none_of X G b_divmod, b_min := PySem.W.mg_none_of X G b_min, b_max := PySem.W.mg_none_of X G b_max, b_all := PySem.W.mg_none_of X G b_all, b_any := PySem.W.mg_none_of X G b_any, b_abs := PySem.W.mg_none_of X G b_abs, b_sorted := PySem.W.mg_none_of X G b_sorted, b_set := PySem.W.mg_none_of X G b_set, b_enumerate := PySem.W.mg_none_of X G b_enumerate }
  have F_is_day := fun_mk (K := K) (st := s_is_day) l_is_day c_is_day k_is_day
  have bd_is_day : Binds K _ ["value"] [] := F_is_day.binds (fun _ _ _ _ _ _ => us_1 fun _ => rfl)
  have F_is_rule := fun_mk (K := K) (st := s_is_rule) l_is_rule c_is_rule k_is_rule
  have bd_is_rule : Binds K _ ["value"] [] := F_is_rule.binds (fun _ _ _ _ _ _ => us_1 fun _ => rfl)
  have F_need_rule := fun_mk (K := K) (st := s_need_rule) l_need_rule c_need_rule k_need_rule
  have bd_need_rule : Binds K _ ["value"] [] := F_need_rule.binds (fun _ _ _ _ _ _ => us_1 fun _ => rfl)
  have F_is_list := fun_mk (K := K) (st := s_is_list) l_is_list c_is_list k_is_list
  have bd_is_list : Binds K _ ["value"] [] := F_is_list.binds (fun _ _ _ _ _ _ => us_1 fun _ => rfl)
  have F_Book___init__ := fun_mk (K := K) (st := s_Book___init__) l_Book___init__ c_Book___init__ k_Book___init__
  have bd_Book___init__ : Binds K _ ["self", "log", "promises"] [] := F_Book___init__.binds (fun _ _ _ _ _ _ => us_3 fun _ _ _ => rfl)
  have F_Book_log := fun_mk (K := K) (st := s_Book_log) l_Book_log c_Book_log k_Book_log
  have bd_Book_log : Binds K _ ["self"] [] := F_Book_log.binds (fun _ _ _ _ _ _ => us_1 fun _ => rfl)
  have F_Book_promises := fun_mk (K := K) (st := s_Book_promises) l_Book_promises c_Book_promises k_Book_promises
  have bd_Book_promises : Binds K _ ["self"] [] := F_Book_promises.binds (fun _ _ _ _ _ _ => us_1 fun _ => rfl)
  have F_Book_rules := fun_mk (K := K) (st := s_Book_rules) l_Book_rules c_Book_rules k_Book_rules
  have bd_Book_rules : Binds K _ ["self"] [] := F_Book_rules.binds (fun _ _ _ _ _ _ => us_1 fun _ => rfl)
  have F_is_row := fun_mk (K := K) (st := s_is_row) l_is_row c_is_row k_is_row
  have bd_is_row : Binds K _ ["value"] [] := F_is_row.binds (fun _ _ _ _ _ _ => us_1 fun _ => rfl)
  have F_need_row := fun_mk (K := K) (st := s_need_row) l_need_row c_need_row k_need_row
  have bd_need_row : Binds K _ ["value"] [] := F_need_row.binds (fun _ _ _ _ _ _ => us_1 fun _ => rfl)
  have F_is_promise := fun_mk (K := K) (st := s_is_promise) l_is_promise c_is_promise k_is_promise
  have bd_is_promise : Binds K _ ["value"] [] := F_is_promise.binds (fun _ _ _ _ _ _ => us_1 fun _ => rfl)
  have F_need_promise := fun_mk (K := K) (st := s_need_promise) l_need_promise c_need_promise k_need_promise
  have bd_need_promise : Binds K _ ["value"] [] := F_need_promise.binds (fun _ _ _ _ _ _ => us_1 fun _ => rfl)
  have F_promise_place := fun_mk (K := K) (st := s_promise_place) l_promise_place c_promise_place k_promise_place
  have bd_promise_place : Binds K _ ["promise"] [] := F_promise_place.binds (fun _ _ _ _ _ _ => us_1 fun _ => rfl)
  have F__bound_place := fun_mk (K := K) (st := s__bound_place) l__bound_place c__bound_place k__bound_place
  have bd__bound_place : Binds K _ ["bound"] [] := F__bound_place.binds (fun _ _ _ _ _ _ => us_1 fun _ => rfl)
  have F__are_bounds := fun_mk (K := K) (st := s__are_bounds) l__are_bounds c__are_bounds k__are_bounds
  have bd__are_bounds : Binds K _ ["least", "most"] [] := F__are_bounds.binds (fun _ _ _ _ _ _ => us_2 fun _ _ => rfl)
  have F__need_rows := fun_mk (K := K) (st := s__need_rows) l__need_rows c__need_rows k__need_rows
  have bd__need_rows : Binds K _ ["log"] [] := F__need_rows.binds (fun _ _ _ _ _ _ => us_1 fun _ => rfl)
  have F__need_promises := fun_mk (K := K) (st := s__need_promises) l__need_promises c__need_promises k__need_promises
  have bd__need_promises : Binds K _ ["promises"] [] := F__need_promises.binds (fun _ _ _ _ _ _ => us_1 fun _ => rfl)
  have F_beneath := fun_mk (K := K) (st := s_beneath) l_beneath c_beneath k_beneath
  have bd_beneath : Binds K _ ["book", "rule"] [] := F_beneath.binds (fun _ _ _ _ _ _ => us_2 fun _ _ => rfl)
  have F_above := fun_mk (K := K) (st := s_above) l_above c_above k_above
  have bd_above : Binds K _ ["book", "rule"] [] := F_above.binds (fun _ _ _ _ _ _ => us_2 fun _ _ => rfl)
  have F_low := fun_mk (K := K) (st := s_low) l_low c_low k_low
  have bd_low : Binds K _ ["book", "rule"] [] := F_low.binds (fun _ _ _ _ _ _ => us_2 fun _ _ => rfl)
  have F_high := fun_mk (K := K) (st := s_high) l_high c_high k_high
  have bd_high : Binds K _ ["book", "rule"] [] := F_high.binds (fun _ _ _ _ _ _ => us_2 fun _ _ => rfl)
  have F_low_chain := fun_mk (K := K) (st := s_low_chain) l_low_chain c_low_chain k_low_chain
  have bd_low_chain : Binds K _ ["book", "rule"] [] := F_low_chain.binds (fun _ _ _ _ _ _ => us_2 fun _ _ => rfl)
  have F_high_chain := fun_mk (K := K) (st := s_high_chain) l_high_chain c_high_chain k_high_chain
  have bd_high_chain : Binds K _ ["book", "rule"] [] := F_high_chain.binds (fun _ _ _ _ _ _ => us_2 fun _ _ => rfl)
  have F_torn := fun_mk (K := K) (st := s_torn) l_torn c_torn k_torn
  have bd_torn : Binds K _ ["book"] [] := F_torn.binds (fun _ _ _ _ _ _ => us_1 fun _ => rfl)
  have F_quick_pairs := fun_mk (K := K) (st := s_quick_pairs) l_quick_pairs c_quick_pairs k_quick_pairs
  have bd_quick_pairs : Binds K _ ["book"] [] := F_quick_pairs.binds (fun _ _ _ _ _ _ => us_1 fun _ => rfl)
  have F__quick := fun_mk (K := K) (st := s__quick) l__quick c__quick k__quick
  have bd__quick : Binds K _ ["book"] [] := F__quick.binds (fun _ _ _ _ _ _ => us_1 fun _ => rfl)
  have F__leads := fun_mk (K := K) (st := s__leads) l__leads c__leads k__leads
  have bd__leads : Binds K _ ["book"] [] := F__leads.binds (fun _ _ _ _ _ _ => us_1 fun _ => rfl)
  have F__is_torn := fun_mk (K := K) (st := s__is_torn) l__is_torn c__is_torn k__is_torn
  have bd__is_torn : Binds K _ ["book", "rule"] [] := F__is_torn.binds (fun _ _ _ _ _ _ => us_2 fun _ _ => rfl)
  have F__steps_to := fun_mk (K := K) (st := s__steps_to) l__steps_to c__steps_to k__steps_to
  have bd__steps_to : Binds K _ ["goals", "quick"] [] := F__steps_to.binds (fun _ _ _ _ _ _ => us_2 fun _ _ => rfl)
  have F__shortest_chain := fun_mk (K := K) (st := s__shortest_chain) l__shortest_chain c__shortest_chain k__shortest_chain
  have bd__shortest_chain : Binds K _ ["book", "starts", "goals"] [] := F__shortest_chain.binds (fun _ _ _ _ _ _ => us_3 fun _ _ _ => rfl)
  have F__law_pot := fun_mk (K := K) (st := s__law_pot) l__law_pot c__law_pot k__law_pot
  have bd__law_pot : Binds K _ ["_law_script", "_law_k"] [] := F__law_pot.binds (fun _ _ _ _ _ _ => us_2 fun _ _ => rfl)
  have F__law_draw := fun_mk (K := K) (st := s__law_draw) l__law_draw c__law_draw k__law_draw
  have bd__law_draw : Binds K _ ["_law_pot_here", "_law_size"] [] := F__law_draw.binds (fun _ _ _ _ _ _ => us_2 fun _ _ => rfl)
  have F__law_pick := fun_mk (K := K) (st := s__law_pick) l__law_pick c__law_pick k__law_pick
  have bd__law_pick : Binds K _ ["_law_pot_here", "_law_some"] [] := F__law_pick.binds (fun _ _ _ _ _ _ => us_2 fun _ _ => rfl)
  have F__law_once := fun_mk (K := K) (st := s__law_once) l__law_once c__law_once k__law_once
  have bd__law_once : Binds K _ ["_law_some"] [] := F__law_once.binds (fun _ _ _ _ _ _ => us_1 fun _ => rfl)
  have F__law_under := fun_mk (K := K) (st := s__law_under) l__law_under c__law_under k__law_under
  have bd__law_under : Binds K _ ["_law_vows", "_law_who"] [] := F__law_under.binds (fun _ _ _ _ _ _ => us_2 fun _ _ => rfl)
  have F__law_over := fun_mk (K := K) (st := s__law_over) l__law_over c__law_over k__law_over
  have bd__law_over : Binds K _ ["_law_vows", "_law_who"] [] := F__law_over.binds (fun _ _ _ _ _ _ => us_2 fun _ _ => rfl)
  have F__law_low := fun_mk (K := K) (st := s__law_low) l__law_low c__law_low k__law_low
  have bd__law_low : Binds K _ ["_law_vows", "_law_who"] [] := F__law_low.binds (fun _ _ _ _ _ _ => us_2 fun _ _ => rfl)
  have F__law_high := fun_mk (K := K) (st := s__law_high) l__law_high c__law_high k__law_high
  have bd__law_high : Binds K _ ["_law_vows", "_law_who"] [] := F__law_high.binds (fun _ _ _ _ _ _ => us_2 fun _ _ => rfl)
  have F__law_named := fun_mk (K := K) (st := s__law_named) l__law_named c__law_named k__law_named
  have bd__law_named : Binds K _ ["_law_lines", "_law_vows"] [] := F__law_named.binds (fun _ _ _ _ _ _ => us_2 fun _ _ => rfl)
  have F__law_oaths := fun_mk (K := K) (st := s__law_oaths) l__law_oaths c__law_oaths k__law_oaths
  have bd__law_oaths : Binds K _ ["_law_pot_here", "_law_some"] [] := F__law_oaths.binds (fun _ _ _ _ _ _ => us_2 fun _ _ => rfl)
  have F__law_longer := fun_mk (K := K) (st := s__law_longer) l__law_longer c__law_longer k__law_longer
  have bd__law_longer : Binds K _ ["_law_vows", "_law_lists"] [] := F__law_longer.binds (fun _ _ _ _ _ _ => us_2 fun _ _ => rfl)
  have F__law_chain := fun_mk (K := K) (st := s__law_chain) l__law_chain c__law_chain k__law_chain
  have bd__law_chain : Binds K _ ["_law_vows", "_law_begins", "_law_ends"] [] := F__law_chain.binds (fun _ _ _ _ _ _ => us_3 fun _ _ _ => rfl)
  have F__law_low_chain := fun_mk (K := K) (st := s__law_low_chain) l__law_low_chain c__law_low_chain k__law_low_chain
  have bd__law_low_chain : Binds K _ ["_law_vows", "_law_who"] [] := F__law_low_chain.binds (fun _ _ _ _ _ _ => us_2 fun _ _ => rfl)
  have F__law_high_chain := fun_mk (K := K) (st := s__law_high_chain) l__law_high_chain c__law_high_chain k__law_high_chain
  have bd__law_high_chain : Binds K _ ["_law_vows", "_law_who"] [] := F__law_high_chain.binds (fun _ _ _ _ _ _ => us_2 fun _ _ => rfl)
  have F__law_rule_right := fun_mk (K := K) (st := s__law_rule_right) l__law_rule_right c__law_rule_right k__law_rule_right
  have bd__law_rule_right : Binds K _ ["_law_shelf", "_law_vows", "_law_who"] [] := F__law_rule_right.binds (fun _ _ _ _ _ _ => us_3 fun _ _ _ => rfl)
  have F__law_right := fun_mk (K := K) (st := s__law_right) l__law_right c__law_right k__law_right
  have bd__law_right : Binds K _ ["_law_pot_here"] [] := F__law_right.binds (fun _ _ _ _ _ _ => us_1 fun _ => rfl)
  have F_law := fun_mk (K := K) (st := s_law) l_law c_law k_law
  have bd_law : Binds K _ ["_law_script"] [] := F_law.binds (fun _ _ _ _ _ _ => us_1 fun _ => rfl)
  have kb_above_rule_book := kb_of (ps := ["book", "rule"]) (ks := ["rule", "book"]) (n := 0) (g := fun us ws => us ++ ws.reverse) (gV := fun vs zs => vs ++ zs.reverse) F_above (by intro _ _ _ _ _ _ us ws h1 h2; cases us_nil h1; obtain ⟨w0, tw0, rfl, kw0⟩ := us_cons (n := 1) h2; obtain ⟨w1, tw1, rfl, kw1⟩ := us_cons (n := 0) kw0; cases us_nil kw1; rfl) (fun a b => a.append (vals_rev b))
  have kb_beneath_rule_book := kb_of (ps := ["book", "rule"]) (ks := ["rule", "book"]) (n := 0) (g := fun us ws => us ++ ws.reverse) (gV := fun vs zs => vs ++ zs.reverse) F_beneath (by intro _ _ _ _ _ _ us ws h1 h2; cases us_nil h1; obtain ⟨w0, tw0, rfl, kw0⟩ := us_cons (n := 1) h2; obtain ⟨w1, tw1, rfl, kw1⟩ := us_cons (n := 0) kw0; cases us_nil kw1; rfl) (fun a b => a.append (vals_rev b))
  have kb_low_rule_book := kb_of (ps := ["book", "rule"]) (ks := ["rule", "book"]) (n := 0) (g := fun us ws => us ++ ws.reverse) (gV := fun vs zs => vs ++ zs.reverse) F_low (by intro _ _ _ _ _ _ us ws h1 h2; cases us_nil h1; obtain ⟨w0, tw0, rfl, kw0⟩ := us_cons (n := 1) h2; obtain ⟨w1, tw1, rfl, kw1⟩ := us_cons (n := 0) kw0; cases us_nil kw1; rfl) (fun a b => a.append (vals_rev b))
  have kb_high_rule_book := kb_of (ps := ["book", "rule"]) (ks := ["rule", "book"]) (n := 0) (g := fun us ws => us ++ ws.reverse) (gV := fun vs zs => vs ++ zs.reverse) F_high (by intro _ _ _ _ _ _ us ws h1 h2; cases us_nil h1; obtain ⟨w0, tw0, rfl, kw0⟩ := us_cons (n := 1) h2; obtain ⟨w1, tw1, rfl, kw1⟩ := us_cons (n := 0) kw0; cases us_nil kw1; rfl) (fun a b => a.append (vals_rev b))
  have kb_low_chain_rule_book := kb_of (ps := ["book", "rule"]) (ks := ["rule", "book"]) (n := 0) (g := fun us ws => us ++ ws.reverse) (gV := fun vs zs => vs ++ zs.reverse) F_low_chain (by intro _ _ _ _ _ _ us ws h1 h2; cases us_nil h1; obtain ⟨w0, tw0, rfl, kw0⟩ := us_cons (n := 1) h2; obtain ⟨w1, tw1, rfl, kw1⟩ := us_cons (n := 0) kw0; cases us_nil kw1; rfl) (fun a b => a.append (vals_rev b))
  have kb_high_chain_book_rule := kb_of (ps := ["book", "rule"]) (ks := ["book", "rule"]) (n := 0) (g := fun us ws => us ++ ws) (gV := fun vs zs => vs ++ zs) F_high_chain (by intro _ _ _ _ _ _ us ws h1 h2; cases us_nil h1; obtain ⟨w0, tw0, rfl, kw0⟩ := us_cons (n := 1) h2; obtain ⟨w1, tw1, rfl, kw1⟩ := us_cons (n := 0) kw0; cases us_nil kw1; rfl) (fun a b => a.append b)
  have kb_torn_book := kb_of (ps := ["book"]) (ks := ["book"]) (n := 0) (g := fun us ws => us ++ ws) (gV := fun vs zs => vs ++ zs) F_torn (by intro _ _ _ _ _ _ us ws h1 h2; cases us_nil h1; obtain ⟨w0, tw0, rfl, kw0⟩ := us_cons (n := 0) h2; cases us_nil kw0; rfl) (fun a b => a.append b)
  have kb_quick_pairs_book := kb_of (ps := ["book"]) (ks := ["book"]) (n := 0) (g := fun us ws => us ++ ws) (gV := fun vs zs => vs ++ zs) F_quick_pairs (by intro _ _ _ _ _ _ us ws h1 h2; cases us_nil h1; obtain ⟨w0, tw0, rfl, kw0⟩ := us_cons (n := 0) h2; cases us_nil kw0; rfl) (fun a b => a.append b)
  refine ⟨PySem.W.fnOf "law" "law" (defArgs s_law) (defBody s_law) (defScope s_law) .none kV_law dc_law pm_law an_law cd_law ct_law, ?bb, fun base kb nb => ?_⟩
  rotate_left
  have mkI : Mk K C f_Book___init__ := ⟨mk, a_Book___init__, i_Book___init__, kc⟩
  have c_is_rule : Cal P w K mg base "is_rule" f_is_rule _ _ _ _ := ⟨ok_is_rule (P := P) (w := w) (base := base) F_is_rule T, PySem.W.mg_of X G a_is_rule, k_is_rule, bd_is_rule⟩
  have c_need_rule : Cal P w K mg base "need_rule" f_need_rule _ _ _ _ := ⟨ok_need_rule (P := P) (w := w) (base := base) F_need_rule T c_is_rule, PySem.W.mg_of X G a_need_rule, k_need_rule, bd_need_rule⟩
  have c_is_day : Cal P w K mg base "is_day" f_is_day _ _ _ _ := ⟨ok_is_day (P := P) (w := w) (base := base) F_is_day T, PySem.W.mg_of X G a_is_day, k_is_day, bd_is_day⟩
  have c_is_row : Cal P w K mg base "is_row" f_is_row _ _ _ _ := ⟨ok_is_row (P := P) (w := w) (base := base) F_is_row T c_is_rule c_is_day, PySem.W.mg_of X G a_is_row, k_is_row, bd_is_row⟩
  have c_need_row : Cal P w K mg base "need_row" f_need_row _ _ _ _ := ⟨ok_need_row (P := P) (w := w) (base := base) F_need_row T c_is_row, PySem.W.mg_of X G a_need_row, k_need_row, bd_need_row⟩
  have c__are_bounds : Cal P w K mg base "_are_bounds" f__are_bounds _ _ _ _ := ⟨ok_are_bounds (P := P) (w := w) (base := base) F__are_bounds T c_is_day, PySem.W.mg_of X G a__are_bounds, k__are_bounds, bd__are_bounds⟩
  have c__bound_place : Cal P w K mg base "_bound_place" f__bound_place _ _ _ _ := ⟨ok_bound_place (P := P) (w := w) (base := base) F__bound_place T, PySem.W.mg_of X G a__bound_place, k__bound_place, bd__bound_place⟩
  have c_is_promise : Cal P w K mg base "is_promise" f_is_promise _ _ _ _ := ⟨ok_is_promise (P := P) (w := w) (base := base) F_is_promise T c_is_rule c__are_bounds, PySem.W.mg_of X G a_is_promise, k_is_promise, bd_is_promise⟩
  have c_need_promise : Cal P w K mg base "need_promise" f_need_promise _ _ _ _ := ⟨ok_need_promise (P := P) (w := w) (base := base) F_need_promise T c_is_promise, PySem.W.mg_of X G a_need_promise, k_need_promise, bd_need_promise⟩
  have c_promise_place : Cal P w K mg base "promise_place" f_promise_place _ _ _ _ := ⟨ok_promise_place (P := P) (w := w) (base := base) F_promise_place T c__bound_place, PySem.W.mg_of X G a_promise_place, k_promise_place, bd_promise_place⟩
  have c_is_list : Cal P w K mg base "is_list" f_is_list _ _ _ _ := ⟨ok_is_list (P := P) (w := w) (base := base) F_is_list T, PySem.W.mg_of X G a_is_list, k_is_list, bd_is_list⟩
  have c__need_rows : Cal P w K mg base "_need_rows" f__need_rows _ _ _ _ := ⟨ok_need_rows (P := P) (w := w) (base := base) F__need_rows T c_is_list c_need_row, PySem.W.mg_of X G a__need_rows, k__need_rows, bd__need_rows⟩
  have c__need_promises : Cal P w K mg base "_need_promises" f__need_promises _ _ _ _ := ⟨ok_need_promises (P := P) (w := w) (base := base) F__need_promises T c_is_list c_need_promise, PySem.W.mg_of X G a__need_promises, k__need_promises, bd__need_promises⟩
  have m_init : Ini P w K mg base C f_Book___init__ _ := ⟨ok_init (P := P) (w := w) (base := base) F_Book___init__ T c__need_rows c__need_promises c_promise_place, bd_Book___init__⟩
  have m_log : Prp P w K mg base C "log" p_Book_log f_Book_log _ _ _ _ := ⟨ok_log (P := P) (w := w) (base := base) F_Book_log T, ⟨a_Book_log, g_Book_log, t_Book_log, ⟨_, r_Book_log⟩⟩, bd_Book_log⟩
  have m_promises : Prp P w K mg base C "promises" p_Book_promises f_Book_promises _ _ _ _ := ⟨ok_promises (P := P) (w := w) (base := base) F_Book_promises T, ⟨a_Book_promises, g_Book_promises, t_Book_promises, ⟨_, r_Book_promises⟩⟩, bd_Book_promises⟩
  have m_rules : Prp P w K mg base C "rules" p_Book_rules f_Book_rules _ _ _ _ := ⟨ok_rules (P := P) (w := w) (base := base) F_Book_rules T, ⟨a_Book_rules, g_Book_rules, t_Book_rules, ⟨_, r_Book_rules⟩⟩, bd_Book_rules⟩
  have c__law_pot : Cal P w K mg base "_law_pot" f__law_pot _ _ _ _ := ⟨ok_pot (P := P) (w := w) (base := base) F__law_pot T, PySem.W.mg_of X G a__law_pot, k__law_pot, bd__law_pot⟩
  have c__law_draw : Cal P w K mg base "_law_draw" f__law_draw _ _ _ _ := ⟨ok_draw (P := P) (w := w) (base := base) F__law_draw T, PySem.W.mg_of X G a__law_draw, k__law_draw, bd__law_draw⟩
  have c__law_pick : Cal P w K mg base "_law_pick" f__law_pick _ _ _ _ := ⟨ok_pick (P := P) (w := w) (base := base) F__law_pick T c__law_draw, PySem.W.mg_of X G a__law_pick, k__law_pick, bd__law_pick⟩
  have c__law_once : Cal P w K mg base "_law_once" f__law_once _ _ _ _ := ⟨ok_once (P := P) (w := w) (base := base) F__law_once T, PySem.W.mg_of X G a__law_once, k__law_once, bd__law_once⟩
  have c__quick : Cal P w K mg base "_quick" f__quick _ _ _ _ := ⟨ok_quick (P := P) (w := w) (base := base) F__quick T m_promises, PySem.W.mg_of X G a__quick, k__quick, bd__quick⟩
  have c__leads : Cal P w K mg base "_leads" f__leads _ _ _ _ := ⟨ok_leads (P := P) (w := w) (base := base) F__leads T m_promises, PySem.W.mg_of X G a__leads, k__leads, bd__leads⟩
  have c__steps_to : Cal P w K mg base "_steps_to" f__steps_to _ _ _ _ := ⟨ok_steps_to (P := P) (w := w) (base := base) F__steps_to T, PySem.W.mg_of X G a__steps_to, k__steps_to, bd__steps_to⟩
  have c_beneath : Cal P w K mg base "beneath" f_beneath _ _ _ _ := ⟨ok_beneath (P := P) (w := w) (base := base) F_beneath T c_need_rule c__steps_to c__quick, PySem.W.mg_of X G a_beneath, k_beneath, bd_beneath⟩
  have c_above : Cal P w K mg base "above" f_above _ _ _ _ := ⟨ok_above (P := P) (w := w) (base := base) F_above T c_need_rule c__steps_to c__quick, PySem.W.mg_of X G a_above, k_above, bd_above⟩
  have c_low : Cal P w K mg base "low" f_low _ _ _ _ := ⟨ok_low (P := P) (w := w) (base := base) F_low T c_beneath c__leads, PySem.W.mg_of X G a_low, k_low, bd_low⟩
  have c_high : Cal P w K mg base "high" f_high _ _ _ _ := ⟨ok_high (P := P) (w := w) (base := base) F_high T c_above c__leads, PySem.W.mg_of X G a_high, k_high, bd_high⟩
  have c__is_torn : Cal P w K mg base "_is_torn" f__is_torn _ _ _ _ := ⟨ok_is_torn (P := P) (w := w) (base := base) F__is_torn T c_low c_high, PySem.W.mg_of X G a__is_torn, k__is_torn, bd__is_torn⟩
  have c_torn : Cal P w K mg base "torn" f_torn _ _ _ _ := ⟨ok_torn (P := P) (w := w) (base := base) F_torn T m_rules c__is_torn, PySem.W.mg_of X G a_torn, k_torn, bd_torn⟩
  have c__shortest_chain : Cal P w K mg base "_shortest_chain" f__shortest_chain _ _ _ _ := ⟨ok_chain (P := P) (w := w) (base := base) F__shortest_chain T c__steps_to c__quick, PySem.W.mg_of X G a__shortest_chain, k__shortest_chain, bd__shortest_chain⟩
  have c_low_chain : Cal P w K mg base "low_chain" f_low_chain _ _ _ _ := ⟨ok_low_chain (P := P) (w := w) (base := base) F_low_chain T c_low c__leads c__shortest_chain, PySem.W.mg_of X G a_low_chain, k_low_chain, bd_low_chain⟩
  have c_high_chain : Cal P w K mg base "high_chain" f_high_chain _ _ _ _ := ⟨ok_high_chain (P := P) (w := w) (base := base) F_high_chain T c_high c__leads c__shortest_chain, PySem.W.mg_of X G a_high_chain, k_high_chain, bd_high_chain⟩
  have c__law_under : Cal P w K mg base "_law_under" f__law_under _ _ _ _ := ⟨ok_lunder (P := P) (w := w) (base := base) F__law_under T c__law_once, PySem.W.mg_of X G a__law_under, k__law_under, bd__law_under⟩
  have c__law_over : Cal P w K mg base "_law_over" f__law_over _ _ _ _ := ⟨ok_lover (P := P) (w := w) (base := base) F__law_over T c__law_once, PySem.W.mg_of X G a__law_over, k__law_over, bd__law_over⟩
  have c__law_low : Cal P w K mg base "_law_low" f__law_low _ _ _ _ := ⟨ok_llow (P := P) (w := w) (base := base) F__law_low T c__law_under, PySem.W.mg_of X G a__law_low, k__law_low, bd__law_low⟩
  have c__law_high : Cal P w K mg base "_law_high" f__law_high _ _ _ _ := ⟨ok_lhigh (P := P) (w := w) (base := base) F__law_high T c__law_over, PySem.W.mg_of X G a__law_high, k__law_high, bd__law_high⟩
  have c__law_named : Cal P w K mg base "_law_named" f__law_named _ _ _ _ := ⟨ok_named (P := P) (w := w) (base := base) F__law_named T c__law_once, PySem.W.mg_of X G a__law_named, k__law_named, bd__law_named⟩
  have c__law_longer : Cal P w K mg base "_law_longer" f__law_longer _ _ _ _ := ⟨ok_longer (P := P) (w := w) (base := base) F__law_longer T c__law_once, PySem.W.mg_of X G a__law_longer, k__law_longer, bd__law_longer⟩
  have c_quick_pairs : Cal P w K mg base "quick_pairs" f_quick_pairs _ _ _ _ := ⟨ok_pairs (P := P) (w := w) (base := base) F_quick_pairs T m_rules c_above, PySem.W.mg_of X G a_quick_pairs, k_quick_pairs, bd_quick_pairs⟩
  have c__law_chain : Cal P w K mg base "_law_chain" f__law_chain _ _ _ _ := ⟨ok_lchain (P := P) (w := w) (base := base) F__law_chain T c__law_longer, PySem.W.mg_of X G a__law_chain, k__law_chain, bd__law_chain⟩
  have c__law_oaths : Cal P w K mg base "_law_oaths" f__law_oaths _ _ _ _ := ⟨ok_oaths (P := P) (w := w) (base := base) F__law_oaths T c__law_draw c__law_pick c__law_once, PySem.W.mg_of X G a__law_oaths, k__law_oaths, bd__law_oaths⟩
  have c__law_low_chain : Cal P w K mg base "_law_low_chain" f__law_low_chain _ _ _ _ := ⟨ok_llchain (P := P) (w := w) (base := base) F__law_low_chain T c__law_low c__law_under c__law_once c__law_chain, PySem.W.mg_of X G a__law_low_chain, k__law_low_chain, bd__law_low_chain⟩
  have c__law_high_chain : Cal P w K mg base "_law_high_chain" f__law_high_chain _ _ _ _ := ⟨ok_lhchain (P := P) (w := w) (base := base) F__law_high_chain T c__law_high c__law_over c__law_chain, PySem.W.mg_of X G a__law_high_chain, k__law_high_chain, bd__law_high_chain⟩
  have c__law_rule_right : Cal P w K mg base "_law_rule_right" f__law_rule_right _ _ _ _ := ⟨ok_rright (P := P) (w := w) (base := base) F__law_rule_right T c_beneath c_above c_low c_high c_low_chain c_high_chain c__law_under c__law_over c__law_low c__law_high c__law_low_chain c__law_high_chain kb_beneath_rule_book kb_above_rule_book kb_low_rule_book kb_high_rule_book kb_low_chain_rule_book kb_high_chain_book_rule, PySem.W.mg_of X G a__law_rule_right, k__law_rule_right, bd__law_rule_right⟩
  have c__law_right : CalG P w K mg base "_law_right" f__law_right _ _ _ _ := ⟨ok_right (P := P) (w := w) (base := base) F__law_right T mkI m_init c__law_draw c__law_pick c__law_oaths c__law_rule_right c__law_named c__law_low c__law_high c__law_over c_torn c_quick_pairs kb_torn_book kb_quick_pairs_book, PySem.W.mg_of X G a__law_right, k__law_right, bd__law_right⟩
  exact ok_law (P := P) (w := w) (base := base) F_law T c__law_pot c__law_right
  exact fun s u => BindsTo.of_looks fun M => PySem.W.Looks.of_pure rfl
end
end K32
end
section
set_option maxHeartbeats 2000000
namespace K32.Hh
open PySem L2
theorem run (w : World) : HandSHeadRun.RunEq R Q hk ob M loose w := Hd.run_join
  (PySem.W.byRow2 "special-get-raises" (P := fun w => Hd.RunA R Q M loose w) run_a_f run_a_t w)
  (PySem.W.byRow2 "special-get-raises" (P := fun w => Hd.RunB R Q M loose w) run_b_f run_b_t w)
  (PySem.W.byRow2 "special-get-raises" (P := fun w => Hd.RunF R M w no 0 fg0) run_f0_f run_f0_t w)
  (run_n w)
end K32.Hh
end
section
set_option maxHeartbeats 2000000
open PySem PySem.W PyProof.Rows L2
set_option maxHeartbeats 0 in
theorem PySem.Challenge.cw_leadrules_k32_chains_of_promises_holds : PySem.Challenge.rw_leadrules_k32_chains_of_promises.Holds := by
  w_on; o_law
  refine HandSHeadRun.head_any (r := PySem.W.OpenLaw.row PySem.Challenge.rw_leadrules_k32_chains_of_promises) (q := PySem.W.view (PySem.W.OpenLaw.row PySem.Challenge.rw_leadrules_k32_chains_of_promises).prog [56]) (H := K32.Hh.hk) (ob := K32.Hh.ob) (M := 9000) (loose := K32.Hh.loose) (d := HandSHeadRun.topDef (PySem.W.OpenLaw.row PySem.Challenge.rw_leadrules_k32_chains_of_promises).prog 56) (kwd := []) K32.Hh.ob_eq
    (by kernel_rfl) (fun s => by kernel_rfl) K32.Hh.run (by kernel_rfl) (by kernel_rfl) (by kernel_rfl) (by rfl) (by first | assumption | decide +kernel) (by decide +kernel) ⟨rfl, rfl, rfl, rfl, rfl, by decide +kernel⟩ ?hw ?hc
  case hw => w_witness2
  case hc =>
    refine Hd.walkE (l := PySem.Challenge.rw_leadrules_k32_chains_of_promises) (n := 63) (k := 9) (x := "_law_script") (CX := CX0) (sp := K32.sp_law) rfl (by decide) (by kernel_rfl) ⟨rfl, by decide, by decide⟩ ?F (fun K H a ns hl hO hS => ⟨a, ns, rfl, hS, hl, fun H2 e => rfl⟩) (fun H s e s' h => h)
    intro w mg fa h Y G0 hmg0
    obtain ⟨K, KX, c⟩ := Y
    have hmg : mg ("law" : Str) = some (.ref fa) := by
      have e : (HandSHeadRun.topDef (PySem.W.OpenLaw.row PySem.Challenge.rw_leadrules_k32_chains_of_promises).prog 56).name = ("law" : Str) := by kernel_rfl
      rw [← e]
      exact hmg0
    obtain ⟨tk_MOST_ROWS, vMOST_ROWS⟩ := Hd.isInt_ok (c.fact 9)
    have wMOST_ROWS := He.eqO_ok (c.fact 10)
    rw [vMOST_ROWS] at wMOST_ROWS
    obtain ⟨tk_MOST_PROMISES, vMOST_PROMISES⟩ := Hd.isInt_ok (c.fact 11)
    have wMOST_PROMISES := He.eqO_ok (c.fact 12)
    rw [vMOST_PROMISES] at wMOST_PROMISES
    obtain ⟨oc_is_day, od_is_day, sl_is_day, kV_is_day, dc_is_day, pm_is_day, an_is_day, cd_is_day, ct_is_day, l_is_day, c_is_day⟩ := c.def_ 0
    obtain ⟨oc_is_rule, od_is_rule, sl_is_rule, kV_is_rule, dc_is_rule, pm_is_rule, an_is_rule, cd_is_rule, ct_is_rule, l_is_rule, c_is_rule⟩ := c.def_ 1
    obtain ⟨oc_need_rule, od_need_rule, sl_need_rule, kV_need_rule, dc_need_rule, pm_need_rule, an_need_rule, cd_need_rule, ct_need_rule, l_need_rule, c_need_rule⟩ := c.def_ 2
    obtain ⟨oc_is_list, od_is_list, sl_is_list, kV_is_list, dc_is_list, pm_is_list, an_is_list, cd_is_list, ct_is_list, l_is_list, c_is_list⟩ := c.def_ 3
    obtain ⟨oc_Book___init__, od_Book___init__, sl_Book___init__, kV_Book___init__, dc_Book___init__, pm_Book___init__, an_Book___init__, cd_Book___init__, ct_Book___init__, l_Book___init__, c_Book___init__⟩ := c.def_ 4
    obtain ⟨rs_Book_log, r_Book_log⟩ := Hd.isRec_ok (c.fact 46)
    obtain ⟨oc_Book_log, od_Book_log, sl_Book_log, kV_Book_log, dc_Book_log, pm_Book_log, an_Book_log, cd_Book_log, ct_Book_log, l_Book_log, c_Book_log⟩ := c.def_ 5
    obtain ⟨rs_Book_promises, r_Book_promises⟩ := Hd.isRec_ok (c.fact 51)
    obtain ⟨oc_Book_promises, od_Book_promises, sl_Book_promises, kV_Book_promises, dc_Book_promises, pm_Book_promises, an_Book_promises, cd_Book_promises, ct_Book_promises, l_Book_promises, c_Book_promises⟩ := c.def_ 6
    obtain ⟨rs_Book_rules, r_Book_rules⟩ := Hd.isRec_ok (c.fact 56)
    obtain ⟨oc_Book_rules, od_Book_rules, sl_Book_rules, kV_Book_rules, dc_Book_rules, pm_Book_rules, an_Book_rules, cd_Book_rules, ct_Book_rules, l_Book_rules, c_Book_rules⟩ := c.def_ 7
    obtain ⟨oc_is_row, od_is_row, sl_is_row, kV_is_row, dc_is_row, pm_is_row, an_is_row, cd_is_row, ct_is_row, l_is_row, c_is_row⟩ := c.def_ 8
    obtain ⟨oc_need_row, od_need_row, sl_need_row, kV_need_row, dc_need_row, pm_need_row, an_need_row, cd_need_row, ct_need_row, l_need_row, c_need_row⟩ := c.def_ 9
    obtain ⟨oc_is_promise, od_is_promise, sl_is_promise, kV_is_promise, dc_is_promise, pm_is_promise, an_is_promise, cd_is_promise, ct_is_promise, l_is_promise, c_is_promise⟩ := c.def_ 10
    obtain ⟨oc_need_promise, od_need_promise, sl_need_promise, kV_need_promise, dc_need_promise, pm_need_promise, an_need_promise, cd_need_promise, ct_need_promise, l_need_promise, c_need_promise⟩ := c.def_ 11
    obtain ⟨oc_promise_place, od_promise_place, sl_promise_place, kV_promise_place, dc_promise_place, pm_promise_place, an_promise_place, cd_promise_place, ct_promise_place, l_promise_place, c_promise_place⟩ := c.def_ 12
    obtain ⟨oc__bound_place, od__bound_place, sl__bound_place, kV__bound_place, dc__bound_place, pm__bound_place, an__bound_place, cd__bound_place, ct__bound_place, l__bound_place, c__bound_place⟩ := c.def_ 13
    obtain ⟨oc__are_bounds, od__are_bounds, sl__are_bounds, kV__are_bounds, dc__are_bounds, pm__are_bounds, an__are_bounds, cd__are_bounds, ct__are_bounds, l__are_bounds, c__are_bounds⟩ := c.def_ 14
    obtain ⟨oc__need_rows, od__need_rows, sl__need_rows, kV__need_rows, dc__need_rows, pm__need_rows, an__need_rows, cd__need_rows, ct__need_rows, l__need_rows, c__need_rows⟩ := c.def_ 15
    obtain ⟨oc__need_promises, od__need_promises, sl__need_promises, kV__need_promises, dc__need_promises, pm__need_promises, an__need_promises, cd__need_promises, ct__need_promises, l__need_promises, c__need_promises⟩ := c.def_ 16
    obtain ⟨oc_beneath, od_beneath, sl_beneath, kV_beneath, dc_beneath, pm_beneath, an_beneath, cd_beneath, ct_beneath, l_beneath, c_beneath⟩ := c.def_ 17
    obtain ⟨oc_above, od_above, sl_above, kV_above, dc_above, pm_above, an_above, cd_above, ct_above, l_above, c_above⟩ := c.def_ 18
    obtain ⟨oc_low, od_low, sl_low, kV_low, dc_low, pm_low, an_low, cd_low, ct_low, l_low, c_low⟩ := c.def_ 19
    obtain ⟨oc_high, od_high, sl_high, kV_high, dc_high, pm_high, an_high, cd_high, ct_high, l_high, c_high⟩ := c.def_ 20
    obtain ⟨oc_low_chain, od_low_chain, sl_low_chain, kV_low_chain, dc_low_chain, pm_low_chain, an_low_chain, cd_low_chain, ct_low_chain, l_low_chain, c_low_chain⟩ := c.def_ 21
    obtain ⟨oc_high_chain, od_high_chain, sl_high_chain, kV_high_chain, dc_high_chain, pm_high_chain, an_high_chain, cd_high_chain, ct_high_chain, l_high_chain, c_high_chain⟩ := c.def_ 22
    obtain ⟨oc_torn, od_torn, sl_torn, kV_torn, dc_torn, pm_torn, an_torn, cd_torn, ct_torn, l_torn, c_torn⟩ := c.def_ 23
    obtain ⟨oc_quick_pairs, od_quick_pairs, sl_quick_pairs, kV_quick_pairs, dc_quick_pairs, pm_quick_pairs, an_quick_pairs, cd_quick_pairs, ct_quick_pairs, l_quick_pairs, c_quick_pairs⟩ := c.def_ 24
    obtain ⟨oc__quick, od__quick, sl__quick, kV__quick, dc__quick, pm__quick, an__quick, cd__quick, ct__quick, l__quick, c__quick⟩ := c.def_ 25
    obtain ⟨oc__leads, od__leads, sl__leads, kV__leads, dc__leads, pm__leads, an__leads, cd__leads, ct__leads, l__leads, c__leads⟩ := c.def_ 26
    obtain ⟨oc__is_torn, od__is_torn, sl__is_torn, kV__is_torn, dc__is_torn, pm__is_torn, an__is_torn, cd__is_torn, ct__is_torn, l__is_torn, c__is_torn⟩ := c.def_ 27
    obtain ⟨oc__steps_to, od__steps_to, sl__steps_to, kV__steps_to, dc__steps_to, pm__steps_to, an__steps_to, cd__steps_to, ct__steps_to, l__steps_to, c__steps_to⟩ := c.def_ 28
    obtain ⟨oc__shortest_chain, od__shortest_chain, sl__shortest_chain, kV__shortest_chain, dc__shortest_chain, pm__shortest_chain, an__shortest_chain, cd__shortest_chain, ct__shortest_chain, l__shortest_chain, c__shortest_chain⟩ := c.def_ 29
    obtain ⟨oc__law_pot, od__law_pot, sl__law_pot, kV__law_pot, dc__law_pot, pm__law_pot, an__law_pot, cd__law_pot, ct__law_pot, l__law_pot, c__law_pot⟩ := c.def_ 30
    obtain ⟨oc__law_draw, od__law_draw, sl__law_draw, kV__law_draw, dc__law_draw, pm__law_draw, an__law_draw, cd__law_draw, ct__law_draw, l__law_draw, c__law_draw⟩ := c.def_ 31
    obtain ⟨oc__law_pick, od__law_pick, sl__law_pick, kV__law_pick, dc__law_pick, pm__law_pick, an__law_pick, cd__law_pick, ct__law_pick, l__law_pick, c__law_pick⟩ := c.def_ 32
    obtain ⟨oc__law_once, od__law_once, sl__law_once, kV__law_once, dc__law_once, pm__law_once, an__law_once, cd__law_once, ct__law_once, l__law_once, c__law_once⟩ := c.def_ 33
    obtain ⟨oc__law_under, od__law_under, sl__law_under, kV__law_under, dc__law_under, pm__law_under, an__law_under, cd__law_under, ct__law_under, l__law_under, c__law_under⟩ := c.def_ 34
    obtain ⟨oc__law_over, od__law_over, sl__law_over, kV__law_over, dc__law_over, pm__law_over, an__law_over, cd__law_over, ct__law_over, l__law_over, c__law_over⟩ := c.def_ 35
    obtain ⟨oc__law_low, od__law_low, sl__law_low, kV__law_low, dc__law_low, pm__law_low, an__law_low, cd__law_low, ct__law_low, l__law_low, c__law_low⟩ := c.def_ 36
    obtain ⟨oc__law_high, od__law_high, sl__law_high, kV__law_high, dc__law_high, pm__law_high, an__law_high, cd__law_high, ct__law_high, l__law_high, c__law_high⟩ := c.def_ 37
    obtain ⟨oc__law_named, od__law_named, sl__law_named, kV__law_named, dc__law_named, pm__law_named, an__law_named, cd__law_named, ct__law_named, l__law_named, c__law_named⟩ := c.def_ 38
    obtain ⟨oc__law_oaths, od__law_oaths, sl__law_oaths, kV__law_oaths, dc__law_oaths, pm__law_oaths, an__law_oaths, cd__law_oaths, ct__law_oaths, l__law_oaths, c__law_oaths⟩ := c.def_ 39
    obtain ⟨oc__law_longer, od__law_longer, sl__law_longer, kV__law_longer, dc__law_longer, pm__law_longer, an__law_longer, cd__law_longer, ct__law_longer, l__law_longer, c__law_longer⟩ := c.def_ 40
    obtain ⟨oc__law_chain, od__law_chain, sl__law_chain, kV__law_chain, dc__law_chain, pm__law_chain, an__law_chain, cd__law_chain, ct__law_chain, l__law_chain, c__law_chain⟩ := c.def_ 41
    obtain ⟨oc__law_low_chain, od__law_low_chain, sl__law_low_chain, kV__law_low_chain, dc__law_low_chain, pm__law_low_chain, an__law_low_chain, cd__law_low_chain, ct__law_low_chain, l__law_low_chain, c__law_low_chain⟩ := c.def_ 42
    obtain ⟨oc__law_high_chain, od__law_high_chain, sl__law_high_chain, kV__law_high_chain, dc__law_high_chain, pm__law_high_chain, an__law_high_chain, cd__law_high_chain, ct__law_high_chain, l__law_high_chain, c__law_high_chain⟩ := c.def_ 43
    obtain ⟨oc__law_rule_right, od__law_rule_right, sl__law_rule_right, kV__law_rule_right, dc__law_rule_right, pm__law_rule_right, an__law_rule_right, cd__law_rule_right, ct__law_rule_right, l__law_rule_right, c__law_rule_right⟩ := c.def_ 44
    obtain ⟨oc__law_right, od__law_right, sl__law_right, kV__law_right, dc__law_right, pm__law_right, an__law_right, cd__law_right, ct__law_right, l__law_right, c__law_right⟩ := c.def_ 45
    obtain ⟨oc_law, od_law, sl_law, kV_law, dc_law, pm_law, an_law, cd_law, ct_law, l_law, c_law⟩ := c.def_ 46
    obtain ⟨fd, hb, hF⟩ := K32.all_mk KX G0 hmg (Hd.isRef_ok (c.fact 0)) (c.fact 1) (c.fact 2) (c.fact 3) (He.eqO_ok (c.fact 4)) (c.fact 5) (c.fact 6) (He.eqO_ok (c.fact 7)) (He.eqO_ok (c.fact 8)) vMOST_ROWS wMOST_ROWS vMOST_PROMISES wMOST_PROMISES (He.eqO_ok (c.fact 13)) (of_decide_eq_true (c.fact 14)) (He.eqO_ok (c.fact 15)) (He.eqO_ok (c.fact 16)) (of_decide_eq_true (c.fact 17)) (c.fact 18) (c.fact 19) (c.fact 20) (c.fact 21) (c.fact 22) (c.fact 23) (c.fact 24) (of_decide_eq_true (c.fact 25)) (of_decide_eq_true (c.fact 26)) (of_decide_eq_true (c.fact 27)) (of_decide_eq_true (c.fact 28)) (of_decide_eq_true (c.fact 29)) (of_decide_eq_true (c.fact 30)) (of_decide_eq_true (c.fact 31)) (Hd.isRef_ok (c.fact 32)) l_is_day c_is_day (c.fact 33) (Hd.isRef_ok (c.fact 34)) l_is_rule c_is_rule (c.fact 35) (Hd.isRef_ok (c.fact 36)) l_need_rule c_need_rule (c.fact 37) (Hd.isRef_ok (c.fact 38)) l_is_list c_is_list (c.fact 39) (Hd.isRef_ok (c.fact 40)) (c.fact 41) l_Book___init__ c_Book___init__ (c.fact 42) (Hd.isRef_ok (c.fact 43)) (He.eqO_ok (c.fact 44)) (of_decide_eq_true (c.fact 45)) r_Book_log l_Book_log c_Book_log (c.fact 47) (Hd.isRef_ok (c.fact 48)) (He.eqO_ok (c.fact 49)) (of_decide_eq_true (c.fact 50)) r_Book_promises l_Book_promises c_Book_promises (c.fact 52) (Hd.isRef_ok (c.fact 53)) (He.eqO_ok (c.fact 54)) (of_decide_eq_true (c.fact 55)) r_Book_rules l_Book_rules c_Book_rules (c.fact 57) (Hd.isRef_ok (c.fact 58)) l_is_row c_is_row (c.fact 59) (Hd.isRef_ok (c.fact 60)) l_need_row c_need_row (c.fact 61) (Hd.isRef_ok (c.fact 62)) l_is_promise c_is_promise (c.fact 63) (Hd.isRef_ok (c.fact 64)) l_need_promise c_need_promise (c.fact 65) (Hd.isRef_ok (c.fact 66)) l_promise_place c_promise_place (c.fact 67) (Hd.isRef_ok (c.fact 68)) l__bound_place c__bound_place (c.fact 69) (Hd.isRef_ok (c.fact 70)) l__are_bounds c__are_bounds (c.fact 71) (Hd.isRef_ok (c.fact 72)) l__need_rows c__need_rows (c.fact 73) (Hd.isRef_ok (c.fact 74)) l__need_promises c__need_promises (c.fact 75) (Hd.isRef_ok (c.fact 76)) l_beneath c_beneath (c.fact 77) (Hd.isRef_ok (c.fact 78)) l_above c_above (c.fact 79) (Hd.isRef_ok (c.fact 80)) l_low c_low (c.fact 81) (Hd.isRef_ok (c.fact 82)) l_high c_high (c.fact 83) (Hd.isRef_ok (c.fact 84)) l_low_chain c_low_chain (c.fact 85) (Hd.isRef_ok (c.fact 86)) l_high_chain c_high_chain (c.fact 87) (Hd.isRef_ok (c.fact 88)) l_torn c_torn (c.fact 89) (Hd.isRef_ok (c.fact 90)) l_quick_pairs c_quick_pairs (c.fact 91) (Hd.isRef_ok (c.fact 92)) l__quick c__quick (c.fact 93) (Hd.isRef_ok (c.fact 94)) l__leads c__leads (c.fact 95) (Hd.isRef_ok (c.fact 96)) l__is_torn c__is_torn (c.fact 97) (Hd.isRef_ok (c.fact 98)) l__steps_to c__steps_to (c.fact 99) (Hd.isRef_ok (c.fact 100)) l__shortest_chain c__shortest_chain (c.fact 101) (Hd.isRef_ok (c.fact 102)) l__law_pot c__law_pot (c.fact 103) (Hd.isRef_ok (c.fact 104)) l__law_draw c__law_draw (c.fact 105) (Hd.isRef_ok (c.fact 106)) l__law_pick c__law_pick (c.fact 107) (Hd.isRef_ok (c.fact 108)) l__law_once c__law_once (c.fact 109) (Hd.isRef_ok (c.fact 110)) l__law_under c__law_under (c.fact 111) (Hd.isRef_ok (c.fact 112)) l__law_over c__law_over (c.fact 113) (Hd.isRef_ok (c.fact 114)) l__law_low c__law_low (c.fact 115) (Hd.isRef_ok (c.fact 116)) l__law_high c__law_high (c.fact 117) (Hd.isRef_ok (c.fact 118)) l__law_named c__law_named (c.fact 119) (Hd.isRef_ok (c.fact 120)) l__law_oaths c__law_oaths (c.fact 121) (Hd.isRef_ok (c.fact 122)) l__law_longer c__law_longer (c.fact 123) (Hd.isRef_ok (c.fact 124)) l__law_chain c__law_chain (c.fact 125) (Hd.isRef_ok (c.fact 126)) l__law_low_chain c__law_low_chain (c.fact 127) (Hd.isRef_ok (c.fact 128)) l__law_high_chain c__law_high_chain (c.fact 129) (Hd.isRef_ok (c.fact 130)) l__law_rule_right c__law_rule_right (c.fact 131) (Hd.isRef_ok (c.fact 132)) l__law_right c__law_right (c.fact 133) (Hd.isRef_ok (c.fact 134)) l_law c_law (c.fact 135) (He.eqO_ok (c.fact 136)) (He.eqO_ok (c.fact 137)) (He.eqO_ok (c.fact 138)) (He.eqO_ok (c.fact 139)) (He.eqO_ok (c.fact 140)) (He.eqO_ok (c.fact 141)) (He.eqO_ok (c.fact 142)) (He.eqO_ok (c.fact 143)) (He.eqO_ok (c.fact 144)) (He.eqO_ok (c.fact 145)) (He.eqO_ok (c.fact 146)) (He.eqO_ok (c.fact 147)) (He.eqO_ok (c.fact 148)) (He.eqO_ok (c.fact 149)) (He.eqO_ok (c.fact 150)) (He.eqO_ok (c.fact 151)) (He.eqO_ok (c.fact 152))
    exact ⟨K, fd, KX, hb, hF⟩
end
