import PyProof.Rows.All
import Wide.All
import OpenK.AllK
import Wide.FinOn
import HandS.ForMost
import HandS.Evl
import HandS.Property
import HandS.Star
import HandS.ClsMeth
import HandS.Defaults
import HandS.MakeKwOnly
import HandS.FStr
import HandS.Conv
import HandS.Gcd
import HandS.IsInst
import HandS.Wide
import PyProof.ReprRoads
import PyProof.ListNew
import PyProof.ListRange
import HandS.Style
import HandS.OwnEq
import HandS.More
import KE.KMathGC
import HandS.Exc
import HandS.ExcInit
import HandS.ExcField
import HandS.Sort
import HandS.ExcOwn
import HandS.WordsExc
import HandS.TupSets
import HandS.SetTxt0
import KE.KDictCopyH
import KE.SortData
import HandS.SortInts
import HandS.Deep
import HandS.Ends
import PySem.Challenge.RW_leadrules_k15_whole_rounds_and_pace
set_option Elab.async false
set_option linter.all false
set_option maxRecDepth 100000
section
set_option maxHeartbeats 2000000
namespace G
open PySem PySem.Spec PyProof.Rows L2

/-! ### a def's promise where no repr is running around it -/
structure FnG (P : Program) (w : World) (K : PySem.W.Frag) (mg : Str → Option Value) (base : Heap) (CX : CXT) (k : Nat) (f : Addr) (fd : FuncData) (ps : List Str) (sp : Sp) : Prop where
  len : ∀ vs H Q E, sp vs H Q E → vs.length = ps.length
  run : ∀ (A : Around) (outer : List Env) (s : Shared) (H : Hp) (args : Args) (us : List Value) (vs : List V) (Q : VK) (E : XK), A.guards = some [] → Room k A → Env0 P w K mg base A outer s H → BindsTo s fd args (ps.zip us) → Vals vs us → sp vs H Q E →
    codeAny (model P w) A (.call (.ref f) args) (CR CX outer P w H s Q E) s
theorem FnG.of {P : Program} {w : World} {K : PySem.W.Frag} {mg : Str → Option Value} {base : Heap} {CX : CXT} {k : Nat} {f : Addr} {fd : FuncData} {ps : List Str} {sp : Sp} (F : FnOk P w K mg base CX k f fd ps sp) : FnG P w K mg base CX k f fd ps sp :=
  ⟨F.len, fun A outer s H args us vs Q E _ => F.run A outer s H args us vs Q E⟩

theorem fnG_of {CX : CXT} {P : Program} {w : World} {K : PySem.W.Frag} {mg : Str → Option Value} {base : Heap} {k : Nat} {f : Addr} {name qual : Str} {params : Arguments} {body : List Stmt} {scope : Scope} {dV kV doc pm cdv ct oc : Value} {an od : Option Addr}
    {osl : Array (Option Value)} {N ps : List Str} {sp : Sp} (lk : K.lookup f = some ⟨oc, od, .func (PySem.W.fnOf name qual params body scope dV kV doc pm an cdv ct), osl⟩) (hcd : PySem.W.codeIn K cdv qual = true) (S : FnScope N ps scope)
    (len : ∀ vs H Q E, sp vs H Q E → vs.length = ps.length)
    (hbody : ∀ (A : Around) (outer : List Env) (s : Shared) (H : Hp) (vs : List V) (Q : VK) (E : XK), A.guards = some [] → Room k (A.deeper (envOfC qual scope s.heap.objs.size f cdv)) → sp vs H Q E →
      ∃ t, PSs (cxOf CX P w K mg base N qual scope f cdv A outer s H E) body t ∧ t { nx := fun _ H' => Q .non H', rt := Q } (start N vs) H) :
    FnG P w K mg base CX (k + 1) f (PySem.W.fnOf name qual params body scope dV kV doc pm an cdv ct) ps sp := by
  refine ⟨len, fun A outer s H args us vs Q E hgd hr e0 hb r hsp => ?_⟩
  have hl := len _ _ _ _ hsp
  have KX : K.In s.heap := e0.mod.kin.keeps fun b o e => (e0.bs b o e).1
  have lim : s.heap.NoLimit := e0.mod.nolimit.keeps fun b o e => (e0.bs b o e).1
  have hkind : ∀ y ∈ ps.zip us, scope.names.lookup y.1 = some .local ∨ (scope.names.lookup y.1 = some .cell ∧ ((cellsFrom (s.heap.objs.size + 1) scope.names []).lookup y.1).isSome = true) := fun ⟨n, v⟩ hy => by
    rcases S.par n (List.of_mem_zip hy).1 with q | q
    · exact .inl q
    · exact .inr ⟨q, PySem.W.cellsFrom_some _ _ _ (.inl q)⟩
  refine codeAny_call_function hr.depth (KX _ _ lk) rfl S.co S.gen rfl (PySem.W.codeRec_of KX hcd) (hb _ _ _ _ ?_)
  refine wpAny_newFunctionEnv_cells S.kind hkind fun env he s1 x => ?_
  subst he
  refine ⟨lim.keeps x.toInCall.keep, codeAny_func ?_⟩
  obtain ⟨t, ht, hq⟩ := hbody A outer s H vs Q E hgd (hr.deeper _) hsp
  have I : Inv (cxOf CX P w K mg base N qual scope f cdv A outer s H E) [] (start N vs) H s1 := inv_start S hr.hd e0 hl r x
  refine wpAny_mono (ht.run [] s1 (start N vs) H _ I hq) (fun fl s' hs => ?_) fun e s' hs => hs
  have fin : ∀ {σ' : L2.St} {H' : Hp} {v : V} {u : Value}, Inv (cxOf CX P w K mg base N qual scope f cdv A outer s H E) [] σ' H' s' → RelV v u → Q v H' → CE outer P w H s Q u s' :=
    fun {σ' H' v u} J rv q => ⟨v, H', J.os, J.bare, J.base, J.hok, rv, q⟩
  cases fl with
  | ret u =>
    obtain ⟨v, σ', H', J, rv, q⟩ := hs
    exact fin J rv q
  | next =>
    obtain ⟨σ', H', J, q⟩ := hs
    exact fin (v := V.non) (u := Value.none) J rfl q
  | brk =>
    obtain ⟨_, _, _, q⟩ := hs
    exact False.elim q
  | cont =>
    obtain ⟨_, _, _, q⟩ := hs
    exact False.elim q

theorem okG {P : Program} {w : World} {K : PySem.W.Frag} {mg : Str → Option Value} {base : Heap} {x qual : Str} {st : Stmt} {f : Addr} {fd : FuncData} {N ps : List Str} {k : Nat} {sp : Sp} (F : Fun K x qual st f fd) (S : FnScope N ps (defScope st)) (len : ∀ vs H Q E, sp vs H Q E → vs.length = ps.length)
    (hbody : ∀ (cdv : Value) (A : Around) (outer : List Env) (s : Shared) (H : Hp) (vs : List V) (Q : VK) (E : XK), A.guards = some [] → Room k (A.deeper (envOfC qual (defScope st) s.heap.objs.size f cdv)) → sp vs H Q E →
      ∃ t, PSs (cxOf CX0 P w K mg base N qual (defScope st) f cdv A outer s H E).nox (defBody st) t ∧ t { nx := fun _ H' => Q .non H', rt := Q } (start N vs) H) : FnG P w K mg base CX0 (k + 1) f fd ps sp := by
  obtain ⟨oc, od, kV, doc, pm, an, cdv, ct, osl, rfl, lk, hcd⟩ := F.ex
  refine fnG_of lk hcd S len fun A outer s H vs Q E hg hr hsp => ?_
  obtain ⟨t, h, q⟩ := hbody cdv A outer s H vs Q E hg hr hsp
  exact ⟨t, h.nox, q⟩

section
variable {X : Cx} {CX : CXT} {k n : Nat} {f C : Addr} {fd : FuncData} {ps ks : List Str} {sp : Sp} {dvs : List V} {ds : List Value} {E : XK} {x m : Str} {p pos apos : Pos} {e o : Expr} {es : List Expr} {kws : List Keyword} {ta : TE} {t tk : TA} {g : List Value → List Value → List Value} {gV : List V → List V → List V}
theorem run_fnG {pins : List (Addr × Obj)} {σ : L2.St} {H : Hp} {s : Shared} {Q : VK} {us : List Value} {vs : List V} (F : FnG X.prog X.w X.K X.mg X.base CX k f fd ps sp) (hgd : X.A.guards = some []) (hr : Room k X.A) (hb : Binds X.K fd ps ds) (hd : Vals dvs ds) (hx : Passes CX X E)
    (I : Inv X pins σ H s) (r : Vals vs us) (h : sp (vs ++ dvs) H Q E) : wpAny (model X.prog X.w) X.A (call (.ref f) us) (EP X pins σ Q) X.xe s := by
  have r2 : Vals (vs ++ dvs) (us ++ ds) := r.append hd
  have hl : (us ++ ds).length = ps.length := by rw [← r2.length]; exact F.len _ _ _ _ h
  refine wpAny_call (codeAny_mono (F.run X.A X.stack s H ⟨us, []⟩ (us ++ ds) (vs ++ dvs) Q E hgd hr I.env0 (hb s us I.kIn hl) r2 h) fun r s' hq => ?_)
  cases r with
  | error e => exact hx pins σ H s e s' I hq
  | ok fl =>
    cases fl with
    | ret u => exact I.after hq
    | next => exact False.elim hq
    | brk => exact False.elim hq
    | cont => exact False.elim hq
/-- f(e, ..) -/
theorem pe_callG (F : FnG X.prog X.w X.K X.mg X.base CX k f fd ps sp) (hgd : X.A.guards = some []) (hr : Room k X.A) (hg : Gl X x) (hm : X.mg x = some (.ref f)) (hk : PySem.W.keepIn X.K (.ref f) = true) (hb : Binds X.K fd ps ds) (hd : Vals dvs ds) (hx : Passes CX X E)
    (ha : PA X (e :: es) t) (hdb : (x == ("__debug__" : Str)) = false := by decide) (he : starEach (e :: es) X.env = (false, eval e X.env) :: starEach es X.env := by rfl) (hpl : (backTo pos (starEach es X.env)).any (·.1) = false := by rfl) :
    PE X (.Call (.Name x p) (e :: es) [] pos) (tCall sp dvs E t) := by
  refine ⟨fun pins s σ H Q I h => ?_⟩
  refine wpAny_Call_Name_kw (ld_glob I hg hm ?_ hdb)
  refine PySem.W.callWith_K (h₀ := X.base) I.ok.mod.kin hk (thn (ha.run pos pins s σ H _ I h) fun us s1 ⟨vs, H1, I1, r, q⟩ => ⟨I1.kIn, ?_⟩) he hpl
  exact run_fnG F hgd hr hb hd hx I1 r q
/-- o.m(k = v, ..) -/
def tMethN (C : Addr) (m : Str) (n j : Nat) (sp : Sp) (gV : List V → List V → List V) (E : XK) (ta : TE) (t tk : TA) : TE := fun σ H Q => ta σ H fun x H1 => ∃ a dx fs, x = .ref a ∧ H1 a = some (.ins C dx fs) ∧ fs.lookup m = none ∧
  t σ H1 fun vs H2 => tk σ H2 fun zs H3 => vs.length = n ∧ zs.length = j ∧ sp (gV (x :: vs) zs) H3 Q E
theorem pe_methN0 {pl : Sem Bool} (he : PE X o ta) (c : Cls X.K C) (hm : Meth X.K C m f) (F : FnOk X.prog X.w X.K X.mg X.base CX k f fd ps sp) (hr : Room k X.A) (hb : KBn X.K fd ps 1 ks g gV) (hx : Passes CX X E) (hkw : PK X kws tk)
    (hall : (backToKw pos (keywordEach kws X.env)).all (·.1.isSome) = true := by rfl) (hks : (backToKw pos (keywordEach kws X.env)).filterMap (·.1) = ks := by rfl)
    (hpl : ((backTo pos (starEach [] X.env)).any (·.1) || (backToKw pos (keywordEach kws X.env)).any (·.1.isNone)) = false := by rfl)
    (ht : eval (.Call (.Attribute o m apos) [] kws pos) X.env = (do
      let ov ← eval o X.env
      standAt apos.atName
      let (f, first) ← holding [ov] (getMethod ov m pl)
      callWith pos f first (backTo pos (starEach [] X.env)) (backToKw pos (keywordEach kws X.env))) := by rfl) :
    PE X (.Call (.Attribute o m apos) [] kws pos) (tMethN C m 0 ks.length sp gV E ta tNil tk) := by
  refine ⟨fun pins s σ H Q I h => ?_⟩
  refine PySem.W.methodCall_KW (pl := pl) (thn (he.run pins s σ H _ I h) fun u s1 ⟨x, H1, I1, rx, a, dx, fs, ex, ea, l, q⟩ => ?_) ht
  subst ex
  obtain rfl : u = Value.ref a := rx
  refine getmeth_ok I1 ea c hm l ?_
  refine PySem.W.callWith_KW0 (first := [.ref a]) (h₀ := X.base) I.ok.mod.kin hm.kp hall ?_ hpl
  refine thn (hkw.run pos pins s1 σ H1 _ I1 q) fun ws s2 ⟨zs, H2, I2, rz, l1, l2, q2⟩ => ⟨I2.kIn, ?_⟩
  rw [hks]
  exact run_fnN (us := [.ref a]) (vs := [.ref a]) F hr hb hx I2 (.cons rfl .nil) rz rfl l2 q2
end

/-! ### repr of data; repr of an own instance; {x} of data -/
mutual
theorem dp_nodict {K : PySem.W.Frag} {H : Hp} : ∀ {d : PyData} {v : V}, Dp K H v d → d.hasDict = false
  | .none, _, _ => by simp [PyData.hasDict]
  | .bool _, _, _ => by simp [PyData.hasDict]
  | .int _, _, _ => by simp [PyData.hasDict]
  | .str _, _, _ => by simp [PyData.hasDict]
  | .list ds, _, h => by
    cases h with
    | lst _ ha => simpa [PyData.hasDict] using dp_nodictAll ha
  | .tuple ds, _, h => by
    cases h with
    | tup _ ha => simpa [PyData.hasDict] using dp_nodictAll ha
  | .dict _, _, h => by cases h
theorem dp_nodictAll {K : PySem.W.Frag} {H : Hp} : ∀ {ds : List PyData} {vs : List V}, DpAll K H vs ds → PyData.hasDictAll ds = false
  | [], _, _ => by simp [PyData.hasDictAll]
  | d :: ds, _, h => by
    cases h with
    | cons h1 h2 => simp [PyData.hasDictAll, dp_nodict h1, dp_nodictAll h2]
end
def rRepr (K : PySem.W.Frag) : List V → Hp → VK → Prop := fun xs H Q => ∃ (a : Addr) (d : PyData), xs = [.ref a] ∧ Dp K H (.ref a) d ∧ d.showable = true ∧ d.depth ≤ 60 ∧ d.shown.length ≤ sizeLine ∧ Q (.str d.shown) H
theorem call_reprD {X : Cx} (hgd : X.A.guards = some []) (hu : X.A.units + 64 < cLine) : CallR X (.builtin "repr") (rRepr X.K) := by
  intro pins s σ H xs us Q I r h
  obtain ⟨a, d, rfl, hd, hs, hdp, hz, q⟩ := h
  obtain ⟨u, rfl, ru⟩ := vals1 r
  obtain rfl : u = Value.ref a := ru
  obtain ⟨as, hr⟩ := Dp.reads I d _ _ hd rfl
  refine repr_of_reads' hr hs (PyData.noDict_hsm (dp_nodict hd)) hgd (by omega) (fun _ _ e => e) (fun h' u tk hk => ?_) hz
  exact ⟨.str d.shown, H, I.kept hk, ⟨_, rfl⟩, q⟩
end G
end
section
set_option maxHeartbeats 2000000
namespace G
open PySem PySem.Spec PyProof.Rows L2
section
variable {X : Cx} {CX : CXT} {k : Nat} {f C : Addr} {fd : FuncData} {ps : List Str} {sp : Sp} {E : XK}
def rReprO (C : Addr) (sp : Sp) (E : XK) : List V → Hp → VK → Prop := fun xs H Q => ∃ (a dx : Addr) (fs : List (Str × V)), xs = [.ref a] ∧ H a = some (.ins C dx fs) ∧ sp [.ref a] H (fun v H' => (∃ y, v = .str y) ∧ Q v H') E
theorem call_reprO (hs : PySem.W.findIn X.K (.ref C) "__repr__" = some (some (.ref f))) (hf : PySem.W.isFn X.K (.ref f) = true) (FF : FnG X.prog X.w X.K X.mg X.base CX k f fd ps sp) (hgd : X.A.guards = some []) (hr : Room (k + 1) X.A)
    (hb : Binds X.K fd ps []) (hx : Passes CX X E) : CallR X (.builtin "repr") (rReprO C sp E) := by
  intro pins s σ H xs us Q I r h
  obtain ⟨a, dx, fs, rfl, ea, hsp⟩ := h
  obtain ⟨u, rfl, ru⟩ := vals1 r
  obtain rfl : u = Value.ref a := ru
  obtain ⟨mA, O, _, _, _, _⟩ := ins_get I.hok ea
  obtain ⟨od, J, _⟩ := O.look
  refine Calls.call_function_entry F.kind_repr F.plain_repr F.entry_repr (F.args_repr1 _) ?_
  unfold Builtin.«repr»
  refine wpAny_bind (m := oneArg "repr" _) (wpAny_pure ?_)
  refine wpAny_bind (m := cRoomFor _ _) (wpAny_cRoomFor (by have := hr.units; show X.A.units + 1 < cLine; omega) ?_)
  refine wpAny_bind ?_
  unfold specialOf
  refine wpAny_bind (J.type.here ((PySem.W.looks_findIn I.kIn hs).here ?_))
  show wpAny _ _ (if (some (Value.ref f)).isNone = true then _ else _) _ _ _
  rw [if_neg (by simp)]
  have hl : ([Value.ref a] ++ []).length = ps.length := by
    rw [← FF.len _ _ _ _ hsp] <;> rfl
  refine wpAny_bind (m := callSpecialIfBound? (.ref a) (Str.ofString "__repr__") _) (PySem.W.ifBound_K I.kIn J hs hf ?_)
  refine wpAny_call (codeAny_mono (FF.run X.A.in1 X.stack s H ⟨[.ref a], []⟩ [.ref a] [.ref a] _ E hgd hr.in1 I.env0.in1 (hb _ [.ref a] I.kIn hl) (.cons rfl .nil) hsp) fun r s' hq => ?_)
  cases r with
  | error er => exact hx pins σ H s er s' I hq
  | ok fl =>
    cases fl with
    | ret u =>
      obtain ⟨v, H', I3, rv, ⟨y, ey⟩, q3⟩ := I.after hq
      subst ey
      obtain ⟨tk, rfl⟩ := rv
      show wpAny _ _ _ _ _ _
      refine wpAny_bind (wpAny_isInstance (typeIs_str _ _ _) isSubtype_str_str ?_)
      first
        | exact wpAny_pure ⟨_, rfl, ⟨.str y, H', I3, ⟨tk, rfl⟩, q3⟩⟩
        | (rw [if_pos rfl]; exact wpAny_pure ⟨_, rfl, ⟨.str y, H', I3, ⟨tk, rfl⟩, q3⟩⟩)
        | (simp only [if_true]; exact wpAny_pure ⟨_, rfl, ⟨.str y, H', I3, ⟨tk, rfl⟩, q3⟩⟩)
    | next => exact False.elim hq
    | brk => exact False.elim hq
    | cont => exact False.elim hq

/-- {x} of data, as a text -/
def tFmtD (K : PySem.W.Frag) (te : TE) : TE := fun σ H Q => te σ H fun x H1 => ∃ (a : Addr) (d : PyData), x = .ref a ∧ Dp K H1 (.ref a) d ∧ d.showable = true ∧ d.depth ≤ 60 ∧ d.shown.length ≤ sizeLine ∧ Q (.str d.shown) H1
theorem pe_fmtD {e : Expr} {te : TE} {pos : Pos} (hgd : X.A.guards = some []) (hu : X.A.units + 64 < cLine) (he : PE X e te) : PE X (.FormattedValue e (-1) none pos) (tFmtD X.K te) := by
  refine ⟨fun pins s σ H Q I h => ?_⟩
  refine wpAny_FormattedValue_plain (thn (he.run pins s σ H _ I h) fun v s1 hv => ?_)
  obtain ⟨x, H1, I1, r1, a, d, rfl, hd, hs, hdp, hz, q⟩ := hv
  obtain rfl : v = Value.ref a := r1
  obtain ⟨as, hr⟩ := Dp.reads I1 d _ _ hd rfl
  exact formatField_of_reads hr hs (PyData.noDict_hsm (dp_nodict hd)) hgd (by omega) (fun _ _ e => e) (fun h' u tk hk => ⟨.str d.shown, H1, I1.kept hk, ⟨_, rfl⟩, q⟩) hz
end
end G
end
section
set_option maxHeartbeats 2000000
namespace G
open PySem PySem.Spec PyProof.Rows L2

/-! ### list(enumerate(xs)) -/
def enObj (f0 f1 : Value) (it : Addr) (i : Int) (old : Value) : Obj := { cls := .type "enumerate", dict := none, data := .fields #[f0, f1, .ref it, rawInt i, .none, old], slots := #[] }
def IsEn (h : Heap) (e it : Addr) (i : Int) : Prop := ∃ f0 f1 old, h.get? e = some (enObj f0 f1 it i old) ∧ (f0 = .none ∨ ∃ a : Addr, f0 = rawInt a)
section
variable {prog : Program} {w : World} {A : Around} {E : Value → Shared → Prop} {s : Shared}
theorem wpAny_loadIfAlive {a : Addr} {Q : Option Obj → Shared → Prop} (h : Q (s.heap.get? a) s) : wpAny (model prog w) A (loadIfAlive a) Q E s := fun Γ p _ => by
  show Sem.wp _ Γ (.loadIfAlive a .pure) _ _ p s
  rw [Sem.wp_loadIfAlive]
  exact h

theorem en_handOut {e it T : Addr} {i : Int} {f0 f1 old x : Value} {Q : Unit → Shared → Prop} (he : s.heap.get? e = some (enObj f0 f1 it i old))
    (hQ : ∀ h', h'.get? e = some (enObj (rawInt T) (.bool false) it i old) → Heap.SameBut e s.heap h' → Q () { s with heap := h' }) :
    wpAny (model prog w) A (Builtin.SmallTypes.ownedTupleHandOut (.ref e) (.ref T)) Q E s := by
  unfold Builtin.SmallTypes.ownedTupleHandOut
  refine wpAny_bind (wpAny_setField_rec he (by simp [enObj]) fun h₆ he₆ hs₆ => ?_)
  refine wpAny_setField_rec he₆ (by simp [enObj]) fun h₇ he₇ hs₇ => ?_
  refine hQ h₇ ?_ ?_
  · simpa [enObj] using he₇
  · exact ⟨by rw [hs₇.1, hs₆.1], fun b hb => (hs₇.2 b hb).trans (hs₆.2 b hb)⟩

theorem en_next {e it l : Addr} {i : Nat} {items : Array Value} {x : Value} {Q : Value → Shared → Prop}
    (he : IsEn s.heap e it i) (hit : s.heap.IsListIter it l i) (hl : s.heap.IsList l items) (hx : items[i]? = some x) (hne : e ≠ it)
    (hQ : ∀ h', IsEn h' e it ((i : Int) + 1) → h'.IsListIter it l (i + 1) →
      h'.get? s.heap.objs.size = some { cls := .type "tuple", data := .seq #[.int i s.toks, x] } → 
      (∀ b o, b ≠ e → b ≠ it → s.heap.get? b = some o → h'.get? b = some o) → Q (.ref s.heap.objs.size) { s with heap := h', toks := s.toks + 1 }) :
    wpAny (model prog w) A (Builtin.«enumerate.__next__» ⟨[.ref e], []⟩) (fun fin s' => ∃ v, fin = .done (.ret v) ∧ Q v s') E s := by
  obtain ⟨f0, f1, old, he, hf0⟩ := he
  obtain ⟨hp, g, d, tk, os⟩ := s
  show wpAny _ _ (field (.ref e) 2 >>= _) _ _ _
  refine wpAny_bind (wpAny_field he rfl (x := .ref it) rfl ?_)
  refine wpAny_bind (wpAny_nextOf_list_item hit hl hx fun h₁ hit₁ hs₁ => ?_)
  replace hs₁ : Heap.SameBut it hp h₁ := hs₁
  have he₁ : h₁.get? e = some (enObj f0 f1 it i old) := (hs₁.2 e hne).trans he
  show wpAny _ _ (field (.ref e) 3 >>= _) _ _ ⟨h₁, g, d, tk, os⟩
  refine wpAny_bind (wpAny_field he₁ rfl (x := rawInt i) rfl ?_)
  show wpAny _ _ (field (.ref e) 4 >>= _) _ _ ⟨h₁, g, d, tk, os⟩
  refine wpAny_bind (wpAny_field he₁ rfl (x := .none) rfl ?_)
  show wpAny _ _ (mkInt i >>= _) _ _ ⟨h₁, g, d, tk, os⟩
  refine wpAny_bind (wpAny_mkInt ?_)
  show wpAny _ _ (setField (.ref e) 3 (rawInt ((i : Int) + 1)) >>= _) _ _ ⟨h₁, g, d, tk + 1, os⟩
  refine wpAny_bind (wpAny_setField_rec he₁ (by simp) fun h₂ he₂ hs₂ => ?_)
  replace hs₂ : Heap.SameBut e h₁ h₂ := hs₂
  replace he₂ : h₂.get? e = some (enObj f0 f1 it ((i : Int) + 1) old) := he₂
  show wpAny _ _ (setField (.ref e) 4 .none >>= _) _ _ ⟨h₂, g, d, tk + 1, os⟩
  refine wpAny_bind (wpAny_setField_rec he₂ (by simp) fun h₃ he₃ hs₃ => ?_)
  replace hs₃ : Heap.SameBut e h₂ h₃ := hs₃
  replace he₃ : h₃.get? e = some (enObj f0 f1 it ((i : Int) + 1) old) := he₃
  show wpAny _ _ (newTuple [.int i tk, x] >>= _) _ _ ⟨h₃, g, d, tk + 1, os⟩
  refine wpAny_bind (wpAny_newTuple ?_)
  have he₄ : (h₃.push { cls := .type "tuple", data := .seq #[.int i tk, x] }).get? e = some (enObj f0 f1 it ((i : Int) + 1) old) := Heap.get?_push_of_some _ he₃
  generalize hh₄ : h₃.push { cls := .type "tuple", data := .seq #[.int i tk, x] } = h₄ at he₄
  have hsz : h₃.objs.size = hp.objs.size := by rw [hs₃.1, hs₂.1, hs₁.1]
  have hel : e < hp.objs.size := Heap.lt_size he
  have ht₄ : h₄.get? hp.objs.size = some { cls := .type "tuple", data := .seq #[.int i tk, x] } := by rw [← hh₄, ← hsz]; exact Heap.get?_push_size _ rfl
  have hk₄ : ∀ b o, b ≠ e → b ≠ it → hp.get? b = some o → h₄.get? b = some o := fun b o hbe hbi hb => by
    rw [← hh₄]; exact Heap.get?_push_of_some _ (hs₃.extBut b o hbe (hs₂.extBut b o hbe (hs₁.extBut b o hbi hb)))
  have hit₄ : h₄.IsListIter it l (i + 1) := by
    rw [← hh₄]; obtain ⟨o, ho, r⟩ := (hit₁.extBut hs₂.extBut (Ne.symm hne)).extBut hs₃.extBut (Ne.symm hne); exact ⟨o, Heap.get?_push_of_some _ ho, r⟩
  show wpAny _ _ (Builtin.SmallTypes.ownedTupleIsFree (.ref e) >>= _) _ _ ⟨h₄, g, d, tk + 1, os⟩
  rw [hsz]
  clear hh₄ he₃ hs₃ he₂ hs₂ he₁ hs₁ hit₁ hsz h₃ h₂ h₁
  -- the tuple that is free is handed out, and the object is as before otherwise
  have free : wpAny (model prog w) A (do
      rule "enumerate.__next__.owned-tuple-again"
      let old ← field (.ref e) 5
      setField (.ref e) 5 x
      Builtin.SmallTypes.ownedTupleHandOut (.ref e) (.ref hp.objs.size)
      letGo [old] [.ref hp.objs.size]
      ret (.ref hp.objs.size)) (fun fin s' => ∃ v, fin = .done (.ret v) ∧ Q v s') E ⟨h₄, g, d, tk + 1, os⟩ := by
    refine wpAny_bind (wpAny_rule ?_)
    refine wpAny_bind (wpAny_field he₄ rfl (x := old) rfl ?_)
    refine wpAny_bind (wpAny_setField_rec he₄ (by simp [enObj]) fun h₅ he₅ hs₅ => ?_)
    replace hs₅ : Heap.SameBut e h₄ h₅ := hs₅
    replace he₅ : h₅.get? e = some (enObj f0 f1 it ((i : Int) + 1) x) := he₅
    refine wpAny_bind (en_handOut (x := x) he₅ fun h₇ he₇ hs₇ => ?_)
    replace hs₇ : Heap.SameBut e h₅ h₇ := hs₇
    refine wpAny_bind (wpAny_letGo (wpAny_pure ⟨_, rfl, hQ h₇ ⟨_, _, _, he₇, .inr ⟨_, rfl⟩⟩ ?_ ?_ ?_⟩))
    · exact (hit₄.extBut hs₅.extBut (Ne.symm hne)).extBut hs₇.extBut (Ne.symm hne)
    · exact hs₇.extBut _ _ (Nat.ne_of_gt hel) (hs₅.extBut _ _ (Nat.ne_of_gt hel) ht₄)
    · exact fun b o hbe hbi hb => hs₇.extBut b o hbe (hs₅.extBut b o hbe (hk₄ b o hbe hbi hb))
  refine wpAny_bind ?_
  unfold Builtin.SmallTypes.ownedTupleIsFree
  rcases hf0 with rfl | ⟨a, rfl⟩
  · refine wpAny_bind (wpAny_field he₄ rfl (x := .none) rfl (wpAny_pure ?_))
    simp only [if_true]
    exact free
  · refine wpAny_bind (wpAny_field he₄ rfl (x := rawInt a) rfl ?_)
    show wpAny _ _ (loadIfAlive (Int.toNat (a : Int)) >>= _) _ _ _
    refine wpAny_bind (wpAny_loadIfAlive ?_)
    cases hal : h₄.get? (Int.toNat (a : Int)) with
    | none =>
      simp only [Option.isNone_none, if_true]
      refine wpAny_pure ?_
      simp only [if_true]
      exact free
    | some oa =>
      simp only [Option.isNone_some, Bool.false_eq_true, if_false]
      refine wpAny_bind (wpAny_field he₄ rfl (x := f1) rfl ?_)
      have fin : ∀ h₅ : Heap, IsEn h₅ e it ((i : Int) + 1) → Heap.SameBut e h₄ h₅ → ∃ v, Fin.done (Flow.ret (.ref hp.objs.size)) = .done (.ret v) ∧ Q v ⟨h₅, g, d, tk + 1, os⟩ := fun h₅ he₅ hs₅ => by
        refine ⟨_, rfl, hQ h₅ he₅ ?_ ?_ ?_⟩
        · exact hit₄.extBut hs₅.extBut (Ne.symm hne)
        · exact hs₅.extBut _ _ (Nat.ne_of_gt hel) ht₄
        · exact fun b o hbe hbi hb => hs₅.extBut b o hbe (hk₄ b o hbe hbi hb)
      by_cases hb : (f1 != .bool true) = true
      · rw [if_pos hb]
        refine wpAny_bind (wpAny_setField_rec he₄ (by simp [enObj]) fun h₅ he₅ hs₅ => ?_)
        refine wpAny_pure ?_
        simp only [Bool.false_eq_true, if_false]
        exact wpAny_pure (fin h₅ ⟨_, _, _, (by simpa [enObj] using he₅), .inr ⟨_, rfl⟩⟩ hs₅)
      · rw [if_neg hb]
        refine wpAny_bind (wpAny_pure (wpAny_pure ?_))
        simp only [Bool.false_eq_true, if_false]
        exact wpAny_pure (fin h₄ ⟨_, _, _, he₄, .inr ⟨_, rfl⟩⟩ ⟨rfl, fun _ _ => rfl⟩)
end
end G
end
section
set_option maxHeartbeats 2000000
namespace G
open PySem PySem.Spec PyProof.Rows L2
namespace F
theorem enum_no_len : typeLookup (.type "enumerate") "__len__" = pure none := by rw [typeLookup_type, builtinLookup_eq_fast]; kernel_rfl
theorem enum_no_hint : typeLookup (.type "enumerate") "__length_hint__" = pure none := by rw [typeLookup_type, builtinLookup_eq_fast]; kernel_rfl
end F
section
variable {prog : Program} {w : World} {A : Around} {E : Value → Shared → Prop} {s : Shared} {R : Result → Shared → Prop}
theorem IsEn.typeIs {e it : Addr} {i : Int} (he : IsEn s.heap e it i) : s.TypeIs (.ref e) "enumerate" := by
  obtain ⟨f0, f1, old, he, _⟩ := he
  exact ⟨_, he, rfl⟩
theorem en_pyNext {e it l : Addr} {i : Nat} {items : Array Value} {x : Value} {Q : Option Value → Shared → Prop}
    (he : IsEn s.heap e it i) (hit : s.heap.IsListIter it l i) (hl : s.heap.IsList l items) (hx : items[i]? = some x) (hne : e ≠ it)
    (hQ : ∀ h', IsEn h' e it ((i : Int) + 1) → h'.IsListIter it l (i + 1) →
      h'.get? s.heap.objs.size = some { cls := .type "tuple", data := .seq #[.int i s.toks, x] } → 
      (∀ b o, b ≠ e → b ≠ it → s.heap.get? b = some o → h'.get? b = some o) → Q (some (.ref s.heap.objs.size)) { s with heap := h', toks := s.toks + 1 }) :
    wpAny (model prog w) A (pyNext (.ref e)) Q E s := by
  have hT := he.typeIs
  unfold pyNext
  exact wpAny_bind (wpAny_attempt (wpAny_callSpecial?_slot (name := Str.ofString "__next__") hT PySem.F.slot_enumerate_next
    (wpAny_call_entry PySem.F.slot_enumerate_next hT PySem.F.entry_enumerate_next
      (en_next he hit hl hx hne fun h' a b c k => wpAny_pure (hQ h' a b c k)) (PySem.F.args_enumerate_next_1 _))))
theorem en_pyEnd {e it l : Addr} {i : Nat} {items : Array Value} {Q : Option Value → Shared → Prop} (hh : A.handled = none)
    (he : IsEn s.heap e it i) (hit : s.heap.IsListIter it l i) (hl : s.heap.IsList l items) (hx : items[i]? = none)
    (hQ : ∀ h', Heap.ExtBut it s.heap h' → Q none { s with heap := h' }) : wpAny (model prog w) A (pyNext (.ref e)) Q E s := by
  have hT := he.typeIs
  obtain ⟨f0, f1, old, he, _⟩ := he
  unfold pyNext
  refine wpAny_bind (wpAny_attempt (wpAny_callSpecial?_slot (name := Str.ofString "__next__") hT PySem.F.slot_enumerate_next
    (wpAny_call_entry PySem.F.slot_enumerate_next hT PySem.F.entry_enumerate_next ?_ (PySem.F.args_enumerate_next_1 _))))
  show wpAny _ _ (field (.ref e) 2 >>= _) _ _ _
  refine wpAny_bind (wpAny_field he rfl (x := .ref it) rfl ?_)
  refine wpAny_bind (wpAny_nextOf_list_end hh hit hl hx fun h' x he' hx' => ?_)
  obtain ⟨o, ho, hc⟩ := hx'
  refine wpAny_bind (wpAny_isInstance (T := "StopIteration") (b := true) ⟨o, ho, hc⟩ isSubtype_stop ?_)
  exact wpAny_pure (hQ _ he')

theorem en_pyIter {e it : Addr} {i : Int} {Q : Value → Shared → Prop} (he : IsEn s.heap e it i) (h : Q (.ref e) s) : wpAny (model prog w) A (pyIter (.ref e)) Q E s := by
  have hT := he.typeIs
  refine wpAny_pyIter_slot hT PySem.F.slot_enumerate_iter (wpAny_call_entry PySem.F.slot_enumerate_iter hT PySem.F.entry_enumerate_iter ?_ (PySem.F.args_enumerate_iter_1 _))
  show wpAny _ _ (ret (.ref e)) _ _ s
  exact wpAny_pure ⟨_, rfl, "enumerate", _, hT, PySem.F.slot_enumerate_next.lookup, h⟩
/-- the tuples made so far -/
def Tups (h : Heap) (acc items : Array Value) (n B : Nat) : Prop := acc.size = n ∧ ∀ j, j < n → ∃ (T : Addr) (tk : Tok) (x : Value), acc[j]? = some (.ref T) ∧ items[j]? = some x ∧ B ≤ T ∧ h.get? T = some { cls := .type "tuple", data := .seq #[.int j tk, x] }

theorem en_loop {e it l S : Addr} {items : Array Value} {res : Value} (hh : A.handled = none) (hei : e ≠ it) (hle : l ≠ e) (hli : l ≠ it) (hSe : S ≠ e) (hSi : S ≠ it) (hSl : S ≠ l) (hn : items.size ≤ sizeLine) {B : Nat} (hBe : e < B) (hBi : it < B) (hBS : S < B) :
    ∀ (k i : Nat) (s : Shared) (acc : Array Value) (c : Nat), items.size - i = k → i ≤ items.size → B ≤ s.heap.objs.size → IsEn s.heap e it i → s.heap.IsListIter it l i → s.heap.IsList l items →
    s.heap.get? S = some { cls := .type "list", dict := none, data := .seq acc c, slots := #[] } → Tups s.heap acc items i B →
    (∀ h' tk acc' c', (∀ b o, b ≠ S → b ≠ e → b ≠ it → s.heap.get? b = some o → h'.get? b = some o) → h'.get? S = some { cls := .type "list", dict := none, data := .seq acc' c', slots := #[] } → Tups h' acc' items items.size B → R (.ok (.ret res)) { s with heap := h', toks := tk }) →
    codeAny (model prog w) A (.builtin "list.extend.loop" ⟨[.ref S, .ref e, res], []⟩) R s := by
  intro k
  induction k with
  | zero =>
    intro i s acc c hk hi hB he hit hl hS hT hR
    have hin : i = items.size := by omega
    subst hin
    refine codeAny_builtin PySem.F.entry_extend_loop ?_
    rw [Around.under_plainId PySem.F.plain_extend_loop _]
    show wpAny _ A.in1 (pyNext (.ref e) >>= _) _ _ s
    refine wpAny_bind (en_pyEnd (A := A.in1) hh he hit hl (Array.getElem?_eq_none (Nat.le_refl _)) fun h' hx => ?_)
    refine wpAny_pure (hR h' s.toks acc c (fun b o _ _ hb q => hx b o hb q) (hx S _ hSi hS) ⟨hT.1, fun j hj => ?_⟩)
    obtain ⟨T, tk, x, a1, a2, a3, a4⟩ := hT.2 j hj
    exact ⟨T, tk, x, a1, a2, a3, hx T _ (Nat.ne_of_gt (Nat.lt_of_lt_of_le hBi a3)) a4⟩
  | succ k ih =>
    intro i s acc c hk hi hB he hit hl hS hT hR
    have hlt : i < items.size := by omega
    refine codeAny_builtin PySem.F.entry_extend_loop ?_
    rw [Around.under_plainId PySem.F.plain_extend_loop _]
    show wpAny _ A.in1 (pyNext (.ref e) >>= _) _ _ s
    have hx : items[i]? = some items[i] := Array.getElem?_eq_getElem hlt
    refine wpAny_bind (en_pyNext (A := A.in1) he hit hl hx hei fun h' he' hit' hT' hk' => ?_)
    have hS' := hk' S _ hSe hSi hS
    show wpAny _ A.in1 (updateSeq S (·.push (.ref s.heap.objs.size)) >>= _) _ _ _
    refine wpAny_bind ?_
    have hSz : S ≠ s.heap.objs.size := Nat.ne_of_lt (Heap.lt_size hS)
    have oth : ∀ b o, b ≠ S → h'.get? b = some o → (h'.update S (Obj.mapSeq (·.push (Value.ref s.heap.objs.size)))).get? b = some o := fun b o hb q => (Heap.get?_update_other _ _ (Ne.symm hb)).trans q
    refine wpAny_updateSeq hS' rfl (wpAny_pure ⟨plainId_quiet PySem.F.plain_extend_loop _, ih (i + 1) _ (acc.push (.ref s.heap.objs.size)) _ (by omega) hlt ?hB ?he ?hit ?hl (Heap.get?_update_self _ hS' rfl) ?hT ?hR⟩) (by rw [hT.1]; exact Nat.le_trans hi hn) (by show (acc.push _).size ≤ sizeLine + 1; rw [Array.size_push, hT.1]; exact Nat.succ_le_succ (Nat.le_trans hi hn))
    case hB =>
      have q := Heap.lt_size (oth _ _ hSz.symm hT')
      exact Nat.le_trans hB (Nat.le_of_lt q)
    case he =>
      obtain ⟨f0, f1, old, q, r⟩ := he'
      exact ⟨f0, f1, old, by
        show (h'.update S _).get? e = _
        have e1 : (((i + 1 : Nat)) : Int) = (i : Int) + 1 := by omega
        rw [e1]
        exact oth e _ hSe.symm q, r⟩
    case hit => exact hit'.at fun o q => oth it o hSi.symm q
    case hl => exact hl.at fun o q => oth l o hSl.symm (hk' l o hle hli q)
    case hT =>
      refine ⟨by rw [Array.size_push, hT.1], fun j hj => ?_⟩
      by_cases hji : j < i
      · obtain ⟨T, tk, x, a1, a2, a3, a4⟩ := hT.2 j hji
        refine ⟨T, tk, x, ?_, a2, a3, oth T _ (Nat.ne_of_gt (Nat.lt_of_lt_of_le hBS a3)) (hk' T _ (Nat.ne_of_gt (Nat.lt_of_lt_of_le hBe a3)) (Nat.ne_of_gt (Nat.lt_of_lt_of_le hBi a3)) a4)⟩
        rw [Array.getElem?_push, if_neg (by rw [hT.1]; omega)]
        exact a1
      · have hje : j = i := by omega
        subst hje
        refine ⟨s.heap.objs.size, s.toks, _, ?_, hx, hB, oth _ _ hSz.symm hT'⟩
        rw [Array.getElem?_push, if_pos hT.1.symm]
    case hR =>
      intro h2 tk2 acc2 c2 hk2 hS2 hT2
      exact hR h2 tk2 acc2 c2 (fun b o b1 b2 b3 q => hk2 b o b1 b2 b3 (oth b o b1 (hk' b o b2 b3 q))) hS2 hT2

theorem en_init {e it l S : Addr} {items : Array Value} (hh : A.handled = none) (hei : e ≠ it) (hle : l ≠ e) (hli : l ≠ it) (hSe : S ≠ e) (hSi : S ≠ it) (hSl : S ≠ l) (hn : items.size ≤ sizeLine)
    (he : IsEn s.heap e it 0) (hit : s.heap.IsListIter it l 0) (hl : s.heap.IsList l items) (hS : s.heap.get? S = some { cls := .type "list", data := .seq #[] })
    (hR : ∀ h' tk acc' c', (∀ b o, b ≠ S → b ≠ e → b ≠ it → s.heap.get? b = some o → h'.get? b = some o) → h'.get? S = some { cls := .type "list", dict := none, data := .seq acc' c', slots := #[] } → Tups h' acc' items items.size s.heap.objs.size → R (.ok (.ret .none)) { s with heap := h', toks := tk }) :
    wpAny (model prog w) A.in1 (Builtin.«list.__init__» ⟨[.ref S, .ref e], []⟩)
      (fun fin s' => match fin with | .done f => R (.ok f) s' | .again c' => c'.quiet = true ∧ codeAny (model prog w) A c' R s') (fun e s' => R (.error e) s') s := by
  show wpAny _ A.in1 (do let old ← Builtin.List.listItems (.ref S); Builtin.List.listUpdate (.ref S) (fun _ => #[]); letGo old.toList.reverse; Builtin.List.listExtendWith (.ref S) (.ref e) .none) _ _ s
  refine wpAny_bind ?_
  unfold Builtin.List.listItems
  refine wpAny_bind (wpAny_seqItems hS rfl (wpAny_pure ?_))
  show wpAny _ A.in1 (updateSeq S (fun _ => #[]) >>= fun _ => letGo (#[] : Array Value).toList.reverse >>= fun _ => Builtin.List.listExtendWith (.ref S) (.ref e) .none) _ _ s
  refine wpAny_bind (wpAny_updateSeq hS rfl ?_)
  have hS₂ := Heap.get?_update_self (Obj.mapSeq (fun _ => (#[] : Array Value))) hS rfl
  have oth : ∀ b o, b ≠ S → s.heap.get? b = some o → (s.heap.update S (Obj.mapSeq (fun _ => (#[] : Array Value)))).get? b = some o :=
    fun b o hb e => (Heap.get?_update_other _ _ (Ne.symm hb)).trans e
  have en2 : ∀ {h h' : Heap}, (∀ o, h.get? e = some o → h'.get? e = some o) → IsEn h e it 0 → IsEn h' e it 0 := fun k ⟨f0, f1, old, q, r⟩ => ⟨f0, f1, old, k _ q, r⟩
  refine wpAny_bind (wpAny_letGo ?_)
  have he₂ := en2 (fun o q => oth e o hSe.symm q) he
  unfold Builtin.List.listExtendWith
  refine wpAny_bind (wpAny_typeOf (IsEn.typeIs (s := { s with heap := s.heap.update S (Obj.mapSeq (fun _ => (#[] : Array Value))) }) he₂) ?_)
  have h1 : Builtin.List.listSameRef (.ref S) (.ref e) = false := by simp [Builtin.List.listSameRef, hSe]
  have h2 : (Value.type "enumerate" == Value.type "list") = false := by decide
  have h3 : (Value.type "enumerate" == Value.type "tuple") = false := by decide
  simp only [h1, h2, h3, Bool.or_false, Bool.false_eq_true, if_false]
  have he3 := he₂
  obtain ⟨f0, f1, old, q0, r0⟩ := he3
  refine wpAny_bind (en_pyIter (s := { s with heap := s.heap.update S (Obj.mapSeq (fun _ => (#[] : Array Value))) }) he₂ ?_)
  refine wpAny_bind (wpAny_holding ?_)
  unfold Builtin.List.listLengthHint
  refine wpAny_bind (wpAny_specialOf (IsEn.typeIs (s := { s with heap := s.heap.update S (Obj.mapSeq (fun _ => (#[] : Array Value))) }) he₂) F.enum_no_len ?_)
  show wpAny _ A.in1 (specialOf (Value.ref e) (Str.ofString "__length_hint__") >>= _) _ _ _
  refine wpAny_bind (wpAny_specialOf (IsEn.typeIs (s := { s with heap := s.heap.update S (Obj.mapSeq (fun _ => (#[] : Array Value))) }) he₂) F.enum_no_hint ?_)
  refine wpAny_pure ?_
  show wpAny _ A.in1 (rule "list.extend.makes-room" >>= fun _ => Builtin.List.listTouch (.ref S) >>= fun _ =>
    again (.builtin "list.extend.loop" ⟨[.ref S, .ref e, .none], []⟩)) _ _ _
  refine wpAny_bind (wpAny_rule ?_)
  refine wpAny_bind ?_
  show wpAny _ A.in1 (updateSeq S (·.push .none) >>= fun _ => updateSeq S (·.pop)) _ _ _
  refine wpAny_bind (wpAny_updateSeq hS₂ rfl ?_)
  have hS₃ := Heap.get?_update_self (Obj.mapSeq (·.push Value.none)) hS₂ rfl
  refine wpAny_updateSeq (hz := by seq_fits) hS₃ rfl ?_
  have hS₄ := Heap.get?_update_self (Obj.mapSeq (·.pop)) hS₃ rfl
  have oth2 : ∀ b o, b ≠ S → s.heap.get? b = some o → (((s.heap.update S (Obj.mapSeq (fun _ => (#[] : Array Value)))).update S (Obj.mapSeq (·.push Value.none))).update S (Obj.mapSeq (·.pop))).get? b = some o :=
    fun b o hb q => (Heap.get?_update_other _ _ (Ne.symm hb)).trans ((Heap.get?_update_other _ _ (Ne.symm hb)).trans (oth b o hb q))
  have hlt : ∀ b o, s.heap.get? b = some o → b < s.heap.objs.size := fun b o q => Heap.lt_size q
  obtain ⟨_, _, _, qe, _⟩ := id he
  obtain ⟨oi, qi, _⟩ := id hit
  refine wpAny_pure ⟨plainId_quiet PySem.F.plain_extend_loop _, en_loop hh hei hle hli hSe hSi hSl hn (hlt _ _ qe) (hlt _ _ qi) (hlt _ _ hS) items.size 0 _ _ _ rfl (Nat.zero_le _) ?_
    (en2 (fun o q => oth2 e o hSe.symm q) he) (hit.at fun o q => oth2 it o hSi.symm q) (hl.at fun o q => oth2 l o hSl.symm q) hS₄ ⟨rfl, fun j hj => absurd hj (Nat.not_lt_zero _)⟩ fun h' tk acc' c' hk hS' hT => ?_⟩
  · show _ ≤ (((s.heap.update S _).update S _).update S _).objs.size
    simp
  · exact hR h' tk acc' c' (fun b o b1 b2 b3 q => hk b o b1 b2 b3 (oth2 b o b1 q)) hS' hT
end
end G
end
section
set_option maxHeartbeats 2000000
namespace G
open PySem PySem.Spec PyProof.Rows L2
section
variable {prog : Program} {w : World} {A : Around} {E : Value → Shared → Prop} {s : Shared}
theorem call_list_enum {e it l : Addr} {items : Array Value} {Q : Value → Shared → Prop} (hh : A.handled = none) (hei : e ≠ it) (hle : l ≠ e) (hli : l ≠ it) (hn : items.size ≤ sizeLine)
    (he : IsEn s.heap e it 0) (hit : s.heap.IsListIter it l 0) (hl : s.heap.IsList l items)
    (hQ : ∀ h' tk acc' c', (∀ b o, b ≠ e → b ≠ it → s.heap.get? b = some o → h'.get? b = some o) → h'.get? s.heap.objs.size = some { cls := .type "list", dict := none, data := .seq acc' c', slots := #[] } →
      Tups h' acc' items items.size (s.heap.objs.size + 1) → Q (.ref s.heap.objs.size) { s with heap := h', toks := tk }) :
    wpAny (model prog w) A (call (.type "list") [.ref e]) Q E s := by
  obtain ⟨_, _, _, qe, _⟩ := id he
  obtain ⟨oi, qi, _⟩ := id hit
  obtain ⟨ol, ql, _⟩ := id hl
  have lt : ∀ {b : Addr} {o : Obj}, s.heap.get? b = some o → s.heap.objs.size ≠ b := fun q => Nat.ne_of_gt (Heap.lt_size q)
  refine callType_codes (Q₁ := fun obj s₁ => obj = .ref s.heap.objs.size ∧ s₁ = { s with heap := s.heap.push { cls := .type "list", data := .seq #[] } }) PySem.F.called_list (PySem.F.typeCall_list_1 _) PySem.F.entry_list_init
    (code_list_new _ ⟨rfl, rfl⟩) fun obj s₁ h₁ => ?_
  obtain ⟨rfl, rfl⟩ := h₁
  have hS : (s.heap.push { cls := .type "list", data := .seq #[] }).get? s.heap.objs.size = some { cls := .type "list", data := .seq #[] } := Heap.get?_push_size _ rfl
  refine ⟨⟨_, hS, rfl⟩, PySem.F.args_list_init_2 _ _, en_init (s := { s with heap := s.heap.push { cls := .type "list", data := .seq #[] } }) (A := A.in1) hh hei hle hli (lt qe) (lt qi) (lt ql) hn ?_
    (hit.at fun o q => Heap.get?_push_of_some _ q) (hl.at fun o q => Heap.get?_push_of_some _ q) hS fun h' tk acc' c' hk hS' hT => ?_⟩
  · obtain ⟨f0, f1, old, q, r⟩ := he
    exact ⟨f0, f1, old, Heap.get?_push_of_some _ q, r⟩
  · refine ⟨rfl, hQ h' tk acc' c' (fun b o b1 b2 q => hk b o (lt q).symm b1 b2 (Heap.get?_push_of_some _ q)) hS' ?_⟩
    have e1 : (s.heap.push { cls := .type "list", data := .seq #[] }).objs.size = s.heap.objs.size + 1 := Heap.size_push ..
    rw [← e1]
    exact hT
end

open Classical in
/-- what is new: the list at S, a pair for each item -/
noncomputable def enH (H : Hp) (S : Addr) (acc : List Addr) (xs : List V) : Hp := fun b =>
  if b = S then some (.lst (acc.map V.ref)) else if h : ∃ (j : Nat) (x : V), acc[j]? = some b ∧ xs[j]? = some x then some (.tup [.int ((Classical.choose h : Nat) : Int), Classical.choose (Classical.choose_spec h)]) else H b

section
variable {X : Cx}
def tListEn (K : PySem.W.Frag) (te : TE) : TE := fun σ H Q => te σ H fun x H1 => ∃ (a : Addr) (xs : List V), x = .ref a ∧ SqL K H1 a xs ∧
  ∀ (l : Addr) (ts : List Addr) (H2 : Hp), H1 l = none → Evl.Ex H1 H2 → H2 l = some (.lst (ts.map V.ref)) → ts.length = xs.length → (∀ (j : Nat) (T : Addr) (x : V), ts[j]? = some T → xs[j]? = some x → H2 T = some (.tup [.int (j : Int), x])) → Q (.ref l) H2
theorem pe_listEn {e : Expr} {te : TE} {p pos p2 pos2 : Pos} (hc : X.calm = true) (hg : Gl X "list") (hm : X.mg "list" = none) (hg2 : Gl X "enumerate") (hm2 : X.mg "enumerate" = none) (ha : PE X e te)
    (na2 : starEach [e] X.env = (false, eval e X.env) :: starEach [] X.env := by rfl)
    (na : starEach [.Call (.Name "enumerate" p2) [e] [] pos2] X.env = (false, eval (.Call (.Name "enumerate" p2) [e] [] pos2) X.env) :: starEach [] X.env := by rfl) :
    PE X (.Call (.Name "list" p) [.Call (.Name "enumerate" p2) [e] [] pos2] [] pos) (tListEn X.K te) := by
  refine ⟨fun pins s σ H Q I h => ?_⟩
  refine Call_ (ld_blt I hg hm boot_list (PyProof.Rows.callWith_type1 (args_cons ?_ na) na))
  refine Call_ (ld_blt I hg2 hm2 boot_enumerate (PyProof.Rows.callWith_type1 (one_arg ha I h (fun v s1 x H1 I1 r q => ?_) na2) na2))
  obtain ⟨a, xs, rfl, hs, q⟩ := q
  obtain rfl : v = Value.ref a := r
  obtain ⟨its, rv, pl, hz⟩ := I1.list hs
  have lits : its.length = xs.length := rv.length.symm
  refine call_enumerate_list pl.isList fun h1 he hit hsz hk => args_nil ?_
  have hal : a < s1.heap.objs.size := by obtain ⟨o, q, _⟩ := pl.isList; exact Heap.lt_size q
  refine call_list_enum (s := { s1 with heap := h1 }) (A := X.A) (I1.ok.hd hc) (Nat.succ_ne_self _) (Nat.ne_of_lt (Nat.lt_succ_of_lt hal)) (Nat.ne_of_lt hal) (by rw [List.size_toArray, lits]; exact hz)
    ⟨_, _, _, he, .inl rfl⟩ hit (pl.isList.at fun o q => hk a o q) fun h' tk acc c' hk' hS' hT => ?_
  -- the addresses
  have hacc : ∀ j, j < acc.size → ∃ T : Addr, acc[j]? = some (.ref T) := fun j hj => by
    obtain ⟨T, _, _, e1, _⟩ := hT.2 j (by rw [← hT.1]; exact hj)
    exact ⟨T, e1⟩
  let adr : Value → Addr := fun v => match v with | .ref T => T | _ => 0
  let ts : List Addr := acc.toList.map adr
  have tsl : ts.length = xs.length := by
    show (acc.toList.map adr).length = _
    rw [List.length_map, Array.length_toList, hT.1, List.size_toArray, lits]
  have tsj : ∀ j (T : Addr), ts[j]? = some T → acc[j]? = some (.ref T) ∧ j < its.length := fun j T hj => by
    have hlt : j < ts.length := (List.getElem?_eq_some_iff.mp hj).1
    have hlt2 : j < acc.size := by rw [hT.1, List.size_toArray, lits, ← tsl]; exact hlt
    obtain ⟨T', e1⟩ := hacc j hlt2
    have e2 : ts[j]? = some T' := by
      show (acc.toList.map adr)[j]? = some T'
      rw [List.getElem?_map, Array.getElem?_toList, e1] <;> rfl
    rw [hj] at e2
    cases e2
    exact ⟨e1, by rw [lits, ← tsl]; exact hlt⟩
  -- what stands at each
  have tup : ∀ (j : Nat) (T : Addr) (x : V), ts[j]? = some T → xs[j]? = some x → ∃ (tk : Tok) (u : Value), RelV x u ∧ s1.heap.objs.size ≤ T ∧ T ≠ h1.objs.size ∧ h'.get? T = some { cls := .type "tuple", data := .seq #[.int (j : Int) tk, u] } := fun j T x hj hx => by
    obtain ⟨e1, hj2⟩ := tsj j T hj
    obtain ⟨T', tk, u, a1, a2, a3, a4⟩ := hT.2 j (by rw [List.size_toArray]; exact hj2)
    rw [e1] at a1
    cases a1
    obtain ⟨u', hu', ru⟩ := rv.get hx
    have e3 : its[j]? = some u := by simpa using a2
    rw [hu'] at e3
    have e4 := Option.some.inj e3
    subst e4
    have a3' : h1.objs.size + 1 ≤ T := a3
    refine ⟨tk, _, ru, Nat.le_trans (by rw [hsz]; exact Nat.le_add_right _ _) (Nat.le_of_succ_le a3'), Nat.ne_of_gt a3', a4⟩
  have ltS : s1.heap.objs.size ≤ h1.objs.size := by rw [hsz]; exact Nat.le_add_right _ _
  have kept : ∀ b o, s1.heap.get? b = some o → h'.get? b = some o := fun b o q => by
    have hb := Heap.lt_size q
    exact hk' b o (Nat.ne_of_lt (Nat.lt_succ_of_lt hb)) (Nat.ne_of_lt hb) (hk b o q)
  have low : ∀ b, b < s1.heap.objs.size → enH H1 h1.objs.size ts xs b = H1 b := fun b hb => by
    unfold enH
    rw [if_neg (Nat.ne_of_lt (Nat.lt_of_lt_of_le hb ltS)), dif_neg]
    rintro ⟨j, x, e1, e2⟩
    obtain ⟨_, _, _, e3, _⟩ := tup j b x e1 e2
    exact absurd hb (Nat.not_lt_of_le e3)
  have old : ∀ b o, H1 b = some o → enH H1 h1.objs.size ts xs b = some o := fun b o q => by rw [low b (I1.hok.lt q)]; exact q
  have atS : enH H1 h1.objs.size ts xs h1.objs.size = some (.lst (ts.map V.ref)) := by unfold enH; rw [if_pos rfl]
  have atT : ∀ (j : Nat) (T : Addr) (x : V), ts[j]? = some T → xs[j]? = some x → enH H1 h1.objs.size ts xs T = some (.tup [.int (j : Int), x]) := fun j T x hj hx => by
    obtain ⟨tk, u, ru, _, hne, e1⟩ := tup j T x hj hx
    have hex : ∃ (j : Nat) (x : V), ts[j]? = some T ∧ xs[j]? = some x := ⟨j, x, hj, hx⟩
    unfold enH
    rw [if_neg hne, dif_pos hex]
    have key : ∀ (j0 : Nat) (x0 : V), ts[j0]? = some T → xs[j0]? = some x0 → j0 = j ∧ x0 = x := fun j0 x0 q1 q2 => by
      obtain ⟨tk2, u2, ru2, _, _, e2⟩ := tup j0 T x0 q1 q2
      rw [e1] at e2
      have e3 : (Value.int (j : Int) tk) = Value.int (j0 : Int) tk2 := by
        have := Option.some.inj e2
        injection this with _ _ d _
        injection d with d1 _
        have := congrArg (fun a : Array Value => a[0]?) d1
        simpa using this
      injection e3 with e4 _
      have e5 : j0 = j := by omega
      subst e5
      rw [hx] at q2
      exact ⟨rfl, (Option.some.inj q2).symm⟩
    obtain ⟨k1, k2⟩ := key _ _ (Classical.choose_spec (Classical.choose_spec hex)).1 (Classical.choose_spec (Classical.choose_spec hex)).2
    have e7 : V.int ((Classical.choose hex : Nat) : Int) = V.int (j : Int) := by rw [k1]
    rw [e7, k2]
  have un : Un X.fs [] H1 (enH H1 h1.objs.size ts xs) s1.heap h' := by
    refine ⟨fun b o q _ _ _ => kept b o q, fun b o q _ _ _ => ⟨o.slots, kept b o q⟩, fun b o q n _ => by rw [low b (Heap.lt_size q)]; exact n, fun b o q _ => ⟨o, kept b o q⟩, fun b xs q => old b _ q, fun b o u q => old b _ q, fun b ps q => ⟨#[], by rw [old b _ q]; simp⟩⟩
  have hok : HOk X.prog X.w (enH H1 h1.objs.size ts xs) h' := fun b o q => by
    by_cases hb : b = h1.objs.size
    · subst hb
      rw [atS] at q
      cases q
      refine ⟨?_, acc.toList, c', ?_, ?_⟩
      · rw [List.length_map, tsl]; exact hz
      · have : ∀ (l : List Value), (∀ v ∈ l, ∃ T : Addr, v = .ref T) → Vals ((l.map adr).map V.ref) l := fun l => by
          induction l with
          | nil => exact fun _ => .nil
          | cons v l ih =>
            intro hv
            obtain ⟨T, rfl⟩ := hv v (List.mem_cons_self ..)
            exact .cons rfl (ih fun u hu => hv u (List.mem_cons_of_mem _ hu))
        refine this acc.toList fun v hv => ?_
        obtain ⟨j, hj⟩ := List.getElem?_of_mem hv
        have hj' : acc[j]? = some v := by rw [← hj, Array.getElem?_toList]
        have hlt : j < acc.size := by
          have := (List.getElem?_eq_some_iff.mp hj).1
          rwa [Array.length_toList] at this
        obtain ⟨T, e1⟩ := hacc j hlt
        rw [hj'] at e1
        exact ⟨T, Option.some.inj e1⟩
      · rw [Array.toArray_toList]; exact hS'
    · by_cases hex : ∃ (j : Nat) (x : V), ts[j]? = some b ∧ xs[j]? = some x
      · obtain ⟨j, x, e1, e2⟩ := hex
        rw [atT j b x e1 e2] at q
        cases q
        obtain ⟨tk, u, ru, _, _, e3⟩ := tup j b x e1 e2
        exact ⟨by show 2 ≤ sizeLine; decide, [.int j tk, u], .cons ⟨_, rfl⟩ (.cons ru .nil), ⟨_, e3, rfl, _, rfl⟩⟩
      · have e0 : enH H1 h1.objs.size ts xs b = H1 b := by unfold enH; rw [if_neg hb, dif_neg hex]
        rw [e0] at q
        exact (I1.hok b o q).stay (fun c v _ r => kept c v r) (fun c r => old c _ r) fun c ys r => old c _ r
  exact ⟨.ref h1.objs.size, _, I1.un (t' := tk) un hok, rfl, q h1.objs.size ts _ (I1.hok.fresh ltS) (fun b o q => old b o q) atS tsl atT⟩
end
end G
end
section
set_option maxHeartbeats 2000000
namespace G
open PySem L2 Evl

/-! ### data at any depth -/
mutual
theorem dp_mono {K : PySem.W.Frag} {H H' : Hp} (e : Ex H H') : ∀ {d : PyData} {v : V}, Dp K H v d → Dp K H' v d
  | .none, _, h => by cases h; exact .non
  | .bool _, _, h => by cases h; exact .bl _
  | .int _, _, h => by cases h; exact .int _
  | .str _, _, h => by cases h; exact .str _
  | .list ds, _, h => by
    cases h with
    | lst hs ha => exact .lst (ex_l e hs) (dp_monoAll e ha)
  | .tuple ds, _, h => by
    cases h with
    | tup hs ha => exact .tup (ex_t e hs) (dp_monoAll e ha)
  | .dict _, _, h => by cases h
theorem dp_monoAll {K : PySem.W.Frag} {H H' : Hp} (e : Ex H H') : ∀ {ds : List PyData} {vs : List V}, DpAll K H vs ds → DpAll K H' vs ds
  | [], _, h => by cases h; exact .nil
  | d :: ds, _, h => by
    cases h with
    | cons h1 h2 => exact .cons (dp_mono e h1) (dp_monoAll e h2)
end
def dInts (ns : List Int) : PyData := .list (ns.map PyData.int)
theorem dpAll_ints {K : PySem.W.Frag} {H : Hp} : ∀ (ns : List Int), DpAll K H (ns.map V.int) (ns.map PyData.int)
  | [] => .nil
  | n :: ns => .cons (.int n) (dpAll_ints ns)
theorem dp_ints {K : PySem.W.Frag} {H : Hp} {a : Addr} {ns : List Int} (h : SqL K H a (ns.map V.int)) : Dp K H (.ref a) (dInts ns) := .lst h (dpAll_ints ns)
theorem dp_get {K : PySem.W.Frag} {H : Hp} : ∀ {ds : List PyData} {vs : List V} {j : Nat} {d : PyData}, DpAll K H vs ds → ds[j]? = some d → ∃ v, vs[j]? = some v ∧ Dp K H v d
  | _, _, _, _, .nil, e => by simp at e
  | _, _, 0, _, .cons h _, e => by simp at e; subst e; exact ⟨_, rfl, h⟩
  | _, _, j + 1, _, .cons _ h, e => by
    obtain ⟨v, h1, h2⟩ := dp_get (j := j) h (by simpa using e)
    exact ⟨v, by simpa using h1, h2⟩
theorem dp_len {K : PySem.W.Frag} {H : Hp} : ∀ {ds : List PyData} {vs : List V}, DpAll K H vs ds → vs.length = ds.length
  | _, _, .nil => rfl
  | _, _, .cons _ h => by simp [dp_len h]

/-! ### what evaluates to data -/
variable {K : PySem.W.Frag} {σ : L2.St} {H H' : Hp} {ta tb te tx : TE} {tt : TT} {x y z v : V} {d : PyData} {ds : List PyData} {p C dx : Addr} {fs : List (Str × V)} {f m : Str} {sp : Sp} {dvs vs : List V} {E : XK} {tA tr tk : TA}
def EvD (K : PySem.W.Frag) (te : TE) (σ : L2.St) (H : Hp) (d : PyData) : Prop := ∀ H1, Ex H H1 → ∀ Q : VK, (∀ v H2, Ex H1 H2 → Dp K H2 v d → Q v H2) → te σ H1 Q
def EvAD (K : PySem.W.Frag) (ta : TA) (σ : L2.St) (H : Hp) (ds : List PyData) : Prop := ∀ H1, Ex H H1 → ∀ Q : List V → Hp → Prop, (∀ vs H2, Ex H1 H2 → DpAll K H2 vs ds → Q vs H2) → ta σ H1 Q
theorem EvD.mono (e : Ex H H') (h : EvD K te σ H d) : EvD K te σ H' d := fun H1 a Q q => h H1 (e.trans a) Q q
theorem EvL.mono (e : Ex H H') {xs : List V} (h : EvL te σ H xs) : EvL te σ H' xs := fun H1 a Q q => h H1 (e.trans a) Q q
theorem evd_v (h : Ev te σ H v) (hd : ∀ H1, Ex H H1 → Dp K H1 v d) : EvD K te σ H d := fun H1 e Q q => h H1 e Q fun H2 e2 => q v H2 e2 (hd H2 (e.trans e2))
theorem evd_int {i : Int} (h : Ev te σ H (.int i)) : EvD K te σ H (.int i) := evd_v h fun _ _ => .int i
theorem evd_bl {b : Bool} (h : Ev te σ H (.bl b)) : EvD K te σ H (.bool b) := evd_v h fun _ _ => .bl b
theorem evd_ref (h : Ev te σ H v) (hd : Dp K H v d) : EvD K te σ H d := evd_v h fun _ e => dp_mono e hd
theorem evd_l {xs : List V} (h : EvL te σ H xs) (hd : ∀ H1, Ex H H1 → DpAll K H1 xs ds) : EvD K te σ H (.list ds) := fun H1 e Q q => h H1 e Q fun p H2 _ e2 h2 => q _ H2 e2 (.lst (sq_of h2) (hd H2 (e.trans e2)))
theorem evd_ints {ns : List Int} (h : EvL te σ H (ns.map V.int)) : EvD K te σ H (dInts ns) := evd_l h fun _ _ => dpAll_ints ns
theorem evd_u {xs : List V} (h : EvU te σ H xs) (hd : ∀ H1, Ex H H1 → DpAll K H1 xs ds) : EvD K te σ H (.tuple ds) := fun H1 e Q q => h H1 e Q fun p H2 _ e2 h2 => q _ H2 e2 (.tup (st_of h2) (hd H2 (e.trans e2)))
theorem evad_nil : EvAD K tNil σ H [] := fun H1 _ _ q => q [] H1 (Ex.refl H1) .nil
theorem evad_cons (h : EvD K ta σ H d) (hr : EvAD K tr σ H ds) : EvAD K (tCons ta tr) σ H (d :: ds) := fun H1 e Q q =>
  h H1 e _ fun v H2 e2 hv => hr H2 (e.trans e2) _ fun vs H3 e3 hvs => q _ H3 (e2.trans e3) (.cons (dp_mono e3 hv) hvs)
theorem evd_lst (h : EvAD K tA σ H ds) (hl : ds.length ≤ 100000) : EvD K (tLst tA) σ H (.list ds) := fun H1 e Q q =>
  h H1 e _ fun vs H2 e2 hv => ⟨sz_of (by rw [dp_len hv]; exact hl), fun p hp => q _ _ (e2.trans (Ex.new hp)) (.lst (sq_of upd_same) (dp_monoAll (Ex.new hp) hv))⟩
theorem evd_tup (h : EvAD K tA σ H ds) (hl : ds.length ≤ 100000) : EvD K (tTup tA) σ H (.tuple ds) := fun H1 e Q q =>
  h H1 e _ fun vs H2 e2 hv => ⟨sz_of (by rw [dp_len hv]; exact hl), fun p hp => q _ _ (e2.trans (Ex.new hp)) (.tup (st_of upd_same) (dp_monoAll (Ex.new hp) hv))⟩
theorem evd_is {d' : PyData} (h : EvD K te σ H d) (e : d = d') : EvD K te σ H d' := e ▸ h
theorem dp_app {Hx : Hp} : ∀ {as bs : List V} {cs es : List PyData}, DpAll K Hx as cs → DpAll K Hx bs es → DpAll K Hx (as ++ bs) (cs ++ es)
  | _, _, _, _, .nil, h2 => h2
  | _, _, _, _, .cons q1 q2, h2 => .cons q1 (dp_app q2 h2)
theorem dp_repl {Hx : Hp} {as : List V} {cs : List PyData} (h : DpAll K Hx as cs) : ∀ k : Nat, DpAll K Hx (List.replicate k as).flatten (List.replicate k cs).flatten
  | 0 => .nil
  | k + 1 => by
    rw [List.replicate_succ, List.replicate_succ, List.flatten_cons, List.flatten_cons]
    exact dp_app h (dp_repl h k)
/-- xs * k of a new list of data -/
theorem evd_rep {k : Nat} (h : EvAD K tA σ H ds) (hl : ds.length ≤ 1000) (hk : k ≤ 10) (hb : Ev tb σ H (.int (k : Int))) : EvD K (tOp rRep (tLst tA) tb) σ H (.list ((List.replicate k ds).flatten)) := fun H1 e Q q => by
  refine h H1 e _ fun vs H2 e2 hv => ⟨sz_of (by rw [dp_len hv]; omega), fun p hp => ?_⟩
  refine hb _ (e.trans (e2.trans (Ex.new hp))) _ fun H3 e3 => ?_
  have hvl := dp_len hv
  have hm : vs.length * k ≤ 10000 := Nat.le_trans (Nat.mul_le_mul (by rw [hvl]; exact hl) hk) (by decide)
  refine ⟨p, (k : Int), vs, rfl, rfl, e3 p _ upd_same, by omega, by omega, by rw [Int.toNat_natCast]; exact sz_of (by omega), fun q' hq' => ?_⟩
  refine q _ _ (((e2.trans (Ex.new hp)).trans e3).trans (Ex.new hq')) (.lst (sq_of upd_same) ?_)
  rw [Int.toNat_natCast]
  exact dp_repl (dp_monoAll (((Ex.new hp).trans e3).trans (Ex.new hq')) hv) k

/-! ### fields, methods, properties -/
theorem ev_fld {tv : V} (h : Ev ta σ H (.ref p)) (ho : H p = some (.ins C dx fs)) (hc : Cls K C) (hn : NoAttr K C f) (hl : fs.lookup f = some tv) : Ev (tFld K ta f) σ H tv := fun H1 e Q q =>
  h H1 e _ fun H2 e2 => ⟨p, C, dx, fs, tv, rfl, (e.trans e2) p _ ho, hc, hn, hl, q H2 e2⟩
theorem ev_con {u : Value} (h : Ev ta σ H (.ref p)) (ho : H p = some (.ins C dx fs)) (hc : Cls K C) (hk : Con K C f v u) (hl : fs.lookup f = none) : Ev (tCon K ta f) σ H v := fun H1 e Q q =>
  h H1 e _ fun H2 e2 => ⟨p, C, dx, fs, v, u, rfl, (e.trans e2) p _ ho, hc, hk, hl, q H2 e2⟩
theorem ev_prop (h : Ev ta σ H (.ref p)) (ho : H p = some (.ins C dx fs)) (hs : SpV sp (.ref p :: dvs) H z) : Ev (tProp C sp dvs E ta) σ H z := fun H1 e Q q =>
  h H1 e _ fun H2 e2 => ⟨p, dx, fs, rfl, (e.trans e2) p _ ho, hs H2 (e.trans e2) Q (fun H3 e3 => q H3 (e2.trans e3)) E⟩
theorem ev_meth (h : Ev ta σ H (.ref p)) (ho : H p = some (.ins C dx fs)) (hl : fs.lookup m = none) (ha : EvA tA σ H vs) (hs : SpV sp (.ref p :: (vs ++ dvs)) H z) : Ev (tMeth C m sp dvs E ta tA) σ H z := fun H1 e Q q =>
  h H1 e _ fun H2 e2 => ⟨p, dx, fs, rfl, (e.trans e2) p _ ho, hl, ha H2 (e.trans e2) _ fun H3 e3 => hs H3 ((e.trans e2).trans e3) Q (fun H4 e4 => q H4 ((e2.trans e3).trans e4)) E⟩
theorem el_meth {xs : List V} (h : Ev ta σ H (.ref p)) (ho : H p = some (.ins C dx fs)) (hl : fs.lookup m = none) (ha : EvA tA σ H vs) (hs : SpL sp (.ref p :: (vs ++ dvs)) H xs) : EvL (tMeth C m sp dvs E ta tA) σ H xs := fun H1 e Q q =>
  h H1 e _ fun H2 e2 => ⟨p, dx, fs, rfl, (e.trans e2) p _ ho, hl, ha H2 (e.trans e2) _ fun H3 e3 => hs H3 ((e.trans e2).trans e3) Q (fun q' H4 n4 e4 h4 => q q' H4 (fresh_back (e2.trans e3) n4) ((e2.trans e3).trans e4) h4) E⟩
def SpD (K : PySem.W.Frag) (sp : Sp) (vs : List V) (H : Hp) (d : PyData) : Prop := ∀ H1, Ex H H1 → ∀ Q : VK, (∀ v H2, Ex H1 H2 → Dp K H2 v d → Q v H2) → ∀ E : XK, sp vs H1 Q E
theorem evd_meth (h : Ev ta σ H (.ref p)) (ho : H p = some (.ins C dx fs)) (hl : fs.lookup m = none) (ha : EvA tA σ H vs) (hs : SpD K sp (.ref p :: (vs ++ dvs)) H d) : EvD K (tMeth C m sp dvs E ta tA) σ H d := fun H1 e Q q =>
  h H1 e _ fun H2 e2 => ⟨p, dx, fs, rfl, (e.trans e2) p _ ho, hl, ha H2 (e.trans e2) _ fun H3 e3 => hs H3 ((e.trans e2).trans e3) Q (fun v H4 e4 h4 => q v H4 ((e2.trans e3).trans e4) h4) E⟩
theorem evd_call (ha : EvA tA σ H vs) (hs : SpD K sp (vs ++ dvs) H d) : EvD K (tCall sp dvs E tA) σ H d := fun H1 e Q q =>
  ha H1 e _ fun H2 e2 => hs H2 (e.trans e2) Q (fun v H3 e3 h3 => q v H3 (e2.trans e3) h3) E
theorem ev_methN {n j : Nat} {gV : List V → List V → List V} {zs : List V} (h : Ev ta σ H (.ref p)) (ho : H p = some (.ins C dx fs)) (hl : fs.lookup m = none) (ha : EvA tA σ H vs) (hk : EvA tk σ H zs) (h1 : vs.length = n) (h2 : zs.length = j)
    (hs : SpV sp (gV (.ref p :: vs) zs) H z) : Ev (tMethN C m n j sp gV E ta tA tk) σ H z := fun H1 e Q q =>
  h H1 e _ fun H2 e2 => ⟨p, dx, fs, rfl, (e.trans e2) p _ ho, hl, ha H2 (e.trans e2) _ fun H3 e3 => hk H3 ((e.trans e2).trans e3) _ fun H4 e4 => ⟨h1, h2, hs H4 (((e.trans e2).trans e3).trans e4) Q (fun H5 e5 => q H5 (((e2.trans e3).trans e4).trans e5)) E⟩⟩
theorem el_methN {n j : Nat} {gV : List V → List V → List V} {zs xs : List V} (h : Ev ta σ H (.ref p)) (ho : H p = some (.ins C dx fs)) (hl : fs.lookup m = none) (ha : EvA tA σ H vs) (hk : EvA tk σ H zs) (h1 : vs.length = n) (h2 : zs.length = j)
    (hs : SpL sp (gV (.ref p :: vs) zs) H xs) : EvL (tMethN C m n j sp gV E ta tA tk) σ H xs := fun H1 e Q q =>
  h H1 e _ fun H2 e2 => ⟨p, dx, fs, rfl, (e.trans e2) p _ ho, hl, ha H2 (e.trans e2) _ fun H3 e3 => hk H3 ((e.trans e2).trans e3) _ fun H4 e4 => ⟨h1, h2, hs H4 (((e.trans e2).trans e3).trans e4) Q (fun q' H5 n5 e5 h5 => q q' H5 (fresh_back ((e2.trans e3).trans e4) n5) (((e2.trans e3).trans e4).trans e5) h5) E⟩⟩
theorem evd_methL {xs : List V} {ds : List PyData} (h : EvL te σ H xs) (hd : ∀ H1, Ex H H1 → DpAll K H1 xs ds) : EvD K te σ H (.list ds) := evd_l h hd

/-- repr of data -/
theorem ev_repr {ds : List PyData} (h : EvD K ta σ H (.list ds)) (hs : PyData.showable (.list ds) = true) (hdp : PyData.depth (.list ds) ≤ 60) (hz : (PyData.shown (.list ds)).length ≤ sizeLine) : Ev (tCB (rRepr K) (tCons ta tNil)) σ H (.str (PyData.shown (.list ds))) := fun H1 e Q q =>
  h H1 e _ fun v H2 e2 hv => by
    cases hv with
    | lst h1 h2 => exact ⟨_, _, rfl, .lst h1 h2, hs, hdp, hz, q H2 e2⟩
variable {D : Ends} {tu tw tz : TS}
theorem s_asgD {i : Nat} (h : EvD K te σ H d) (k : ∀ v H1, Ex H H1 → Dp K H1 v d → D.nx (σ.set i (some v)) H1) : tAsg te (gName i) D σ H := h H (Ex.refl H) _ fun v H1 e hv => k v H1 e hv
theorem q_asgD {i : Nat} (h : EvD K te σ H d) (k : ∀ v H1, Ex H H1 → Dp K H1 v d → tz D (σ.set i (some v)) H1) : tSeq (tAsg te (gName i)) tz D σ H := s_asgD (D := { D with nx := tz D }) h k
theorem s_retD (h : EvD K te σ H d) (k : ∀ v H1, Ex H H1 → Dp K H1 v d → D.rt v H1) : tRet te D σ H := h H (Ex.refl H) _ k
end G
end
section
set_option maxHeartbeats 2000000
namespace G
open PySem L2 Evl
variable {K : PySem.W.Frag} {σ : L2.St} {H H' : Hp} {ta tb te tx : TE} {tt : TT} {x y z v : V} {p C dx : Addr} {tA tr tk : TA}

/-! ### calls of built-ins, by their answers -/
theorem rc_len {n : Nat} {ys : List V} (h : SqL K H p ys ∨ SqT K H p ys) (hn : ys.length = n) : RC (fun xs H Q => ∃ p ys, xs = [.ref p] ∧ (SqL K H p ys ∨ SqT K H p ys) ∧ Q (.int (ys.length : Int)) H) [.ref p] H (.int (n : Int)) := fun H1 e Q q =>
  ⟨p, ys, rfl, h.imp (ex_l e) (ex_t e), by rw [hn]; exact q H1 (Ex.refl _)⟩
theorem rc_abs {i : Int} : RC (fun xs H Q => ∃ i, xs = [.int i] ∧ Q (.int (if i < 0 then -i else i)) H) [.int i] H (.int (if i < 0 then -i else i)) := fun H1 e Q q => ⟨i, rfl, q H1 (Ex.refl _)⟩
theorem rc_max2 {i j : Int} : RC (fun xs H Q => ∃ i j, xs = [.int i, .int j] ∧ Q (.int (if j > i then j else i)) H) [.int i, .int j] H (.int (if j > i then j else i)) := fun H1 e Q q => ⟨i, j, rfl, q H1 (Ex.refl _)⟩
theorem rc_min2 {i j : Int} : RC (fun xs H Q => ∃ i j, xs = [.int i, .int j] ∧ Q (.int (if j < i then j else i)) H) [.int i, .int j] H (.int (if j < i then j else i)) := fun H1 e Q q => ⟨i, j, rfl, q H1 (Ex.refl _)⟩
theorem rc_int1 {i : Int} : RC (fun xs H Q => (∃ i, xs = [.int i] ∧ Q (.int i) H) ∨ ∃ k, xs = [.bl k] ∧ Q (.int (if k then 1 else 0)) H) [.int i] H (.int i) := fun H1 e Q q => .inl ⟨i, rfl, q H1 (Ex.refl _)⟩
theorem rc_sum {ns : List Int} (h : SqL K H p (ns.map V.int)) : RC (rSum K) [.ref p] H (.int ns.sum) := fun H1 e Q q => ⟨p, ns, rfl, ex_l e h, q H1 (Ex.refl _)⟩
theorem rc_all {bs : List Bool} (h : SqL K H p (bs.map V.bl)) : RC (rAll K) [.ref p] H (.bl (bs.all id)) := fun H1 e Q q => ⟨p, bs, rfl, ex_l e h, q H1 (Ex.refl _)⟩
theorem rc_max {ns : List Int} {m : Int} (h : SqL K H p (ns.map V.int)) (hm : m ∈ ns) (hle : ∀ y, y ∈ ns → y ≤ m) : RC (rMax K) [.ref p] H (.int m) := fun H1 e Q q =>
  ⟨p, ns, rfl, ex_l e h, List.length_pos_of_mem hm, fun k hk hkl => by
    have e1 : k = m := Int.le_antisymm (hle k hk) (hkl m hm)
    rw [e1]; exact q H1 (Ex.refl _)⟩
theorem rc_min {ns : List Int} {m : Int} (h : SqL K H p (ns.map V.int)) (hm : m ∈ ns) (hle : ∀ y, y ∈ ns → m ≤ y) : RC (rMin K) [.ref p] H (.int m) := fun H1 e Q q =>
  ⟨p, ns, rfl, ex_l e h, List.length_pos_of_mem hm, fun k hk hkl => by
    have e1 : k = m := Int.le_antisymm (hkl m hm) (hle k hk)
    rw [e1]; exact q H1 (Ex.refl _)⟩
theorem rc_gcd {a b : Int} : RC rGcd [.int a, .int b] H (.int ((Nat.gcd a.natAbs b.natAbs : Nat) : Int)) := fun H1 e Q q => ⟨a, b, rfl, q H1 (Ex.refl _)⟩
theorem rc_isi {c : V} {t u : Value} {b : Bool} (k : ClsV c u) (ty : ∀ H1, Ex H H1 → TyX K H1 x t) (hb : PySem.W.kitOne K t u = some b) : RC (rIsi K) [x, c] H (.bl b) := fun H1 e Q q => ⟨x, c, t, u, b, rfl, k, ty H1 e, hb, q H1 (Ex.refl _)⟩
theorem rc_list {xs : List V} (h : SqL K H p xs ∨ SqT K H p xs) : RCL (fun xs H Q => ∃ p ys, xs = [.ref p] ∧ (SqL K H p ys ∨ SqT K H p ys) ∧ ∀ l, H l = none → Q (.ref l) (upd H l (.lst ys))) [.ref p] H xs := fun H1 e Q q =>
  ⟨p, xs, rfl, h.imp (ex_l e) (ex_t e), fun l hl => q l _ hl (Ex.new hl) upd_same⟩
/-- a built-in asked of a list that is new -/
theorem ev_cbL {r : List V → Hp → VK → Prop} {xs : List V} (h : EvL ta σ H xs) (hr : ∀ p H1, Ex H H1 → H1 p = some (.lst xs) → RC r [.ref p] H1 z) : Ev (tCB r (tCons ta tNil)) σ H z := fun H1 e Q q =>
  h H1 e _ fun p H2 _ e2 h2 => hr p H2 (e.trans e2) h2 H2 (Ex.refl _) Q fun H3 e3 => q H3 (e2.trans e3)

theorem q_par {D : Ends} {tz : TS} {i j : Nat} {v w : V} (h : EvA tA σ H [v, w]) (k : ∀ H1, Ex H H1 → tz D ((σ.set i (some v)).set j (some w)) H1) : tSeq (tPar i j tA) tz D σ H := h H (Ex.refl H) _ fun H1 e => ⟨v, w, rfl, k H1 e⟩
theorem s_par {D : Ends} {i j : Nat} {v w : V} (h : EvA tA σ H [v, w]) (k : ∀ H1, Ex H H1 → D.nx ((σ.set i (some v)).set j (some w)) H1) : tPar i j tA D σ H := h H (Ex.refl H) _ fun H1 e => ⟨v, w, rfl, k H1 e⟩
theorem ev_allT {n : Nat} (h : EvL te σ H (given n (fun _ => true) (fun _ => V.bl true))) : Ev (tCB (rAll K) (tCons te tNil)) σ H (.bl true) := ev_cbL h fun p H1 e h1 => by
  have e1 : given n (fun _ => true) (fun _ => V.bl true) = (List.replicate n true).map V.bl := by
    unfold given
    rw [List.filter_eq_self.mpr (fun _ _ => rfl)]
    apply List.ext_getElem <;> simp
  have := rc_all (K := K) (H := H1) (p := p) (bs := List.replicate n true) (sq_of (by rw [← e1]; exact h1))
  have e2 : (List.replicate n true).all id = true := by simp
  rw [e2] at this
  exact this
theorem ev_chain {tc : TE} {r r' : R2} {w : V} (ha : Ev ta σ H x) (hb : Ev tb σ H y) (hr : RV r x y H (.bl true)) (hc : Ev tc σ H w) (hr' : RV r' y w H z) : Ev (tChain r r' ta tb tc) σ H z := fun H1 e Q q =>
  ha H1 e _ fun H2 e2 => hb H2 (e.trans e2) _ fun H3 e3 => hr H3 ((e.trans e2).trans e3) _ fun H4 e4 => ⟨true, rfl, by
    rw [if_pos rfl]
    exact hc H4 (((e.trans e2).trans e3).trans e4) _ fun H5 e5 => hr' H5 ((((e.trans e2).trans e3).trans e4).trans e5) Q fun H6 e6 => q H6 ((((e2.trans e3).trans e4).trans e5).trans e6)⟩
theorem el_lcT {a : Addr} {xs : List V} {tl : TE} {j : Nat} {vs : List Nat} (f : Nat → Bool) (v : Nat → V) (h : Ev tl σ H (.ref a)) (hx : SqT K H a xs) (hz : xs.length ≤ 40000) (hw : ∀ x, wipe ((wipe σ vs).set j (some x)) vs = wipe σ vs)
    (ht : ∀ (i : Nat) (x : V) H1, Ex H H1 → xs[i]? = some x → EvT tt ((wipe σ vs).set j (some x)) H1 (f i)) (he : ∀ (i : Nat) (x : V) H1, Ex H H1 → xs[i]? = some x → f i = true → Ev te ((wipe σ vs).set j (some x)) H1 (v i)) :
    EvL (tLc (iTup K tl) (gName j) tt te vs) σ H (given xs.length f v) := fun H0 e Q q => h H0 e _ fun H1 e1 => ⟨a, rfl, ⟨xs, ex_t (e.trans e1) hx⟩, fun Dl hD =>
  lc_tup (xs := xs) (Cw H1 f v Dl) ⟨hD, Ex.new hD, upd_same⟩ (fun i H' _ p => ex_t ((e.trans e1).trans p.2.1) hx) (fun i x H' hi p => ⟨hw x, cw_turn p (by have := (List.getElem?_eq_some_iff.mp hi).1; omega) (ht i x H1 (e.trans e1) hi) (fun hf => he i x H1 (e.trans e1) hi hf)⟩)
    (fun H' p => q Dl H' (fresh_back e1 p.1) (e1.trans p.2.1) p.2.2)⟩
theorem lc_yes : EvT tYes σ H true := fun H1 _ _ q => q H1 (Ex.refl _)
theorem rv_ixTn {xs : List V} {k : Int} (h : SqT K H p xs) (ha : atI xs k = some v) : RV (rIxT K) (.ref p) (.int k) H v := rv_ixT h ha
section
variable {X : Cx} {e : Expr} {f : Str} {pos : Pos}
theorem ixL (hK : X.K = K) : IxR X (rIxL K) := hK ▸ ix_list
theorem ixT (hK : X.K = K) : IxR X (rIxT K) := hK ▸ ix_tup
theorem lenS (hK : X.K = K) : CallR X (.builtin "len") (fun xs H Q => ∃ p ys, xs = [.ref p] ∧ (SqL K H p ys ∨ SqT K H p ys) ∧ Q (.int (ys.length : Int)) H) := hK ▸ call_len_seq
theorem pe_fldK (hK : X.K = K) (he : PE X e ta) (hb : attributeBase e f X.env (eval e X.env) = eval e X.env) : PE X (.Attribute e f pos) (tFld K ta f) := hK ▸ pe_fld he hb
theorem eqD (hK : X.K = K) (hu : X.A.units + 64 < cLine) : OpR X (compareOp .Eq) (rEqD K) := hK ▸ op_eqD hu
theorem neD (hK : X.K = K) (hu : X.A.units + 64 < cLine) : OpR X (compareOp .NotEq) (rNeD K) := hK ▸ op_neD hu
theorem maxL (hK : X.K = K) (hc : X.calm = true) : CallR X (.builtin "max") (rMax K) := hK ▸ cr_max hc
theorem minL (hK : X.K = K) (hc : X.calm = true) : CallR X (.builtin "min") (rMin K) := hK ▸ cr_min hc
theorem sumL (hK : X.K = K) (hc : X.calm = true) : CallR X (.builtin "sum") (rSum K) := hK ▸ cr_sum hc
theorem allL (hK : X.K = K) (hc : X.calm = true) : CallR X (.builtin "all") (rAll K) := hK ▸ cr_all hc
end
theorem eu_divmod {i j : Int} (ha : Ev ta σ H (.int i)) (hb : Ev tb σ H (.int j)) (h0 : 0 < j) (h1 : j < 1073741824) :
    EvU (tCB (fun xs H Q => ∃ i j, xs = [.int i, .int j] ∧ CDiv i j ∧ ∀ p, H p = none → Q (.ref p) (upd H p (.tup [.int (i / j), .int (i % j)]))) (tCons ta (tCons tb tNil))) σ H [.int (i / j), .int (i % j)] := fun H1 e Q q =>
  ha H1 e _ fun H2 e2 => hb H2 (e.trans e2) _ fun H3 e3 => ⟨i, j, rfl, ⟨h0, h1⟩, fun p hp => q p _ (fresh_back (e2.trans e3) hp) ((e2.trans e3).trans (Ex.new hp)) upd_same⟩
theorem q_asgT2 {D : Ends} {tz : TS} {i j : Nat} {v w : V} (h : EvU te σ H [v, w]) (k : ∀ H1, Ex H H1 → tz D ((σ.set i (some v)).set j (some w)) H1) : tSeq (tAsg te (gTup K 2 (gCons (gName i) (gCons (gName j) gNil)))) tz D σ H :=
  h H (Ex.refl H) _ fun u H1 _ e hu => ⟨u, [v, w], rfl, st_of hu, rfl, _, _, rfl, _, _, rfl, rfl, k H1 e⟩
theorem q_asgG {D : Ends} {tz : TS} {g : TG} {xs : List V} (h : EvU te σ H xs) (k : ∀ p H1, H p = none → Ex H H1 → H1 p = some (.tup xs) → g (.ref p) σ H1 fun σ' H' => tz D σ' H') : tSeq (tAsg te g) tz D σ H := h H (Ex.refl H) _ fun p H1 hp e h1 => k p H1 hp e h1
theorem rv_cat {i j : Str} (h : i.length + j.length ≤ sizeLine) : RV (fun x y H Q => ∃ i j, x = .str i ∧ y = .str j ∧ i.length + j.length ≤ sizeLine ∧ Q (.str (i ++ j)) H) (.str i) (.str j) H (.str (i ++ j)) := fun H1 _ Q q => ⟨i, j, rfl, rfl, h, q H1 (Ex.refl _)⟩
/-! ### comprehensions whose target is a pair -/
section
variable {D : Ends} {f : Nat → Bool} {g : Nat → V} {i j : Nat} {vs : List Nat}
/-- what evaluates to a new list of new pairs (number, item) -/
def EvR (te : TE) (σ : L2.St) (H : Hp) (xs : List V) : Prop := ∀ H1, Ex H H1 → ∀ Q : VK, (∀ (l : Addr) (ts : List Addr) (H2 : Hp), H1 l = none → Ex H1 H2 → H2 l = some (.lst (ts.map V.ref)) → ts.length = xs.length → (∀ (j : Nat) (T : Addr) (x : V), ts[j]? = some T → xs[j]? = some x → H2 T = some (.tup [.int (j : Int), x])) → Q (.ref l) H2) → te σ H1 Q
theorem evr_en {a : Addr} {xs : List V} (h : Ev ta σ H (.ref a)) (hs : SqL K H a xs) : EvR (tListEn K ta) σ H xs := fun H1 e Q q => h H1 e _ fun H2 e2 => ⟨a, xs, rfl, ex_l (e.trans e2) hs, fun l ts H3 hl e3 h3 hz ht => q l ts H3 (fresh_back e2 hl) (e2.trans e3) h3 hz ht⟩
def SpR (sp : Sp) (vs : List V) (H : Hp) (xs : List V) : Prop := ∀ H1, Ex H H1 → ∀ Q : VK, (∀ (l : Addr) (ts : List Addr) (H2 : Hp), H1 l = none → Ex H1 H2 → H2 l = some (.lst (ts.map V.ref)) → ts.length = xs.length → (∀ (j : Nat) (T : Addr) (x : V), ts[j]? = some T → xs[j]? = some x → H2 T = some (.tup [.int (j : Int), x])) → Q (.ref l) H2) → ∀ E : XK, sp vs H1 Q E
theorem evr_meth {m : Str} {sp : Sp} {dvs ws : List V} {E : XK} {fs : List (Str × V)} {xs : List V} (h : Ev ta σ H (.ref p)) (ho : H p = some (.ins C dx fs)) (hl : fs.lookup m = none) (ha : EvA tA σ H ws) (hs : SpR sp (.ref p :: (ws ++ dvs)) H xs) : EvR (tMeth C m sp dvs E ta tA) σ H xs := fun H1 e Q q =>
  h H1 e _ fun H2 e2 => ⟨p, dx, fs, rfl, (e.trans e2) p _ ho, hl, ha H2 (e.trans e2) _ fun H3 e3 => hs H3 ((e.trans e2).trans e3) Q (fun l ts H4 n4 e4 h4 hz ht => q l ts H4 (fresh_back (e2.trans e3) n4) ((e2.trans e3).trans e4) h4 hz ht) E⟩
theorem evd_r {ns : List Int} (h : EvR te σ H (ns.map V.int)) : EvD K te σ H (.list (ns.mapIdx fun j n => .tuple [.int (j : Int), .int n])) := fun H1 e Q q => h H1 e _ fun l ts H2 _ e2 h2 hz ht => by
  refine q _ H2 e2 (.lst (sq_of h2) ?_)
  have key : ∀ (k : Nat) (us : List Addr) (ms : List Int), us.length = ms.length → (∀ (j : Nat) (T : Addr) (n : Int), us[j]? = some T → ms[j]? = some n → H2 T = some (.tup [.int ((k + j : Nat) : Int), .int n])) →
      DpAll K H2 (us.map V.ref) (ms.mapIdx fun j n => .tuple [.int ((k + j : Nat) : Int), .int n]) := by
    intro k us
    induction us generalizing k with
    | nil =>
      intro ms hl _
      cases ms with
      | nil => exact .nil
      | cons m ms => simp at hl
    | cons u us ih =>
      intro ms hl hh
      cases ms with
      | nil => simp at hl
      | cons m ms =>
        rw [List.mapIdx_cons]
        refine .cons (.tup (st_of (hh 0 u m rfl rfl)) (.cons (.int _) (.cons (.int _) .nil))) ?_
        have := ih (k + 1) ms (by simpa using hl) (fun j T n q1 q2 => by
          have := hh (j + 1) T n (by simpa using q1) (by simpa using q2)
          have e1 : k + 1 + j = k + (j + 1) := by omega
          rw [e1]; exact this)
        have e2 : (fun (j : Nat) (n : Int) => PyData.tuple [.int ((k + 1 + j : Nat) : Int), .int n]) = (fun (j : Nat) (n : Int) => PyData.tuple [.int ((k + (j + 1) : Nat) : Int), .int n]) := by
          funext j n
          have e1 : k + 1 + j = k + (j + 1) := by omega
          rw [e1]
        rw [e2] at this
        exact this
  have := key 0 ts ns (by simpa using hz) (fun j T n q1 q2 => by
    have := ht j T (.int n) q1 (by simp [q2])
    rw [Nat.zero_add]; exact this)
  simpa using this
theorem cw_pair {a : Addr} {Dl : Addr} {n : Nat} {H1 Hc : Hp} {i0 : Nat} {k w : V} {σ2 : L2.St} (p : Cw H1 f g Dl i0 Hc) (hi : i0 < 50000) (ht : EvT tt σ2 H1 (f i0)) (he : f i0 = true → Ev te σ2 H1 (g i0)) :
    tt σ2 Hc fun b H3 => if b = true then te σ2 H3 fun y H4 => ∃ acc, H4 Dl = some (.lst acc) ∧ acc.length < sizeLine ∧ Cw H1 f g Dl (i0 + 1) (upd H4 Dl (.lst (acc ++ [y]))) else Cw H1 f g Dl (i0 + 1) H3 := cw_turn p hi ht he
/-- [e for a, b in rows if ..] -/
theorem el_lcR {tl : TE} {xs : List V} (f : Nat → Bool) (g : Nat → V) (h : EvR tl σ H xs) (hz : xs.length ≤ 40000) (hw : ∀ x y, wipe (((wipe σ vs).set i (some x)).set j (some y)) vs = wipe σ vs)
    (ht : ∀ (k : Nat) (x : V) H1, Ex H H1 → xs[k]? = some x → EvT tt (((wipe σ vs).set i (some (.int (k : Int)))).set j (some x)) H1 (f k))
    (he : ∀ (k : Nat) (x : V) H1, Ex H H1 → xs[k]? = some x → f k = true → Ev te (((wipe σ vs).set i (some (.int (k : Int)))).set j (some x)) H1 (g k)) :
    EvL (tLc (iList K tl) (gTup K 2 (gCons (gName i) (gCons (gName j) gNil))) tt te vs) σ H (given xs.length f g) := fun H0 e Q q => h H0 e _ fun a ts H1 ha e1 h1 hl htp => ⟨a, rfl, ⟨ts.map V.ref, sq_of h1⟩, fun Dl hD =>
  lc_list (xs := ts.map V.ref) (Cw H1 f g Dl) ⟨hD, Ex.new hD, upd_same⟩ (fun i0 H' _ p => sq_of (p.2.1 a _ h1)) (fun i0 x0 H' hi p => by
    have hlt : i0 < ts.length := by have := (List.getElem?_eq_some_iff.mp hi).1; simpa using this
    obtain ⟨T, hT⟩ : ∃ T, ts[i0]? = some T := ⟨ts[i0], List.getElem?_eq_getElem hlt⟩
    obtain ⟨w, hw'⟩ : ∃ w, xs[i0]? = some w := ⟨xs[i0]'(by omega), List.getElem?_eq_getElem (by omega)⟩
    have e0 : x0 = V.ref T := by rw [List.getElem?_map, hT] at hi; simpa using hi.symm
    subst e0
    refine ⟨T, [.int (i0 : Int), w], rfl, st_of (p.2.1 T _ (htp i0 T w hT hw')), rfl, _, _, rfl, _, _, rfl, rfl, ?_⟩
    exact ⟨hw _ _, cw_turn p (by omega) (ht i0 w H1 (e.trans e1) hw') (fun hf => he i0 w H1 (e.trans e1) hw' hf)⟩)
    (fun H' p => by
      have e9 : (ts.map V.ref).length = xs.length := by rw [List.length_map, hl]
      rw [e9] at p
      exact q Dl H' (fresh_back e1 p.1) (e1.trans p.2.1) p.2.2)⟩
/-- [e for k, x in enumerate(xs) if ..] -/
theorem el_lcE {a : Addr} {tl : TE} {xs : List V} (f : Nat → Bool) (g : Nat → V) (h : Ev tl σ H (.ref a)) (hs : SqL K H a xs) (hz : xs.length ≤ 40000) (hw : ∀ x y, wipe (((wipe σ vs).set i (some x)).set j (some y)) vs = wipe σ vs)
    (ht : ∀ (k : Nat) (x : V) H1, Ex H H1 → xs[k]? = some x → EvT tt (((wipe σ vs).set i (some (.int (k : Int)))).set j (some x)) H1 (f k))
    (he : ∀ (k : Nat) (x : V) H1, Ex H H1 → xs[k]? = some x → f k = true → Ev te (((wipe σ vs).set i (some (.int (k : Int)))).set j (some x)) H1 (g k)) :
    EvL (tLc (iEnum K (tCons tl tNil)) (gTup K 2 (gCons (gName i) (gCons (gName j) gNil))) tt te vs) σ H (given xs.length f g) := fun H0 e Q q => h H0 e _ fun H1 e1 => by
  have hs1 : SqL K H1 a xs := ex_l (e.trans e1) hs
  refine ⟨a, xs, rfl, hs1, fun Dl hD => ?_⟩
  refine ⟨fun i0 m H' => m = xs.length - i0 ∧ i0 ≤ xs.length ∧ Cw H1 f g Dl i0 H', ⟨xs.length, by simp, Nat.zero_le _, hD, Ex.new hD, upd_same⟩, ?_⟩
  rintro i0 m H' ⟨rfl, hi, pc⟩
  have hs2 : SqL K H' a xs := ex_l pc.2.1 hs1
  by_cases hlt : i0 < xs.length
  · refine .inr ⟨⟨xs, xs[i0], hs2, List.getElem?_eq_getElem hlt⟩, fun H'' => Cw H1 f g Dl (i0 + 1) H'', fun H'' p' => ⟨xs.length - (i0 + 1), by omega, rfl, hlt, p'⟩, fun x0 H'' y => ?_⟩
    obtain ⟨T, w, rfl, hT, rfl, hx⟩ := y
    have hw' := hx xs hs2
    refine ⟨T, [.int (i0 : Int), w], rfl, st_of upd_same, rfl, _, _, rfl, _, _, rfl, rfl, ?_⟩
    have pc2 : Cw H1 f g Dl i0 (upd H' T (.tup [.int (i0 : Int), w])) := ⟨pc.1, pc.2.1.trans (Ex.new hT), by rw [upd_ne (ne_of_none pc.2.2 hT)]; exact pc.2.2⟩
    exact ⟨hw _ _, cw_turn pc2 (by omega) (ht i0 w H1 (e.trans e1) hw') (fun hf => he i0 w H1 (e.trans e1) hw' hf)⟩
  · have e0 : i0 = xs.length := by omega
    subst e0
    exact .inl ⟨⟨xs, hs2, Nat.le_refl _⟩, q Dl H' (fresh_back e1 pc.1) (e1.trans pc.2.1) pc.2.2⟩
end
end G
end
section
set_option maxHeartbeats 2000000
namespace G
open PySem L2 Evl
/-! ### lists and tuples of pairs of numbers -/
abbrev Row := Int × Int
def rowV (r : Row) : List V := [.int r.1, .int r.2]
def RowsAt (H : Hp) (ts : List Addr) (rs : List Row) : Prop := ts.length = rs.length ∧ ∀ (j : Nat) (T : Addr) (r : Row), ts[j]? = some T → rs[j]? = some r → H T = some (.tup (rowV r))
def RowsL (H : Hp) (a : Addr) (rs : List Row) : Prop := ∃ ts : List Addr, H a = some (.lst (ts.map V.ref)) ∧ RowsAt H ts rs
def RowsU (H : Hp) (a : Addr) (rs : List Row) : Prop := ∃ ts : List Addr, H a = some (.tup (ts.map V.ref)) ∧ RowsAt H ts rs
variable {K : PySem.W.Frag} {σ : L2.St} {H H' : Hp} {ta tb te tl tx : TE} {tt : TT} {x y z v w : V} {p a q C dx : Addr} {tA tr tk : TA} {ts us : List Addr} {rs ss : List Row} {vs : List Nat} {i j : Nat} {Q : VK} {D : Ends} {tz : TS}
theorem RowsAt.mono (h : RowsAt H ts rs) (e : Ex H H') : RowsAt H' ts rs := ⟨h.1, fun j T r a b => e T _ (h.2 j T r a b)⟩
theorem RowsL.mono (h : RowsL H a rs) (e : Ex H H') : RowsL H' a rs := let ⟨ts, h1, h2⟩ := h; ⟨ts, e a _ h1, h2.mono e⟩
theorem RowsU.mono (h : RowsU H a rs) (e : Ex H H') : RowsU H' a rs := let ⟨ts, h1, h2⟩ := h; ⟨ts, e a _ h1, h2.mono e⟩
theorem RowsAt.nil : RowsAt H [] [] := ⟨rfl, fun j T r h => by simp at h⟩
theorem RowsAt.app (h : RowsAt H ts rs) (h2 : RowsAt H us ss) : RowsAt H (ts ++ us) (rs ++ ss) := by
  refine ⟨by rw [List.length_append, List.length_append, h.1, h2.1], fun j T r a b => ?_⟩
  by_cases hj : j < ts.length
  · rw [List.getElem?_append_left hj] at a
    rw [List.getElem?_append_left (by rw [← h.1]; exact hj)] at b
    exact h.2 j T r a b
  · rw [List.getElem?_append_right (by omega)] at a
    rw [List.getElem?_append_right (by rw [← h.1]; omega), ← h.1] at b
    exact h2.2 _ T r a b
theorem RowsAt.one {T : Addr} {r : Row} (h : H T = some (.tup (rowV r))) : RowsAt H [T] [r] := ⟨rfl, fun j U s a b => by
  cases j with
  | zero => simp at a b; subst a; subst b; exact h
  | succ j => simp at a⟩
theorem RowsAt.rev (h : RowsAt H ts rs) : RowsAt H ts.reverse rs.reverse := by
  refine ⟨by rw [List.length_reverse, List.length_reverse, h.1], fun j T r a b => ?_⟩
  have hj : j < ts.length := by have := (List.getElem?_eq_some_iff.mp a).1; simpa using this
  rw [List.getElem?_reverse hj] at a
  rw [List.getElem?_reverse (by rw [← h.1]; exact hj), ← h.1] at b
  exact h.2 _ T r a b
theorem RowsAt.rep {T : Addr} {r : Row} (n : Nat) (h : H T = some (.tup (rowV r))) : RowsAt H (List.replicate n T) (List.replicate n r) := ⟨by simp, fun j U s a b => by
  obtain ⟨_, rfl⟩ := List.mem_replicate.mp (List.mem_of_getElem? a)
  obtain ⟨_, rfl⟩ := List.mem_replicate.mp (List.mem_of_getElem? b)
  exact h⟩
theorem RowsAt.get (h : RowsAt H ts rs) {k : Nat} {y : V} (hy : (ts.map V.ref)[k]? = some y) : ∃ T r, y = .ref T ∧ rs[k]? = some r ∧ H T = some (.tup (rowV r)) := by
  rw [List.getElem?_map] at hy
  obtain ⟨T, hT, rfl⟩ := Option.map_eq_some_iff.mp hy
  have hk : k < rs.length := by rw [← h.1]; exact (List.getElem?_eq_some_iff.mp hT).1
  exact ⟨T, rs[k], rfl, List.getElem?_eq_getElem hk, h.2 k T _ hT (List.getElem?_eq_getElem hk)⟩
theorem RowsAt.at (h : RowsAt H ts rs) {k : Nat} {r : Row} (hr : rs[k]? = some r) : ∃ T, (ts.map V.ref)[k]? = some (.ref T) ∧ H T = some (.tup (rowV r)) := by
  have hk : k < ts.length := by rw [h.1]; exact (List.getElem?_eq_some_iff.mp hr).1
  exact ⟨ts[k], by rw [List.getElem?_map, List.getElem?_eq_getElem hk] <;> rfl, h.2 k _ r (List.getElem?_eq_getElem hk) hr⟩
theorem given_rows {f : Row → V} : given rs.length (fun _ => true) (fun k => f (rs.getD k (0, 0))) = rs.map f := by
  unfold given
  rw [List.filter_eq_self.mpr (fun _ _ => rfl)]
  apply List.ext_getElem
  · simp
  · intro k h1 h2
    have hk : k < rs.length := by simpa using h2
    simp [List.getD_eq_getElem?_getD, List.getElem?_eq_getElem hk]
theorem getD_row {k : Nat} {r : Row} (h : rs[k]? = some r) : rs.getD k (0, 0) = r := by rw [List.getD_eq_getElem?_getD, h] <;> rfl
/-- [e for row in rows] -/
theorem el_rowsL (f : Row → V) (h : Ev tl σ H (.ref a)) (hs : RowsL H a rs) (hz : rs.length ≤ 40000) (hw : ∀ x, wipe ((wipe σ vs).set j (some x)) vs = wipe σ vs)
    (he : ∀ (T : Addr) (r : Row) H1, Ex H H1 → r ∈ rs → H1 T = some (.tup (rowV r)) → Ev te ((wipe σ vs).set j (some (.ref T))) H1 (f r)) : EvL (tLc (iList K tl) (gName j) tYes te vs) σ H (rs.map f) := by
  obtain ⟨ts, h1, h2⟩ := hs
  have e0 : (ts.map V.ref).length = rs.length := by rw [List.length_map, h2.1]
  rw [← given_rows, ← e0]
  refine el_lcL (fun _ => true) (fun k => f (rs.getD k (0, 0))) h (sq_of h1) (by omega) hw (fun _ _ _ _ _ => lc_yes) (fun k y H1 e1 hk _ => ?_)
  obtain ⟨T, r, rfl, hr, hT⟩ := h2.get hk
  rw [getD_row hr]
  exact he T r H1 e1 (List.mem_of_getElem? hr) (e1 T _ hT)
theorem el_rowsU (f : Row → V) (h : Ev tl σ H (.ref a)) (hs : RowsU H a rs) (hz : rs.length ≤ 40000) (hw : ∀ x, wipe ((wipe σ vs).set j (some x)) vs = wipe σ vs)
    (he : ∀ (T : Addr) (r : Row) H1, Ex H H1 → r ∈ rs → H1 T = some (.tup (rowV r)) → Ev te ((wipe σ vs).set j (some (.ref T))) H1 (f r)) : EvL (tLc (iTup K tl) (gName j) tYes te vs) σ H (rs.map f) := by
  obtain ⟨ts, h1, h2⟩ := hs
  have e0 : (ts.map V.ref).length = rs.length := by rw [List.length_map, h2.1]
  rw [← given_rows, ← e0]
  refine el_lcT (fun _ => true) (fun k => f (rs.getD k (0, 0))) h (st_of h1) (by omega) hw (fun _ _ _ _ _ => lc_yes) (fun k y H1 e1 hk _ => ?_)
  obtain ⟨T, r, rfl, hr, hT⟩ := h2.get hk
  rw [getD_row hr]
  exact he T r H1 e1 (List.mem_of_getElem? hr) (e1 T _ hT)
/-- [e for a, b in rows] -/
theorem el_rows2L (f : Row → V) (h : Ev tl σ H (.ref a)) (hs : RowsL H a rs) (hz : rs.length ≤ 40000) (hw : ∀ x y, wipe (((wipe σ vs).set i (some x)).set j (some y)) vs = wipe σ vs)
    (he : ∀ (r : Row) H1, Ex H H1 → r ∈ rs → Ev te (((wipe σ vs).set i (some (.int r.1))).set j (some (.int r.2))) H1 (f r)) : EvL (tLc (iList K tl) (gTup K 2 (gCons (gName i) (gCons (gName j) gNil))) tYes te vs) σ H (rs.map f) := fun H0 e Q q => h H0 e _ fun H1 e1 => by
  obtain ⟨ts, h1, h2⟩ := hs
  have e0 : (ts.map V.ref).length = rs.length := by rw [List.length_map, h2.1]
  have hs1 := (e.trans e1) a _ h1
  have h21 := h2.mono (e.trans e1)
  refine ⟨a, rfl, ⟨_, sq_of hs1⟩, fun Dl hD => lc_list (xs := ts.map V.ref) (Cw H1 (fun _ => true) (fun k => f (rs.getD k (0, 0))) Dl) ⟨hD, Ex.new hD, upd_same⟩ (fun k H' _ p => sq_of (p.2.1 a _ hs1)) (fun k y H' hi p => ?_) (fun H' p => ?_)⟩
  · obtain ⟨T, r, rfl, hr, hT⟩ := h21.get hi
    have hk : k < rs.length := (List.getElem?_eq_some_iff.mp hr).1
    refine ⟨T, _, rfl, st_of (p.2.1 T _ hT), rfl, _, _, rfl, _, _, rfl, rfl, hw _ _, cw_turn p (by omega) lc_yes (fun _ => ?_)⟩
    rw [getD_row hr]
    exact he r H1 (e.trans e1) (List.mem_of_getElem? hr)
  · rw [e0] at p
    refine q Dl H' (fresh_back e1 p.1) (e1.trans p.2.1) ?_
    rw [p.2.2, given_rows]
theorem el_rows2U (f : Row → V) (h : Ev tl σ H (.ref a)) (hs : RowsU H a rs) (hz : rs.length ≤ 40000) (hw : ∀ x y, wipe (((wipe σ vs).set i (some x)).set j (some y)) vs = wipe σ vs)
    (he : ∀ (r : Row) H1, Ex H H1 → r ∈ rs → Ev te (((wipe σ vs).set i (some (.int r.1))).set j (some (.int r.2))) H1 (f r)) : EvL (tLc (iTup K tl) (gTup K 2 (gCons (gName i) (gCons (gName j) gNil))) tYes te vs) σ H (rs.map f) := fun H0 e Q q => h H0 e _ fun H1 e1 => by
  obtain ⟨ts, h1, h2⟩ := hs
  have e0 : (ts.map V.ref).length = rs.length := by rw [List.length_map, h2.1]
  have hs1 := (e.trans e1) a _ h1
  have h21 := h2.mono (e.trans e1)
  refine ⟨a, rfl, ⟨_, st_of hs1⟩, fun Dl hD => lc_tup (xs := ts.map V.ref) (Cw H1 (fun _ => true) (fun k => f (rs.getD k (0, 0))) Dl) ⟨hD, Ex.new hD, upd_same⟩ (fun k H' _ p => st_of (p.2.1 a _ hs1)) (fun k y H' hi p => ?_) (fun H' p => ?_)⟩
  · obtain ⟨T, r, rfl, hr, hT⟩ := h21.get hi
    have hk : k < rs.length := (List.getElem?_eq_some_iff.mp hr).1
    refine ⟨T, _, rfl, st_of (p.2.1 T _ hT), rfl, _, _, rfl, _, _, rfl, rfl, hw _ _, cw_turn p (by omega) lc_yes (fun _ => ?_)⟩
    rw [getD_row hr]
    exact he r H1 (e.trans e1) (List.mem_of_getElem? hr)
  · rw [e0] at p
    refine q Dl H' (fresh_back e1 p.1) (e1.trans p.2.1) ?_
    rw [p.2.2, given_rows]
/-- all(..) of such a list -/
theorem rc_allR {f : Row → Bool} (h : H p = some (.lst (rs.map fun r => V.bl (f r)))) : RC (rAll K) [.ref p] H (.bl (rs.all f)) := by
  have := rc_all (K := K) (H := H) (p := p) (bs := rs.map f) (sq_of (by rw [List.map_map]; exact h))
  have e2 : (rs.map f).all id = rs.all f := by rw [List.all_map]; rfl
  rw [e2] at this
  exact this

/-! ### what evaluates to a new list of pairs -/
def EvP (te : TE) (σ : L2.St) (H : Hp) (rs : List Row) : Prop := ∀ H1, Ex H H1 → ∀ Q : VK, (∀ p H2, H1 p = none → Ex H1 H2 → RowsL H2 p rs → Q (.ref p) H2) → te σ H1 Q
def SpP (sp : Sp) (vs : List V) (H : Hp) (rs : List Row) : Prop := ∀ H1, Ex H H1 → ∀ Q : VK, (∀ p H2, H1 p = none → Ex H1 H2 → RowsL H2 p rs → Q (.ref p) H2) → ∀ E : XK, sp vs H1 Q E
theorem q_asgP (h : EvP te σ H rs) (k : ∀ p H1, H p = none → Ex H H1 → RowsL H1 p rs → tz D (σ.set i (some (.ref p))) H1) : tSeq (tAsg te (gName i)) tz D σ H := h H (Ex.refl H) _ k
/-- a list whose elements are those of others -/
theorem evp_of {xs : List V} (h : EvL te σ H xs) (hx : ∀ H1, Ex H H1 → ∃ ts, xs = ts.map V.ref ∧ RowsAt H1 ts rs) : EvP te σ H rs := fun H1 e Q q => h H1 e Q fun p H2 hp e2 h2 => by
  obtain ⟨ts, rfl, hr⟩ := hx H2 (e.trans e2)
  exact q p H2 hp e2 ⟨ts, h2, hr⟩
/-- list(rows) -/
theorem evp_list (h : Ev ta σ H (.ref a)) (hs : RowsL H a rs) : EvP (tCB (fun xs H Q => ∃ p ys, xs = [.ref p] ∧ (SqL K H p ys ∨ SqT K H p ys) ∧ ∀ l, H l = none → Q (.ref l) (upd H l (.lst ys))) (tCons ta tNil)) σ H rs := by
  obtain ⟨ts, h1, h2⟩ := hs
  exact evp_of (el_cb (ea_cons h ea_nil) (rc_list (.inl (sq_of h1)))) fun H1 e => ⟨ts, rfl, h2.mono e⟩
/-- rows[::-1] -/
theorem evp_rev (h : Ev ta σ H (.ref a)) (hs : RowsL H a rs) : EvP (tRevL K ta) σ H rs.reverse := fun H1 e Q q => h H1 e _ fun H2 e2 => by
  obtain ⟨ts, h1, h2⟩ := hs
  refine ⟨a, _, rfl, sq_of ((e.trans e2) a _ h1), fun p hp => q p _ (fresh_back e2 hp) (e2.trans (Ex.new hp)) ⟨ts.reverse, by rw [upd_same, List.map_reverse], (h2.mono ((e.trans e2).trans (Ex.new hp))).rev⟩⟩
/-- rows + more -/
theorem evp_cat (ha : Ev ta σ H (.ref a)) (hb : Ev tb σ H (.ref q)) (hs : RowsL H a rs) (hr : RowsL H q ss) (hz : rs.length + ss.length ≤ 100000) : EvP (tOp rCat ta tb) σ H (rs ++ ss) := fun H1 e Q k => ha H1 e _ fun H2 e2 => hb H2 (e.trans e2) _ fun H3 e3 => by
  obtain ⟨ts, h1, h2⟩ := hs
  obtain ⟨us, g1, g2⟩ := hr
  have e03 := (e.trans e2).trans e3
  refine ⟨a, q, _, _, rfl, rfl, e03 a _ h1, e03 q _ g1, sz_of (by rw [List.length_map, List.length_map, h2.1, g2.1]; exact hz), fun p hp => k p _ (fresh_back (e2.trans e3) hp) ((e2.trans e3).trans (Ex.new hp)) ⟨ts ++ us, by rw [upd_same, List.map_append], ?_⟩⟩
  exact (h2.mono (e03.trans (Ex.new hp))).app (g2.mono (e03.trans (Ex.new hp)))
/-- [row] -/
theorem evp_one {r : Row} (h : Ev ta σ H (.ref q)) (hq : H q = some (.tup (rowV r))) : EvP (tLst (tCons ta tNil)) σ H [r] := evp_of (el_lst (ea_cons h ea_nil) (by show 1 ≤ 100000; decide)) fun H1 e => ⟨[q], rfl, .one (e q _ hq)⟩
theorem flat_rep {v : V} : ∀ n : Nat, (List.replicate n [v]).flatten = List.replicate n v
  | 0 => rfl
  | n + 1 => by rw [List.replicate_succ, List.replicate_succ, List.flatten_cons, List.singleton_append, flat_rep n]
/-- [row] * n -/
theorem evp_rep {r : Row} {n : Nat} (h : Ev ta σ H (.ref q)) (hq : H q = some (.tup (rowV r))) (hb : Ev tb σ H (.int (n : Int))) (hn : n ≤ 10000) : EvP (tOp rRep (tLst (tCons ta tNil)) tb) σ H (List.replicate n r) := fun H1 e Q k => by
  refine (el_lst (ea_cons h ea_nil) (by show 1 ≤ 100000; decide)) H1 e _ fun p H2 hp e2 h2 => ?_
  refine hb H2 (e.trans e2) _ fun H3 e3 => ?_
  refine ⟨p, (n : Int), [.ref q], rfl, rfl, e3 p _ h2, by omega, by omega, by rw [Int.toNat_natCast]; exact sz_of (by show 1 * n ≤ 100000; omega), fun u hu => ?_⟩
  refine k u _ (fresh_back (e2.trans e3) hu) ((e2.trans e3).trans (Ex.new hu)) ⟨List.replicate n q, ?_, .rep n (((e.trans e2).trans e3).trans (Ex.new hu) |> fun z => z q _ hq)⟩
  rw [upd_same, Int.toNat_natCast, List.map_replicate]
  rw [flat_rep]
/-- tuple(rows) -/
def EvPU (te : TE) (σ : L2.St) (H : Hp) (rs : List Row) : Prop := ∀ H1, Ex H H1 → ∀ Q : VK, (∀ p H2, H1 p = none → Ex H1 H2 → RowsU H2 p rs → Q (.ref p) H2) → te σ H1 Q
theorem evpu_tuple (h : Ev ta σ H (.ref a)) (hs : RowsL H a rs) : EvPU (tCB (fun xs H Q => ∃ p ys, xs = [.ref p] ∧ ((SqL K H p ys ∧ ∀ l, H l = none → Q (.ref l) (upd H l (.tup ys))) ∨ (SqT K H p ys ∧ Q (.ref p) H))) (tCons ta tNil)) σ H rs := fun H1 e Q q =>
  h H1 e _ fun H2 e2 => by
    obtain ⟨ts, h1, h2⟩ := hs
    exact ⟨a, _, rfl, .inl ⟨sq_of ((e.trans e2) a _ h1), fun l hl => q l _ (fresh_back e2 hl) (e2.trans (Ex.new hl)) ⟨ts, upd_same, h2.mono ((e.trans e2).trans (Ex.new hl))⟩⟩⟩
end G
end
section
set_option maxHeartbeats 2000000
namespace G
open PySem PySem.Spec PyProof.Rows L2 Evl
/-! ### == and != of two instances by the text's own == -/
section
variable {prog : Program} {w : World} {A : Around} {Er : Value → Shared → Prop} {s : Shared} {K : PySem.W.Frag} {x C f : Addr} {ox : Obj} {od : Option Obj} {b : Value}
theorem bound_ne {M : Model} {args : List Value} {Q : Option Value → Shared → Prop} (X : K.In s.heap) (I : PySem.W.InstAt s.heap x ox C od) (hs : PySem.W.findIn K (.ref C) "__ne__" = some (some (.builtin "object.__ne__")))
    (h : wpAny M A (call (.builtin "object.__ne__") (.ref x :: args)) (fun v => Q (some v)) Er s) : wpAny M A (callSpecialIfBound? (.ref x) "__ne__" args) Q Er s := by
  simp only [callSpecialIfBound?, bindSpecialIfBound?]
  refine wpAny_holding (wpAny_bind (wpAny_bind (wpAny_bind (I.type.here ((PySem.W.looks_findIn X hs).here ?_)))))
  refine wpAny_bind (wpAny_askSetting (wpAny_ite ?_))
  have fin : wpAny M A (call (.builtin "object.__ne__") ([.ref x] ++ args) >>= fun v => pure (some v)) Q Er s := wpAny_bind (wpAny_mono h (fun v s' q => wpAny_pure q) fun _ _ q => q)
  split
  · exact wpAny_bind (wpAny_of_eq (F.cmp_object.ne.bind _) (wpAny_pure (by exact fin)))
  · exact wpAny_tryCatch (wpAny_bind (wpAny_of_eq (F.cmp_object.ne.bind _) (wpAny_pure (by exact fin))))
theorem entry_ne {Q : Fin → Shared → Prop} (hu : A.units < cLine) (X : K.In s.heap) (I : PySem.W.InstAt s.heap x ox C od) (hs : PySem.W.findIn K (.ref C) "__eq__" = some (some (.ref f))) (hf : PySem.W.isFn K (.ref f) = true)
    (h : wpAny (model prog w) A (call (.ref f) [.ref x, b]) (fun v s' => ∃ c, v = .bool c ∧ Q (.done (.ret (.bool (!c)))) s') Er s) : wpAny (model prog w) A (Builtin.«object.__ne__» ⟨[.ref x, b], []⟩) Q Er s := by
  unfold Builtin.«object.__ne__»
  repeat (first
    | with_reducible refine wpAny_cRoomFor hu ?_
    | (refine wpAny_bind (m := callSpecialIfBound? (.ref x) (Str.ofString "__eq__") [b])
        (PySem.W.ifBound_K X I hs hf (wpAny_mono h (fun r s' hr => by
          obtain ⟨c, rfl, hq⟩ := hr
          repeat (first | exact hq | exact wpAny_pure hq | exact wpAny_truthy_bool hq | (refine wpAny_bind (m := truthy (.bool _)) (wpAny_truthy_bool ?_)) | wp_step)) fun _ _ e => e)))
    | wp_step)
theorem rich_ne {Q : Value → Shared → Prop} (hu : A.units + 1 < cLine) (X : K.In s.heap) (I : PySem.W.InstAt s.heap x ox C od) (hb : PySem.W.Looks (model prog w) s.heap (typeOf b) (.ref C))
    (hm : PySem.W.mroIn K C (.type "object") = some true) (hn : PySem.W.findIn K (.ref C) "__ne__" = some (some (.builtin "object.__ne__"))) (hs : PySem.W.findIn K (.ref C) "__eq__" = some (some (.ref f))) (hf : PySem.W.isFn K (.ref f) = true)
    (h : wpAny (model prog w) A.in1 (call (.ref f) [.ref x, b]) (fun v s' => ∃ c, v = .bool c ∧ Q (.bool (!c)) s') Er s) : wpAny (model prog w) A (richCompare .NotEq (.ref x) b) Q Er s := by
  have one : wpAny (model prog w) A (tryCompare (.ref x) "__ne__" b) (fun r s' => ∃ v, r = some v ∧ Q v s') Er s := by
    unfold tryCompare
    refine wpAny_bind (bound_ne X I hn (wpAny_call (codeAny_call_builtin F.cmp_object.ne.plain F.cmpEntry_ne (PySem.W.check_slot F.cmpKind_ne F.cmpSplit_ne (I.type.andThen (PySem.W.looks_mroIn X hm)) (F.cmpArgs_ne _ _)
      (entry_ne (A := A.in1) hu X I hs hf (wpAny_mono h (fun v s' hv => ?_) fun _ _ e => e))))))
    obtain ⟨c, rfl, hq⟩ := hv
    exact ⟨c, rfl, wpAny_pure ⟨_, rfl, hq⟩⟩
  unfold richCompare
  simp only [oneThing_ref, cmpInfo_NotEq]
  refine wpAny_holding (wpAny_bind (wpAny_cRoomFor (Nat.lt_of_succ_lt hu) ?_))
  refine wpAny_bind (I.type.here (wpAny_bind (hb.here ?_)))
  simp only [bne_self_eq_false, Bool.false_eq_true, if_false]
  refine wpAny_bind (wpAny_pure ?_)
  simp only [Bool.false_eq_true, if_false]
  refine wpAny_bind (wpAny_mono one (fun r s' z => ?_) fun _ _ e => e)
  obtain ⟨v, rfl, hq⟩ := z
  exact wpAny_pure hq
end
section
variable {X : Cx} {CX : CXT} {k : Nat} {f C : Addr} {fd : FuncData} {ps : List Str} {sp : Sp} {E : XK}
/-- x == y, x != y of two instances of the class at C, by its own == -/
def rEqO (C : Addr) (sp : Sp) (E : XK) : R2 := fun x y H Q => ∃ a b dx dy fs gs, x = .ref a ∧ y = .ref b ∧ H a = some (.ins C dx fs) ∧ H b = some (.ins C dy gs) ∧ sp [.ref a, .ref b] H (fun v H' => (∃ c, v = .bl c) ∧ Q v H') E
def rNeO (C : Addr) (sp : Sp) (E : XK) : R2 := fun x y H Q => ∃ a b dx dy fs gs, x = .ref a ∧ y = .ref b ∧ H a = some (.ins C dx fs) ∧ H b = some (.ins C dy gs) ∧ sp [.ref a, .ref b] H (fun v H' => ∃ c, v = .bl c ∧ Q (.bl (!c)) H') E
theorem call_eqO {A : Around} {pins : List (Addr × Obj)} {s : Shared} {σ : L2.St} {H : Hp} {a b : Addr} {Q : VK} (F : FnOk X.prog X.w X.K X.mg X.base CX k f fd ps sp) (hb : Binds X.K fd ps []) (hx : Passes CX X E) (hr : Room k A) (hfr : A.frames = X.A.frames) (I : Inv X pins σ H s)
    (h : sp [.ref a, .ref b] H Q E) : wpAny (model X.prog X.w) A (call (.ref f) [.ref a, .ref b]) (EP X pins σ Q) X.xe s := by
  have r2 : Vals [V.ref a, V.ref b] [Value.ref a, Value.ref b] := .cons rfl (.cons rfl .nil)
  have hl := F.len _ _ _ _ h
  have e0 : Env0 X.prog X.w X.K X.mg X.base A X.stack s H := { I.env0 with frames := hfr.trans I.env0.frames }
  refine wpAny_call (codeAny_mono (F.run A X.stack s H ⟨[.ref a, .ref b], []⟩ [.ref a, .ref b] [.ref a, .ref b] Q E hr e0 (by simpa using hb s [.ref a, .ref b] I.kIn (by simpa using hl)) r2 h) fun r s' hq => ?_)
  match r, hq with
  | .error e, hq => exact hx pins σ H s e s' I hq
  | .ok (.ret u), hq => exact I.after hq
  | .ok .next, hq => exact hq.elim
  | .ok .brk, hq => exact hq.elim
  | .ok .cont, hq => exact hq.elim
theorem op_eqO (F : FnOk X.prog X.w X.K X.mg X.base CX k f fd ps sp) (hs : PySem.W.findIn X.K (.ref C) "__eq__" = some (some (.ref f))) (hf : PySem.W.isFn X.K (.ref f) = true) (hb : Binds X.K fd ps []) (hx : Passes CX X E) (hr : Room k X.A) :
    OpR X (compareOp .Eq) (rEqO C sp E) := by
  intro pins s σ H x y u v Q I rx ry h
  obtain ⟨a, b, dx, dy, fs, gs, rfl, rfl, ha, hb', h⟩ := h
  cases rx
  cases ry
  obtain ⟨mA, J, _⟩ := ins_get I.hok ha
  obtain ⟨mB, J', _⟩ := ins_get I.hok hb'
  obtain ⟨od, J, _⟩ := J.look
  obtain ⟨od', J', _⟩ := J'.look
  obtain ⟨m, hF⟩ := I.fr
  refine PySem.W.cmp_ofEq (PySem.W.cmp_K (op := .Eq) (tb := .ref C) hr.units0 hF I.ok.mod.kin J J'.type (by simp [PySem.W.notFirst]) hs hf ?_)
  refine wpAny_mono (call_eqO F hb hx hr rfl I h) (fun w s' hq => ?_) fun _ _ q => q
  obtain ⟨z, H', I', rz, ⟨c, rfl⟩, q⟩ := hq
  cases rz
  exact ⟨.bl c, H', I', rfl, q⟩
theorem op_neO (F : FnOk X.prog X.w X.K X.mg X.base CX k f fd ps sp) (hm : PySem.W.mroIn X.K C (.type "object") = some true) (hn : PySem.W.findIn X.K (.ref C) "__ne__" = some (some (.builtin "object.__ne__"))) (hs : PySem.W.findIn X.K (.ref C) "__eq__" = some (some (.ref f)))
    (hf : PySem.W.isFn X.K (.ref f) = true) (hb : Binds X.K fd ps []) (hx : Passes CX X E) (hr : Room (k + 1) X.A) : OpR X (compareOp .NotEq) (rNeO C sp E) := by
  intro pins s σ H x y u v Q I rx ry h
  obtain ⟨a, b, dx, dy, fs, gs, rfl, rfl, ha, hb', h⟩ := h
  cases rx
  cases ry
  obtain ⟨mA, J, _⟩ := ins_get I.hok ha
  obtain ⟨mB, J', _⟩ := ins_get I.hok hb'
  obtain ⟨od, J, _⟩ := J.look
  obtain ⟨od', J', _⟩ := J'.look
  have hu := hr.units
  refine PySem.W.cmp_ofNotEq (rich_ne (by omega) I.kIn J J'.type hm hn hs hf ?_)
  refine wpAny_mono (call_eqO (A := X.A.in1) F hb hx hr.in1 rfl I h) (fun w s' hq => ?_) fun _ _ q => q
  obtain ⟨z, H', I', rz, c, rfl, q⟩ := hq
  cases rz
  exact ⟨c, rfl, .bl (!c), H', I', rfl, q⟩
end
end G
end
section
set_option maxHeartbeats 2000000
namespace G
open PySem PySem.Spec PyProof.Rows L2 Evl
section
variable {X : Cx} {CX : CXT} {k j : Nat} {f : Addr} {fd : FuncData} {ps ks : List Str} {sp : Sp} {E : XK} {x : Str} {p pos : Pos} {kws : List Keyword} {tk : TA} {g : List Value → List Value → List Value} {gV : List V → List V → List V}
/-- f(k = v, ..) -/
def tCallN0 (j : Nat) (sp : Sp) (gV : List V → List V → List V) (E : XK) (tk : TA) : TE := fun σ H Q => tk σ H fun zs H1 => zs.length = j ∧ sp (gV [] zs) H1 Q E
theorem pe_callN0 (F : FnOk X.prog X.w X.K X.mg X.base CX k f fd ps sp) (hr : Room k X.A) (hg : Gl X x) (hm : X.mg x = some (.ref f)) (hk : PySem.W.keepIn X.K (.ref f) = true) (hb : KBn X.K fd ps 0 ks g gV) (hx : Passes CX X E) (hkw : PK X kws tk)
    (hall : (backToKw pos (keywordEach kws X.env)).all (·.1.isSome) = true := by rfl) (hks : (backToKw pos (keywordEach kws X.env)).filterMap (·.1) = ks := by rfl) (hdb : (x == ("__debug__" : Str)) = false := by decide)
    (hpl : ((backTo pos (starEach [] X.env)).any (·.1) || (backToKw pos (keywordEach kws X.env)).any (·.1.isNone)) = false := by rfl) : PE X (.Call (.Name x p) [] kws pos) (tCallN0 ks.length sp gV E tk) := by
  refine ⟨fun pins s σ H Q I h => wpAny_Call_Name_kw (ld_glob I hg hm ?_ hdb)⟩
  refine PySem.W.callWith_KW0 (first := []) (h₀ := X.base) I.ok.mod.kin hk hall ?_ hpl
  refine thn (hkw.run pos pins s σ H _ I h) fun ws s1 ⟨zs, H1, I1, rz, l1, q1⟩ => ⟨I1.kIn, ?_⟩
  rw [hks]
  exact run_fnN (us := []) (vs := []) F hr hb hx I1 .nil rz rfl l1 q1
end
section
variable {X : Cx} {K : PySem.W.Frag} {tg e : Expr} {te : TE}
theorem piL (hK : X.K = K) (h : PE X e te) : PI X tg e (iList K te) := hK ▸ pi_list h
theorem piT (hK : X.K = K) (h : PE X e te) : PI X tg e (iTup K te) := hK ▸ pi_tup h
end
/-- lcm(a, b) -/
def rLcm : List V → Hp → VK → Prop := fun vs H Q => ∃ a b : Int, vs = [.int a, .int b] ∧ a.natAbs < 18446744073709551616 ∧ b.natAbs < 18446744073709551616 ∧ Q (.int ((Nat.lcm a.natAbs b.natAbs : Nat) : Int)) H
theorem cr_lcm {X : Cx} : CallR X (.builtin "math.lcm") rLcm := by
  intro pins s σ H vs us Q I r h
  obtain ⟨a, b, rfl, ha, hb, q⟩ := h
  obtain ⟨t, u, rfl⟩ := Vals.int2 r
  exact PySem.W.mc_lcm ha hb fun _ => ⟨.int _, H, I.tok _, ⟨_, rfl⟩, q⟩
variable {K : PySem.W.Frag} {σ : L2.St} {H H' : Hp} {ta tb te tl tx tc : TE} {tt : TT} {x y z v w : V} {p a q C dx : Addr} {tA tr tk : TA} {rs ss : List Row} {vs : List Nat} {i j : Nat} {Q : VK} {E : XK} {D : Ends} {tz : TS} {d : PyData} {ds : List PyData} {sp : Sp} {ws zs : List V} {gV : List V → List V → List V} {xs : List V}
theorem rc_lcm {a b : Int} (ha : a.natAbs < 18446744073709551616) (hb : b.natAbs < 18446744073709551616) : RC rLcm [.int a, .int b] H (.int ((Nat.lcm a.natAbs b.natAbs : Nat) : Int)) := fun H1 e Q q => ⟨a, b, rfl, ha, hb, q H1 (Ex.refl _)⟩
theorem ev_callN0 {n : Nat} (h : EvA tk σ H zs) (hn : zs.length = n) (hs : SpV sp (gV [] zs) H z) : Ev (tCallN0 n sp gV E tk) σ H z := fun H1 e Q q => h H1 e _ fun H2 e2 => ⟨hn, hs H2 (e.trans e2) Q (fun H3 e3 => q H3 (e2.trans e3)) E⟩
theorem rv_isN : RV (fun x y H Q => y = .non ∧ Q (.bl (decide (x = .non))) H) x .non H (.bl (decide (x = .non))) := fun H1 _ Q q => ⟨rfl, q H1 (Ex.refl _)⟩
theorem rv_notN : RV (fun x y H Q => y = .non ∧ Q (.bl (!decide (x = .non))) H) x .non H (.bl (!decide (x = .non))) := fun H1 _ Q q => ⟨rfl, q H1 (Ex.refl _)⟩
/-! ### a new instance, as a value -/
/-- what evaluates to an instance of the class at C of which M tells -/
def EvM (te : TE) (σ : L2.St) (H : Hp) (M : Hp → Addr → Prop) : Prop := ∀ H1, Ex H H1 → ∀ Q : VK, (∀ p H2, H1 p = none → Ex H1 H2 → M H2 p → Q (.ref p) H2) → te σ H1 Q
def SpM (sp : Sp) (vs : List V) (H : Hp) (M : Hp → Addr → Prop) : Prop := ∀ H1, Ex H H1 → ∀ Q : VK, (∀ p H2, H1 p = none → Ex H1 H2 → M H2 p → Q (.ref p) H2) → ∀ E : XK, sp vs H1 Q E
theorem q_asgM {M : Hp → Addr → Prop} (h : EvM te σ H M) (k : ∀ p H1, H p = none → Ex H H1 → M H1 p → tz D (σ.set i (some (.ref p))) H1) : tSeq (tAsg te (gName i)) tz D σ H := h H (Ex.refl H) _ k
theorem evm_call {dvs : List V} {M : Hp → Addr → Prop} (ha : EvA tA σ H ws) (hs : SpM sp (ws ++ dvs) H M) : EvM (tCall sp dvs E tA) σ H M := fun H1 e Q q =>
  ha H1 e _ fun H2 e2 => hs H2 (e.trans e2) Q (fun p H3 n3 e3 h3 => q p H3 (fresh_back e2 n3) (e2.trans e3) h3) E
theorem evm_callN0 {n : Nat} {M : Hp → Addr → Prop} (h : EvA tk σ H zs) (hn : zs.length = n) (hs : SpM sp (gV [] zs) H M) : EvM (tCallN0 n sp gV E tk) σ H M := fun H1 e Q q =>
  h H1 e _ fun H2 e2 => ⟨hn, hs H2 (e.trans e2) Q (fun p H3 n3 e3 h3 => q p H3 (fresh_back e2 n3) (e2.trans e3) h3) E⟩
/-! ### data, once more -/
theorem evd_callA {dvs : List V} (h : tA σ H fun ws H1 => Ex H H1 ∧ SpD K sp (ws ++ dvs) H1 d) (hm : ∀ {Q1 Q2 : List V → Hp → Prop}, (∀ x H1, Q1 x H1 → Q2 x H1) → tA σ H Q1 → tA σ H Q2) (k : ∀ v H2, Ex H H2 → Dp K H2 v d → Q v H2) : tCall sp dvs E tA σ H Q :=
  hm (fun ws H1 h => h.2 H1 (Ex.refl _) Q (fun v H2 e2 hv => k v H2 (h.1.trans e2) hv) E) h
def dRow (r : Row) : PyData := .tuple [.int r.1, .int r.2]
def dRows (rs : List Row) : PyData := .list (rs.map dRow)
theorem dp_rowsAt {ts : List Addr} (h : RowsAt H ts rs) : DpAll K H (ts.map V.ref) (rs.map dRow) := by
  obtain ⟨hl, ht⟩ := h
  induction ts generalizing rs with
  | nil =>
    cases rs with
    | nil => exact .nil
    | cons r rs => simp at hl
  | cons T ts ih =>
    cases rs with
    | nil => simp at hl
    | cons r rs =>
      exact .cons (.tup (st_of (ht 0 T r rfl rfl)) (.cons (.int _) (.cons (.int _) .nil))) (ih (by simpa using hl) fun j U s a b => ht (j + 1) U s (by simpa using a) (by simpa using b))
theorem dp_rowsL (h : RowsL H a rs) : Dp K H (.ref a) (dRows rs) := let ⟨ts, h1, h2⟩ := h; .lst (sq_of h1) (dp_rowsAt h2)
theorem dp_rowsU (h : RowsU H a rs) : Dp K H (.ref a) (.tuple (rs.map dRow)) := let ⟨ts, h1, h2⟩ := h; .tup (st_of h1) (dp_rowsAt h2)
theorem evd_eqD {d e : PyData} (ha : EvD K ta σ H d) (hb : EvD K tb σ H e) (h1 : SeqAt.shaped d = true) (h2 : SeqAt.shaped e = true) : Ev (tOp (rEqD K) ta tb) σ H (.bl (PyData.eqv d e)) := fun H1 e1 Q q =>
  ha H1 e1 _ fun v H2 e2 hv => hb H2 (e1.trans e2) _ fun u H3 e3 hu => ⟨_, _, dp_mono e3 hv, hu, h1, h2, q H3 (e2.trans e3)⟩
theorem evd_neD {d e : PyData} (ha : EvD K ta σ H d) (hb : EvD K tb σ H e) (h1 : SeqAt.shaped d = true) (h2 : SeqAt.shaped e = true) : Ev (tOp (rNeD K) ta tb) σ H (.bl (!PyData.eqv d e)) := fun H1 e1 Q q =>
  ha H1 e1 _ fun v H2 e2 hv => hb H2 (e1.trans e2) _ fun u H3 e3 hu => ⟨_, _, dp_mono e3 hv, hu, h1, h2, q H3 (e2.trans e3)⟩
end G
end
section
set_option maxHeartbeats 4000000
/-! own errors over any built-in one -/
namespace G
open PySem PySem.W PySem.Calls PyProof.Rows PySem.HandSPX PySem.OEX
section
open Builtin Builtin.ObjectAttr
structure Tail (tl : List Value) : Prop where
  pass : ∀ self, refuseLoop self "__setattr__" tl = pure ()
  ne : tl.isEmpty = false
  ob : tl.contains (.type "object") = true
theorem tail_arith : Tail [.type "ArithmeticError", .type "Exception", .type "BaseException", .type "object"] := ⟨fun self => by kernel_rfl, rfl, by decide +kernel⟩
theorem tail_lookup : Tail [.type "LookupError", .type "Exception", .type "BaseException", .type "object"] := ⟨fun self => by kernel_rfl, rfl, by decide +kernel⟩
theorem tail_value : Tail [.type "ValueError", .type "Exception", .type "BaseException", .type "object"] := ⟨fun self => by kernel_rfl, rfl, by decide +kernel⟩
def Over (tl bm : List Value) : Prop := ∃ cs : List Addr, bm = cs.map Value.ref ++ tl
theorem Over.cons {tl bm : List Value} (h : Over tl bm) (C : Addr) : Over tl (.ref C :: bm) := let ⟨cs, e⟩ := h; ⟨C :: cs, by rw [e]; rfl⟩
theorem Over.pass {tl bm : List Value} (T : Tail tl) (h : Over tl bm) (self : Value) : refuseLoop self "__setattr__" bm = pure () := by
  obtain ⟨cs, rfl⟩ := h
  induction cs with
  | nil => exact T.pass self
  | cons c cs ih => rw [List.map_cons, List.cons_append, refuseLoop_ref]; exact ih
theorem Over.has {tl bm : List Value} (h : Over tl bm) (X : String) : bm.contains (.type X) = tl.contains (.type X) := by
  obtain ⟨cs, rfl⟩ := h
  induction cs with
  | nil => rfl
  | cons c cs ih => rw [List.map_cons, List.cons_append, List.contains_cons, ih]; rfl
theorem Over.ne {tl bm : List Value} (T : Tail tl) (h : Over tl bm) : bm.isEmpty = false := by
  obtain ⟨cs, rfl⟩ := h
  cases cs with
  | nil => exact T.ne
  | cons c cs => rfl
variable {prog : Program} {w : World} {A : Around} {R : Result → Shared → Prop} {hp : Heap} {g : Array GenState} {d : Drawn} {t : Nat} {os : OsState} {K : Frag} {name : Str} {tk : Tok} {v : Value} {x C dx : Addr} {fv : Array Value} {cd : ClassData} {m0 : Str → Option Value} {nl : List Str} {tl : List Value} {od : Option Addr} {oo : Option Obj}
/-- what comes ahead of the store itself -/
theorem osa_way (T : Tail tl) (X : K.In hp) (I : InstAt hp x { cls := .ref C, dict := od, data := .fields fv } C oo) (hcd : clsIn K C = some cd) (hm : Over tl cd.mro) (ha : findIn K (.ref C) name = some none)
    (h : wpAny (model prog w) A.in1 (storeInOwnDict (.ref x) (.ref C) (.str name tk) name v false) (fun fin s' => match fin with
      | .done f => R (.ok f) s'
      | .again c' => c'.quiet = true ∧ codeAny (model prog w) A c' R s') (fun e s' => R (.error e) s') ⟨hp, g, d, t, os⟩) :
    codeAny (model prog w) A (.call (.builtin "object.__setattr__") ⟨[.ref x, .str name tk, v], []⟩) R ⟨hp, g, d, t, os⟩ := by
  have SF := F.store_object
  have hob : cd.mro.contains (.type "object") = true := (hm.has "object").trans T.ob
  have sub : Looks (model prog w) hp (isInstance (.ref x) (.type "object")) true := I.type.andThen (looks_mroIn X (by unfold mroIn; rw [hcd, Option.bind_some, if_neg (by rw [hm.ne T]; decide), hob]))
  refine codeAny_call_builtin SF.slot.plain SF.entry (@check_slot (model prog w) _ _ ⟨hp, g, d, t, os⟩ "object.__setattr__" "object" "__setattr__" (.ref x) [.str name tk, v] [] _ SF.kind SF.split sub (SF.args (.ref x) (.str name tk) v) ?_)
  have hmr : Looks (model prog w) hp (mroOf (.ref C)) cd.mro := (looks_clsIn X hcd).andThen .now
  rw [osa_eq, refuse_eq]
  refine wpAny_bind (wpAny_bind (I.type.at (wpAny_bind (hmr.at ?_))))
  rw [hm.pass T]
  exact wpAny_pure (wpAny_bind (I.type.at (wpAny_bind ((looks_findIn X ha).at (wpAny_bind ((Looks.now : Looks (model prog w) hp (storeTaker? none) none).at h))))))
/-- x.name = v, x an error of the class at C that has no dict as yet -/
theorem osa_first (T : Tail tl) (X : K.In hp) (hx : hp.get? x = some { cls := .ref C, data := .fields fv }) (hcd : clsIn K C = some cd) (hm : Over tl cd.mro) (hh : cd.hasDict = true) (ha : findIn K (.ref C) name = some none)
    (hq : ∀ h' tk' dx, (∀ b o, b ≠ x → hp.get? b = some o → h'.get? b = some o) → hp.objs.size ≤ dx → dx ≠ x → h'.get? x = some { cls := .ref C, dict := some dx, data := .fields fv } →
      h'.Ns1 dx (fun y => if y = name then some v else none) → R (.ok (.ret .none)) ⟨h', g, d, tk', os⟩) :
    codeAny (model prog w) A (.call (.builtin "object.__setattr__") ⟨[.ref x, .str name tk, v], []⟩) R ⟨hp, g, d, t, os⟩ := by
  refine osa_way (od := none) (oo := none) T X ⟨hx, rfl, rfl, trivial⟩ hcd hm ha ?_
  have hxs : x ≠ hp.objs.size := Nat.ne_of_lt (Heap.lt_size hx)
  have hcls := looks_clsIn (M := model prog w) X hcd
  obtain ⟨nm, bs, mro, ns, qn, hd, sn, sb, ab, col, del⟩ := cd
  dsimp only at hh
  subst hh
  unfold storeInOwnDict ownDictForStores
  repeat (first | with_reducible refine store_in_new ?_ ?_ | with_reducible refine wpAny_loadPart_at hx ?_ | with_reducible refine hcls.at ?_ | wp_step)
  · exact ⟨_, #[], _, (Heap.get?_update_ne _ _ _ _ hxs.symm).trans (Heap.get?_push_at rfl rfl), rfl, fun e he => absurd he (by simp), fun _ => rfl⟩
  · intro h' tk' hn' hs
    refine hq h' tk' hp.objs.size (fun b o hb ho => ?_) (Nat.le_refl _) hxs.symm ?_ hn'
    · exact (hs.2 b (Nat.ne_of_lt (Heap.lt_size ho))).trans ((Heap.get?_update_ne _ _ _ _ hb).trans (Heap.get?_push_of_some _ ho))
    · exact (hs.2 x hxs).trans (Heap.get?_update_self _ (Heap.get?_push_of_some _ hx) rfl)
/-- .. that has one -/
theorem osa_more (T : Tail tl) (X : K.In hp) (hx : hp.get? x = some { cls := .ref C, dict := some dx, data := .fields fv }) (hns : hp.Ns1 dx m0) (hw : Within m0 nl) (hz : nl.length ≤ 1000) (hcd : clsIn K C = some cd) (hm : Over tl cd.mro) (hh : cd.hasDict = true) (ha : findIn K (.ref C) name = some none)
    (hq : ∀ h' tk', (∀ b o, b ≠ dx → hp.get? b = some o → h'.get? b = some o) → h'.Ns1 dx (fun y => if y = name then some v else m0 y) → R (.ok (.ret .none)) ⟨h', g, d, tk', os⟩) :
    codeAny (model prog w) A (.call (.builtin "object.__setattr__") ⟨[.ref x, .str name tk, v], []⟩) R ⟨hp, g, d, t, os⟩ := by
  obtain ⟨oD, esD, epD, hoD, hdD, _⟩ := hns.count hw
  refine osa_way (od := some dx) (oo := some oD) T X ⟨hx, rfl, rfl, hoD⟩ hcd hm ha ?_
  have hcls := looks_clsIn (M := model prog w) X hcd
  obtain ⟨nm, bs, mro, ns, qn, hd, sn, sb, ab, col, del⟩ := cd
  dsimp only at hh
  subst hh
  unfold storeInOwnDict ownDictForStores
  repeat (first | with_reducible refine store_in_old hns hw hz ?_ | with_reducible refine wpAny_loadPart_at hx ?_ | with_reducible refine hcls.at ?_ | wp_step)
  intro h' tk' hn' hs
  exact hq h' tk' (fun b o hb ho => (hs.2 b hb).trans ho) hn'
end
end G
namespace G
open PySem PySem.Spec PyProof.Rows L2 Evl
/-- an own error's class, over the built-in error B -/
structure Own (K : PySem.W.Frag) (B newId initId : String) (tl : List Value) (C : Addr) : Prop where
  base : ExcBaseFacts B newId initId tl
  tail : Tail tl
  cls : ∃ nm q N bs bm sn sub ab col dd k0 k1 k2 k3 k5, K.lookup C = some (excClassObj nm q C N bs bm true sn sub ab col dd k0 k1 k2 k3 k5 newId) ∧ Over tl bm
  sa : PySem.W.findIn K (.ref C) "__setattr__" = some (some (.builtin "object.__setattr__"))
  exC : PySem.W.subIn K (.ref C) (.type "BaseException") = some true
  tyC : PySem.W.typeIn K (.ref C) = some (.type "type")
  kC : PySem.W.keepIn K (.ref C) = true
section
variable {X : Cx} {pins : List (Addr × Obj)} {σ : L2.St} {H : Hp} {s : Shared} {a C dx : Addr} {f : Str} {y : V} {u : Value} {fs : List (Str × V)} {Q : Unit → Shared → Prop} {Er : Value → Shared → Prop} {A : Around} {B newId initId : String} {tl : List Value}
theorem own_cls {K : PySem.W.Frag} (T : Own K B newId initId tl C) : ∃ cd, PySem.W.clsIn K C = some cd ∧ Over tl cd.mro ∧ cd.hasDict = true := by
  obtain ⟨nm, q, N, bs, bm, sn, sub, ab, col, dd, k0, k1, k2, k3, k5, hC, hbm⟩ := T.cls
  exact ⟨{ name := nm, bases := bs, mro := .ref C :: bm, ns := N, qualname := q, hasDict := true, slotNames := sn, subclasses := sub, abstract := ab, collection := col, hasDel := false }, by unfold PySem.W.clsIn; rw [hC] <;> rfl, hbm.cons C, rfl⟩
theorem own_first (T : Own X.K B newId initId tl C) (I : Inv X pins σ H s) (e : H a = some (exo a C none)) (hno : PySem.W.findIn X.K (.ref C) f = some none) (ry : RelV y u)
    (h : ∀ dx s', H dx = none → dx ≠ a → Inv X pins σ (upd (upd H dx (exd dx [(f, y)])) a (exo a C (some dx))) s' → Q () s') : wpAny (model X.prog X.w) A (setAttr (.ref a) f u) Q Er s := by
  obtain ⟨cd, hcl, hov, hhd⟩ := own_cls T
  obtain ⟨t1, ho⟩ := exo_at I.hok e
  obtain ⟨hp, g, d, t, os⟩ := s
  refine PySem.W.set_plain I.kIn (ox := { cls := .ref C, dict := none, data := .fields #[.ref t1, .none, .none, .none, .bool false, .none] }) (od := none) ⟨ho, rfl, rfl, trivial⟩ T.sa ?_
  refine osa_first T.tail I.kIn ho hcl hov hhd hno (fun h' tk' dx k dn dne hx hn => ?_)
  have hnd : H dx = none := I.hok.fresh dn
  have nd : ∀ {b : Addr} {o : Obj}, hp.get? b = some o → b ≠ dx := fun {b o} q => Nat.ne_of_lt (Nat.lt_of_lt_of_le (Heap.lt_size q) dn)
  have na : ∀ {b : Addr}, H b = none → b ≠ a := fun {b} n z => by rw [z, e] at n; cases n
  have U : Un X.fs [] H (upd (upd H dx (exd dx [(f, y)])) a (exo a C (some dx))) hp h' := {
    keep := fun b o q n _ _ => k b o (na n) q
    slot := fun b o q n _ _ => ⟨o.slots, k b o (na n) q⟩
    free := fun b o q n _ => by rw [upd_ne (na n), upd_ne (nd q)]; exact n
    there := fun b o q _ => by
      by_cases hb : b = a
      · exact ⟨_, by rw [hb]; exact hx⟩
      · exact ⟨o, k b o hb q⟩
    tups := fun b xs q => by rw [upd_ne (at_ne e q exo_tup), upd_ne (ne_of_none q hnd)]; exact q
    frzs := fun b o v q => by rw [upd_ne (at_ne e q exo_frz), upd_ne (ne_of_none q hnd)]; exact q
    tbls := fun b ps q => ⟨#[], by rw [upd_ne (at_ne e q exo_tbl), upd_ne (ne_of_none q hnd), q]; simp⟩ }
  refine h dx _ hnd dne (I.un (t' := tk') U fun b o q => ?_)
  by_cases hb : b = a
  · subst hb
    rw [upd_same] at q
    cases q
    exact exo_ok hx
  · rw [upd_ne hb] at q
    by_cases hd : b = dx
    · subst hd
      rw [upd_same] at q
      cases q
      exact exd_ok hn (relO_put (fs := []) ry fun g => True.intro)
    · rw [upd_ne hd] at q
      exact (I.hok b o q).stay (fun c v hc z => k c v (by
          rcases hc with hc | hc
          · rw [hc]; exact hb
          · exact at_ne e hc exo_own) z)
        (fun c hc => by rw [upd_ne (at_ne e hc exo_own), upd_ne (ne_of_none hc hnd)]; exact hc) (fun c xs hc => by rw [upd_ne (at_ne e hc exo_tup), upd_ne (ne_of_none hc hnd)]; exact hc)
theorem own_more (T : Own X.K B newId initId tl C) (I : Inv X pins σ H s) (e : H a = some (exo a C (some dx))) (ed : H dx = some (exd dx fs)) (hl : fs.length ≤ 900) (hno : PySem.W.findIn X.K (.ref C) f = some none) (ry : RelV y u)
    (h : ∀ s', Inv X pins σ (upd H dx (exd dx ((f, y) :: fs))) s' → Q () s') : wpAny (model X.prog X.w) A (setAttr (.ref a) f u) Q Er s := by
  obtain ⟨cd, hcl, hov, hhd⟩ := own_cls T
  obtain ⟨t1, ho⟩ := exo_at I.hok e
  obtain ⟨mA, hns, rel⟩ := exd_at I.hok ed
  have hw := within_of rel
  obtain ⟨hp, g, d, t, os⟩ := s
  obtain ⟨oD, _, _, hoD, _, _⟩ := hns.count hw
  refine PySem.W.set_plain I.kIn (ox := { cls := .ref C, dict := some dx, data := .fields #[.ref t1, .none, .none, .none, .bool false, .none] }) (od := some oD) ⟨ho, rfl, rfl, hoD⟩ T.sa ?_
  refine osa_more T.tail I.kIn ho hns hw (by rw [List.length_map]; omega) hcl hov hhd hno (fun h' tk' k hn => ?_)
  have hd : ∃ o, h'.get? dx = some o := by obtain ⟨o, _, _, e', _⟩ := hn; exact ⟨o, e'⟩
  exact h _ (I.write (t' := tk') (x := dx) (e := dx) (o := exd dx ((f, y) :: fs)) (by rw [ed]; exact True.intro) (.inl rfl) k hd (exd_ok hn (relO_put ry rel)))
end
/-- self.f = e in an own error's __init__ -/
def tOwn (K : PySem.W.Frag) (f : Str) (to te : TE) : TS := fun D σ H => te σ H fun y H1 => to σ H1 fun x H2 => ∃ (a C : Addr) (B newId initId : String) (tl : List Value), x = .ref a ∧ Own K B newId initId tl C ∧ PySem.W.findIn K (.ref C) f = some none ∧
  ((H2 a = some (exo a C none) ∧ ∀ dx, H2 dx = none → dx ≠ a → D.nx σ (upd (upd H2 dx (exd dx [(f, y)])) a (exo a C (some dx)))) ∨
    ∃ (dx : Addr) (fs : List (Str × V)), H2 a = some (exo a C (some dx)) ∧ H2 dx = some (exd dx fs) ∧ fs.length ≤ 900 ∧ D.nx σ (upd H2 dx (exd dx ((f, y) :: fs))))
section
variable {X : Cx} {o e : Expr} {es : List Expr} {to te : TE} {ta : TA} {f : Str} {p p' pos : Pos} {B newId initId : String} {tl : List Value}
theorem ps_own (ho : PE X o to) (he : PE X e te) (hs : swapsWith e (some (.Attribute o f p')) pos.line X.env = pure false := by rfl) : PS X (.Assign [.Attribute o f p'] e pos) (tOwn X.K f to te) := by
  refine ⟨fun pins s σ H D I h => ?_⟩
  refine plainObj_wpAny_Assign_Attribute (thn (he.run pins s σ H _ I h) fun v s1 ⟨y, H1, I1, r1, q1⟩ => thn (ho.run pins s1 σ H1 _ I1 q1) fun u s2 ⟨x, H2, I2, r2, a, C, B, newId, initId, tl, ex, T, hno, q⟩ => ?_) hs
  subst ex
  obtain rfl : u = Value.ref a := r2
  rcases q with ⟨ea, q⟩ | ⟨dx, fs, ea, ed, hl, q⟩
  · exact own_first T I2 ea hno r1 fun dx s' n ne J => ⟨σ, _, J, q dx n ne⟩
  · exact own_more T I2 ea ed hl hno r1 fun s' J => ⟨σ, _, J, q⟩
/-- C(e, ..), C an own error's class, its own __init__ keeping sp -/
theorem pmk_own2 {CX : CXT} {x : Str} {C fI : Addr} {k : Nat} {fd : FuncData} {ps : List Str} {sp : Sp} {ds : List Value} {dvs : List V} (T : Own X.K B newId initId tl C) (iC : PySem.W.findIn X.K (.ref C) "__init__" = some (some (.ref fI))) (tI : PySem.W.typeIn X.K (.ref fI) = some (.type "function"))
    (F1 : FnOk X.prog X.w X.K X.mg X.base CX k fI fd ps sp) (hr : Room (k + 1) X.A) (hb : Binds X.K fd ps ds) (hd : Vals dvs ds) (hx : Passes CX X (fun _ _ _ => False)) (hg : Gl X x) (hm : X.mg x = some (.ref C)) (ha : PA X (e :: es) ta)
    (hdb : (x == ("__debug__" : Str)) = false := by decide) (he : starEach (e :: es) X.env = (false, eval e X.env) :: starEach es X.env := by rfl) (hpl : (backTo pos (starEach es X.env)).any (·.1) = false := by rfl) :
    PMk X (.Call (.Name x p) (e :: es) [] pos) (tMkO C sp dvs ta) := by
  intro pins s σ H Q I h
  obtain ⟨nm, q, N, bs, bm, sn, sub, ab, col, dd, k0, k1, k2, k3, k5, hC, hbm⟩ := T.cls
  refine wpAny_Call_Name_kw (ld_glob I hg hm ?_ hdb)
  refine PySem.W.callWith_K (h₀ := X.base) I.ok.mod.kin T.kC (thn (ha.run pos pins s σ H _ I h) fun us s1 ⟨vs, H1, I1, r1, hz, q1⟩ => ⟨I1.kIn, ?_⟩) he hpl
  show wpAny _ _ (call (.ref C) us) _ _ _
  obtain ⟨hp, g, dr, tk, os⟩ := s1
  have hsz : hp.objs.size ≤ hp.objs.size + 1 := Nat.le_succ _
  have hq := q1 (hp.objs.size + 1) (I1.hok.fresh hsz)
  have kk : ∀ b o, hp.get? b = some o → ((hp.push (PySem.W.kdv_tup us)).push (PySem.HandSPX.excO C hp.objs.size)).get? b = some o := fun b o e => Heap.get?_push_of_some _ (Heap.get?_push_of_some _ e)
  have hget : ((hp.push (PySem.W.kdv_tup us)).push (PySem.HandSPX.excO C hp.objs.size)).get? (hp.objs.size + 1) = some (PySem.HandSPX.excO C hp.objs.size) := by heap_get
  have I2 := I1.laid (t' := tk) (a := hp.objs.size + 1) (o := exo (hp.objs.size + 1) C none) (h' := (hp.push (PySem.W.kdv_tup us)).push (PySem.HandSPX.excO C hp.objs.size)) kk hsz (exo_ok hget)
  have r2 : Vals (V.ref (hp.objs.size + 1) :: (vs ++ dvs)) (Value.ref (hp.objs.size + 1) :: (us ++ ds)) := .cons rfl (r1.append hd)
  have hl : (Value.ref (hp.objs.size + 1) :: us ++ ds).length = ps.length := by
    have e := r2.length
    rw [F1.len _ _ _ _ hq] at e
    exact e.symm
  have hus : us.length ≤ sizeLine := by rw [← Paired.length r1, sizeLine_eq]; omega
  refine wpAny_call (PySem.HandSPX.call_own T.base (fun Y => hbm.has Y) (I1.kIn _ _ hC) (PySem.W.looks_findIn I1.kIn iC) (fun self => PySem.W.bind_fn I1.kIn self tI) hus
    (codeAny_mono (F1.run _ X.stack _ _ ⟨Value.ref (hp.objs.size + 1) :: us, []⟩ (Value.ref (hp.objs.size + 1) :: (us ++ ds)) _ _ (fun _ _ _ => False) (hr.make C us []) (I2.env0.make C us []) (hb _ (Value.ref (hp.objs.size + 1) :: us) I2.kIn hl) r2 hq) fun r s' hq' => ?_))
  match r, hq' with
  | .error er, hq' => exact hx pins σ _ _ er s' I2 hq'
  | .ok .next, hq' => exact hq'.elim
  | .ok .brk, hq' => exact hq'.elim
  | .ok .cont, hq' => exact hq'.elim
  | .ok (.ret u), hq' =>
    obtain ⟨v, H2, os2, bare2, un2, hok2, rv, ev, d, fs, ea, ed, hd1, q2⟩ := hq'
    subst ev
    obtain ⟨h2, g2, d2, t2, os'⟩ := s'
    exact ⟨rv, mk_end (raises_own T.exC T.tyC) I1 hsz kk un2 hok2 os2 bare2 ea ed hd1 q2⟩
end
end G
end
section
set_option maxHeartbeats 2000000
namespace G
open PySem PySem.Spec PyProof.Rows L2 Evl
/-! ### ranges that have a name -/
theorem cr_range1 {X : Cx} : CallR X (.type "range") (fun vs H Q => ∃ j, vs = [V.int j] ∧ ∀ p, H p = none → Q (.ref p) (upd H p (.rng 0 j))) := by
  intro pins s σ H vs us Q I r h
  obtain ⟨j, rfl, q⟩ := h
  obtain ⟨u, rfl, ru⟩ := vals1 r
  obtain ⟨t, rfl⟩ := ru
  refine call_range_1 ⟨.ref s.heap.objs.size, upd H s.heap.objs.size (.rng 0 j), I.laid (t' := s.toks + 1 + 1) (fun b o e => Heap.get?_push_of_some _ e) (Nat.le_refl _) ?_, rfl, q _ (I.hok.fresh (Nat.le_refl _))⟩
  exact ⟨_, t, _, Heap.get?_push_size _ rfl⟩
def iRgV (te : TE) : TI := fun σ H R => te σ H fun x H1 => ∃ (p : Addr) (j : Int), x = .ref p ∧ H1 p = some (.rng 0 j) ∧ -(2 ^ 62) ≤ j ∧ j < 2 ^ 62 ∧ R (Itr 0 j.toNat) H1
theorem pi_rgV {X : Cx} {tg e : Expr} {te : TE} (he : PE X e te) : PI X tg e (iRgV te) := by
  refine ⟨fun pins s σ H R I h => thn (he.run pins s σ H _ I h) fun v s1 ⟨x, H1, I1, r1, p, j, ex, ea, h1, h2, q⟩ => ?_⟩
  subst ex
  obtain rfl : v = Value.ref p := r1
  obtain ⟨t, u, w, ho⟩ := I1.hok p _ ea
  have I2 : Inv X pins σ H1 s1 := I1
  refine wpAny_pyIter_range (a := 0) (b := j) (c := 1) (t := t) (u := u) (v := w) ho (small_one (by omega) (by omega) h1 h2) ?_
  refine ⟨s1.heap.objs.size, [s1.heap.objs.size], _, _, H1, rfl, I1.kept (t' := s1.toks) fun b o e => Heap.get?_push_of_some _ e, turn_range _ 0 j.toNat, ?_, fun b hb => ?_, q⟩
  · have e1 : (0 : Int) + ((0 : Nat) : Int) * 1 = 0 := by simp
    have e2 : (((j).toNat : Nat) : Int) - ((0 : Nat) : Int) = Builtin.Range.rangeSize 0 j 1 := by rw [rangeSize_one]; split <;> omega
    show IsRangeIter _ _ ((0 : Int) + ((0 : Nat) : Int) * 1) (((j.toNat : Nat) : Int) - ((0 : Nat) : Int)) 1
    rw [e1, e2]
    exact Heap.get?_push_size _ rfl
  · have e : b = s1.heap.objs.size := by simpa using hb
    subst e
    exact I1.fpOk (Nat.le_refl _) (I1.hok.fresh (Nat.le_refl _))
variable {K : PySem.W.Frag} {σ : L2.St} {H : Hp} {tl te ta : TE} {p : Addr} {n : Nat} {j i : Nat} {vs : List Nat} {D : Ends} {tz : TS} {tA : TA} {z0 : Int}
theorem el_lcRV (v : Nat → V) (h : Ev tl σ H (.ref p)) (hp : H p = some (.rng 0 (n : Int))) (hn : n ≤ 40000) (hw : ∀ x, wipe ((wipe σ vs).set j (some x)) vs = wipe σ vs) (he : ∀ (i : Nat) H1, Ex H H1 → i < n → Ev te ((wipe σ vs).set j (some (.int (i : Int)))) H1 (v i)) :
    EvL (tLc (iRgV tl) (gName j) tYes te vs) σ H ((List.range n).map v) := fun H0 e Q q => h H0 e _ fun H1 e1 => ⟨p, (n : Int), rfl, (e.trans e1) p _ hp, by omega, by omega, fun Dl hD => by
  have eq : (List.range n).map v = given n (fun _ => true) v := by unfold given; rw [List.filter_eq_self.mpr (fun _ _ => rfl)]
  rw [Int.toNat_natCast]
  refine lc_range (lo := 0) (n := n) (Cw H1 (fun _ => true) v Dl) ⟨hD, Ex.new hD, upd_same⟩ (fun i H' hi p => by
    have e0 : (0 : Int) + (i : Int) = (i : Int) := Int.zero_add _
    show wipe ((wipe σ vs).set j (some (.int ((0 : Int) + (i : Int))))) vs = wipe σ vs ∧ tYes ((wipe σ vs).set j (some (.int ((0 : Int) + (i : Int))))) H' fun b H3 => if b = true then te ((wipe σ vs).set j (some (.int ((0 : Int) + (i : Int))))) H3 fun y H4 => _ else _
    rw [e0]
    exact ⟨hw _, cw_turn p (by omega) lc_yes (fun _ => he i H1 (e.trans e1) (by omega))⟩) (fun H' p => q Dl H' (fresh_back e1 p.1) (e1.trans p.2.1) (by rw [eq]; exact p.2.2))⟩
/-- x = range(e) -/
theorem q_rng (ha : EvA tA σ H [.int z0]) (k : ∀ p H1, H p = none → Ex H H1 → H1 p = some (.rng 0 z0) → tz D (σ.set i (some (.ref p))) H1) : tSeq (tAsg (tCB (fun vs H Q => ∃ j, vs = [V.int j] ∧ ∀ p, H p = none → Q (.ref p) (upd H p (.rng 0 j))) tA) (gName i)) tz D σ H :=
  ha H (Ex.refl H) _ fun H1 e1 => ⟨z0, rfl, fun p hp => k p _ (fresh_back e1 hp) (e1.trans (Ex.new hp)) upd_same⟩
/-! ### calls of a def that a name holds -/
section
variable {X : Cx} {CX : CXT} {k : Nat} {sp : Sp} {E : L2.St → XK} {pos : Pos} {fe e : Expr} {es : List Expr} {tf : TE} {t : TA}
def tCallV (S : Addr → Prop) (sp : Sp) (E : L2.St → XK) (tf : TE) (t : TA) : TE := fun σ H Q => tf σ H fun x H1 => ∃ f, x = .ref f ∧ S f ∧ t σ H1 fun vs H2 => sp vs H2 Q (E σ)
theorem pe_callV {S : Addr → Prop} (F : ∀ f, S f → ∃ fd ps, FnOk X.prog X.w X.K X.mg X.base CX k f fd ps sp ∧ Binds X.K fd ps [] ∧ PySem.W.keepIn X.K (.ref f) = true) (hf : PE X fe tf) (hr : Room k X.A) (hx : ∀ σ, PassesAt CX X σ (E σ)) (ha : PA X (e :: es) t)
    (ht : eval (.Call fe (e :: es) [] pos) X.env = (do callWith pos (← eval fe X.env) [] (backTo pos (starEach (e :: es) X.env)) (backToKw pos (keywordEach [] X.env))) := by rfl)
    (he : starEach (e :: es) X.env = (false, eval e X.env) :: starEach es X.env := by rfl) (hpl : (backTo pos (starEach es X.env)).any (·.1) = false := by rfl) : PE X (.Call fe (e :: es) [] pos) (tCallV S sp E tf t) := by
  refine ⟨fun pins s σ H Q I h => Call_ (thn (hf.run pins s σ H _ I h) fun u s1 ⟨y, H1, I1, ry, f, ey, hS, q⟩ => ?_) ht⟩
  subst ey
  obtain rfl : u = Value.ref f := ry
  obtain ⟨fd, ps, G, hb, hk⟩ := F f hS
  refine PySem.W.callWith_K (h₀ := X.base) I1.ok.mod.kin hk (thn (ha.run pos pins s1 σ H1 _ I1 q) fun us s2 ⟨vs, H2, I2, r, q2⟩ => ⟨I2.kIn, ?_⟩) he hpl
  exact run_fnS G hr hb (hx σ) I2 r q2
end
theorem FnOk.imp {P : Program} {w : World} {K : PySem.W.Frag} {mg : Str → Option Value} {base : Heap} {CX : CXT} {k : Nat} {f : Addr} {fd : FuncData} {ps : List Str} {sp sp' : Sp} (F : FnOk P w K mg base CX k f fd ps sp) (h : ∀ vs H Q E, sp' vs H Q E → sp vs H Q E) : FnOk P w K mg base CX k f fd ps sp' :=
  ⟨fun vs H Q E q => F.len vs H Q E (h vs H Q E q), fun A outer s H args us vs Q E hr e0 hb r q => F.run A outer s H args us vs Q E hr e0 hb r (h vs H Q E q)⟩
/-- an error is named by its own class -/
theorem exm_at {K : PySem.W.Frag} {S : Addr} (b : PySem.W.subIn K (.ref S) (.type "BaseException") = some true) (c : PySem.W.isClsIn K S = true) (t : PySem.W.typeIn K (.ref S) = some (.type "type")) (s : PySem.W.subIn K (.ref S) (.ref S) = some true) : PySem.W.exmOne K (.ref S) (.ref S) = some true := by
  have c' : (PySem.W.clsIn K S).isSome = true := c
  unfold PySem.W.exmOne PySem.W.kitCls
  simp [b, c', t, s]
theorem passF {X : Cx} {E₁ : XK} (tk : Takes X (fun cls d _ H => E₁ cls d H)) : Passes (L2.CX X.prog X.w) X E₁ := fun pins σ H s e s' I c => tk e s' (XE.of_call I (fun _ _ _ h => h) c)
end G
end
section
namespace TM
/-! the mathematics of lists of days -/
def onL (ns : List Int) (x : Int) : Int := ns.getD (x % (ns.length : Int)).toNat 0 + x / (ns.length : Int) * (ns.length : Int)
structure Good (ns : List Int) : Prop where
  pos : 1 ≤ ns.length
  most : ns.length ≤ 600
  up : ∀ i j : Nat, i ≤ j → j < ns.length → ns.getD i 0 ≤ ns.getD j 0
  span : ns.getD (ns.length - 1) 0 - ns.getD 0 0 ≤ (ns.length : Int)
section
variable {ns : List Int} (g : Good ns)
include g
theorem Good.posI : (0 : Int) < (ns.length : Int) := by have := g.pos; omega
theorem on_at {i : Nat} (hi : i < ns.length) (t : Int) : onL ns ((i : Int) + t * (ns.length : Int)) = ns.getD i 0 + t * (ns.length : Int) := by
  have hp := g.posI
  unfold onL
  have e1 : ((i : Int) + t * (ns.length : Int)) % (ns.length : Int) = (i : Int) := by
    rw [Int.add_mul_emod_self_right, Int.emod_eq_of_lt (by omega) (by omega)]
  have e2 : ((i : Int) + t * (ns.length : Int)) / (ns.length : Int) = t := by
    rw [Int.add_mul_ediv_right _ _ (by omega), Int.ediv_eq_zero_of_lt (by omega) (by omega), Int.zero_add]
  rw [e1, e2, Int.toNat_natCast]
theorem split_at (x : Int) : ∃ (i : Nat) (t : Int), i < ns.length ∧ x = (i : Int) + t * (ns.length : Int) := by
  have hp := g.posI
  refine ⟨(x % (ns.length : Int)).toNat, x / (ns.length : Int), ?_, ?_⟩
  · have h1 := Int.emod_nonneg x (show (ns.length : Int) ≠ 0 by omega)
    have h2 := Int.emod_lt_of_pos x hp
    omega
  · have h1 := Int.emod_nonneg x (show (ns.length : Int) ≠ 0 by omega)
    rw [Int.toNat_of_nonneg h1]
    have := Int.emod_add_mul_ediv x (ns.length : Int)
    rw [Int.mul_comm] at this
    omega
theorem on_len (x : Int) : onL ns (x + (ns.length : Int)) = onL ns x + (ns.length : Int) := by
  obtain ⟨i, t, hi, rfl⟩ := split_at g x
  have e : (i : Int) + t * (ns.length : Int) + (ns.length : Int) = (i : Int) + (t + 1) * (ns.length : Int) := by rw [Int.add_mul, Int.one_mul]; omega
  rw [e, on_at g hi, on_at g hi, Int.add_mul, Int.one_mul]; omega
theorem on_step (x : Int) : onL ns x ≤ onL ns (x + 1) := by
  obtain ⟨i, t, hi, rfl⟩ := split_at g x
  by_cases hl : i + 1 < ns.length
  · have e : (i : Int) + t * (ns.length : Int) + 1 = ((i + 1 : Nat) : Int) + t * (ns.length : Int) := by omega
    rw [e, on_at g hi, on_at g hl]
    have := g.up i (i + 1) (by omega) hl
    omega
  · have e0 : i + 1 = ns.length := by omega
    have e : (i : Int) + t * (ns.length : Int) + 1 = ((0 : Nat) : Int) + (t + 1) * (ns.length : Int) := by
      rw [Int.add_mul, Int.one_mul]; omega
    have h0 : 0 < ns.length := by omega
    rw [e, on_at g hi, on_at g h0, Int.add_mul, Int.one_mul]
    have := g.span
    have e1 : ns.length - 1 = i := by omega
    rw [e1] at this
    omega
theorem on_mono {x y : Int} (h : x ≤ y) : onL ns x ≤ onL ns y := by
  obtain ⟨k, hk⟩ : ∃ k : Nat, y = x + k := ⟨(y - x).toNat, by omega⟩
  subst hk
  clear h
  induction k with
  | zero => simp
  | succ k ih =>
    refine Int.le_trans ih ?_
    have := on_step g (x + k)
    have e : x + ((k + 1 : Nat) : Int) = x + (k : Int) + 1 := by omega
    rw [e]; exact this
end
/-- m is the first day with which y is served -/
def IsBy (ns : List Int) (y m : Int) : Prop := y ≤ onL ns m ∧ onL ns (m - 1) < y
theorem isBy_uniq {ns : List Int} (g : Good ns) {y m k : Int} (h : IsBy ns y m) (h' : IsBy ns y k) : m = k := by
  have a1 : ¬ m ≤ k - 1 := fun q => by have := on_mono g q; have := h.1; have := h'.2; omega
  have a2 : ¬ k ≤ m - 1 := fun q => by have := on_mono g q; have := h'.1; have := h.2; omega
  omega
/-- so many of ns, from the left, are below d -/
def IsCnt (ns : List Int) (d : Int) (c : Nat) : Prop := c ≤ ns.length ∧ (∀ i, i < c → ns.getD i 0 < d) ∧ ∀ i, c ≤ i → i < ns.length → d ≤ ns.getD i 0
theorem isBy_of_cnt {ns : List Int} (g : Good ns) {y : Int} {c : Nat} (h : IsCnt ns (y - (y - ns.getD 0 0 - 1) / (ns.length : Int) * (ns.length : Int)) c) :
    IsBy ns y ((c : Int) + (y - ns.getD 0 0 - 1) / (ns.length : Int) * (ns.length : Int)) := by
  have hp := g.posI
  have h0 : 0 < ns.length := by have := g.pos; omega
  generalize ht : (y - ns.getD 0 0 - 1) / (ns.length : Int) = t at *
  have hr1 := Int.emod_nonneg (y - ns.getD 0 0 - 1) (show (ns.length : Int) ≠ 0 by omega)
  have hr2 := Int.emod_lt_of_pos (y - ns.getD 0 0 - 1) hp
  have hr := Int.emod_add_mul_ediv (y - ns.getD 0 0 - 1) (ns.length : Int)
  rw [ht, Int.mul_comm] at hr
  obtain ⟨hc, hlo, hhi⟩ := h
  have c1 : 1 ≤ c := by
    refine Classical.byContradiction fun q => ?_
    have := hhi 0 (by omega) h0
    omega
  constructor
  · by_cases hl : c < ns.length
    · rw [on_at g hl]
      have := hhi c (Nat.le_refl _) hl
      omega
    · have e : c = ns.length := by omega
      have e2 : (c : Int) + t * (ns.length : Int) = ((0 : Nat) : Int) + (t + 1) * (ns.length : Int) := by rw [Int.add_mul, Int.one_mul]; omega
      rw [e2, on_at g h0, Int.add_mul, Int.one_mul]
      omega
  · have e : (c : Int) + t * (ns.length : Int) - 1 = ((c - 1 : Nat) : Int) + t * (ns.length : Int) := by omega
    rw [e, on_at g (by omega)]
    have := hlo (c - 1) (by omega)
    omega
theorem cnt_ex {ns : List Int} (g : Good ns) (d : Int) : ∃ c, IsCnt ns d c := by
  have key : ∀ n, n ≤ ns.length → ∃ c, c ≤ n ∧ (∀ i, i < c → ns.getD i 0 < d) ∧ ∀ i, c ≤ i → i < n → d ≤ ns.getD i 0 := by
    intro n
    induction n with
    | zero => exact fun _ => ⟨0, Nat.le_refl _, fun i h => absurd h (Nat.not_lt_zero _), fun i _ h => absurd h (Nat.not_lt_zero _)⟩
    | succ n ih =>
      intro hn
      obtain ⟨c, h1, h2, h3⟩ := ih (by omega)
      by_cases hd : d ≤ ns.getD n 0
      · exact ⟨c, by omega, h2, fun i q1 q2 => by
          by_cases e : i = n
          · subst e; exact hd
          · exact h3 i q1 (by omega)⟩
      · refine ⟨n + 1, Nat.le_refl _, fun i q => ?_, fun i q1 q2 => absurd q2 (by omega)⟩
        have := g.up i n (by omega) (by omega)
        omega
  exact key ns.length (Nat.le_refl _)
theorem cnt_uniq {ns : List Int} {d : Int} {a b : Nat} (h : IsCnt ns d a) (h' : IsCnt ns d b) : a = b := by
  have q1 : ¬ a < b := fun q => by have := h.2.2 a (Nat.le_refl _) (by have := h'.1; omega); have := h'.2.1 a q; omega
  have q2 : ¬ b < a := fun q => by have := h'.2.2 b (Nat.le_refl _) (by have := h.1; omega); have := h.2.1 b q; omega
  omega
theorem by_ex {ns : List Int} (g : Good ns) (y : Int) : ∃ m, IsBy ns y m := by
  obtain ⟨c, hc⟩ := cnt_ex g (y - (y - ns.getD 0 0 - 1) / (ns.length : Int) * (ns.length : Int))
  exact ⟨_, isBy_of_cnt g hc⟩
open Classical in
noncomputable def byL (ns : List Int) (y : Int) : Int := if h : ∃ m, IsBy ns y m then Classical.choose h else 0
theorem byL_is {ns : List Int} (g : Good ns) (y : Int) : IsBy ns y (byL ns y) := by
  unfold byL
  rw [dif_pos (by_ex g y)]
  exact Classical.choose_spec (by_ex g y)
theorem byL_eq {ns : List Int} (g : Good ns) {y m : Int} (h : IsBy ns y m) : byL ns y = m := isBy_uniq g (byL_is g y) h
theorem by_le {ns : List Int} (g : Good ns) {x y : Int} : byL ns y ≤ x ↔ y ≤ onL ns x := by
  have h := byL_is g y
  constructor
  · exact fun q => Int.le_trans h.1 (on_mono g q)
  · intro q
    refine Classical.byContradiction fun n => ?_
    have := on_mono g (show x ≤ byL ns y - 1 by omega)
    have := h.2
    omega
/-- the day of a served one less itself is at most M, at least m -/
theorem on_le {ns : List Int} (g : Good ns) {M : Int} (h : ∀ i, i < ns.length → ns.getD i 0 - (i : Int) ≤ M) (x : Int) : onL ns x ≤ x + M := by
  obtain ⟨i, t, hi, rfl⟩ := split_at g x
  rw [on_at g hi]
  have := h i hi
  omega
theorem start_le {ns : List Int} (g : Good ns) {M y : Int} (h : ∀ i, i < ns.length → ns.getD i 0 - (i : Int) ≤ M) : y - M - 1 ≤ byL ns y := by
  have h1 := (byL_is g y).1
  have h2 := on_le g h (byL ns y)
  omega
end TM
end
section
namespace TM
/-! the mathematics of rules through rows -/
def IsMinL (l : List Int) (m : Int) : Prop := m ∈ l ∧ ∀ y, y ∈ l → m ≤ y
def IsMaxL (l : List Int) (m : Int) : Prop := m ∈ l ∧ ∀ y, y ∈ l → y ≤ m
theorem isMinL_ex : ∀ {l : List Int}, l ≠ [] → ∃ m, IsMinL l m
  | [], h => absurd rfl h
  | [a], _ => ⟨a, by simp, fun y hy => by simp at hy; omega⟩
  | a :: b :: l, _ => by
    obtain ⟨m, h1, h2⟩ := isMinL_ex (l := b :: l) (by simp)
    by_cases q : a ≤ m
    · exact ⟨a, by simp, fun y hy => by
        rcases List.mem_cons.mp hy with e | hy
        · omega
        · have := h2 y hy; omega⟩
    · exact ⟨m, List.mem_cons_of_mem _ h1, fun y hy => by
        rcases List.mem_cons.mp hy with e | hy
        · omega
        · exact h2 y hy⟩
theorem isMaxL_ex : ∀ {l : List Int}, l ≠ [] → ∃ m, IsMaxL l m
  | [], h => absurd rfl h
  | [a], _ => ⟨a, by simp, fun y hy => by simp at hy; omega⟩
  | a :: b :: l, _ => by
    obtain ⟨m, h1, h2⟩ := isMaxL_ex (l := b :: l) (by simp)
    by_cases q : m ≤ a
    · exact ⟨a, by simp, fun y hy => by
        rcases List.mem_cons.mp hy with e | hy
        · omega
        · have := h2 y hy; omega⟩
    · exact ⟨m, List.mem_cons_of_mem _ h1, fun y hy => by
        rcases List.mem_cons.mp hy with e | hy
        · omega
        · exact h2 y hy⟩
open Classical in
noncomputable def mxI (l : List Int) : Int := if h : ∃ m, IsMaxL l m then Classical.choose h else 0
open Classical in
noncomputable def mnI (l : List Int) : Int := if h : ∃ m, IsMinL l m then Classical.choose h else 0
theorem mxI_is {l : List Int} (h : l ≠ []) : IsMaxL l (mxI l) := by
  unfold mxI
  rw [dif_pos (isMaxL_ex h)]
  exact Classical.choose_spec (isMaxL_ex h)
theorem mnI_is {l : List Int} (h : l ≠ []) : IsMinL l (mnI l) := by
  unfold mnI
  rw [dif_pos (isMinL_ex h)]
  exact Classical.choose_spec (isMinL_ex h)
def early (L : Int) (r : Int × Int) (d : Int) : Int := r.2 + (d - r.1) / L * L
def late (L : Int) (r : Int × Int) (d : Int) : Int := r.2 - (r.1 - d) / L * L
section
variable {L : Int} (hL : 0 < L)
include hL
theorem early_near (r : Int × Int) (d : Int) : r.2 + (d - r.1) - L < early L r d ∧ early L r d ≤ r.2 + (d - r.1) := by
  have h1 := Int.emod_nonneg (d - r.1) (show L ≠ 0 by omega)
  have h2 := Int.emod_lt_of_pos (d - r.1) hL
  have h3 := Int.emod_add_mul_ediv (d - r.1) L
  rw [Int.mul_comm] at h3
  unfold early
  omega
theorem late_near (r : Int × Int) (d : Int) : r.2 - (r.1 - d) ≤ late L r d ∧ late L r d < r.2 - (r.1 - d) + L := by
  have h1 := Int.emod_nonneg (r.1 - d) (show L ≠ 0 by omega)
  have h2 := Int.emod_lt_of_pos (r.1 - d) hL
  have h3 := Int.emod_add_mul_ediv (r.1 - d) L
  rw [Int.mul_comm] at h3
  unfold late
  omega
theorem early_per (r : Int × Int) (d : Int) : early L r (d + L) = early L r d + L := by
  unfold early
  have e : d + L - r.1 = d - r.1 + 1 * L := by omega
  rw [e, Int.add_mul_ediv_right _ _ (by omega), Int.add_mul, Int.one_mul]
  omega
theorem late_per (r : Int × Int) (d : Int) : late L r (d + L) = late L r d + L := by
  unfold late
  have e : r.1 - (d + L) = r.1 - d + (-1) * L := by omega
  rw [e, Int.add_mul_ediv_right _ _ (by omega), Int.add_mul]
  omega
theorem early_mono (r : Int × Int) {d e : Int} (h : d ≤ e) : early L r d ≤ early L r e := by
  unfold early
  have := Int.mul_le_mul_of_nonneg_right (Int.ediv_le_ediv hL (show d - r.1 ≤ e - r.1 by omega)) (Int.le_of_lt hL)
  omega
theorem late_mono (r : Int × Int) {d e : Int} (h : d ≤ e) : late L r d ≤ late L r e := by
  unfold late
  have := Int.mul_le_mul_of_nonneg_right (Int.ediv_le_ediv hL (show r.1 - e ≤ r.1 - d by omega)) (Int.le_of_lt hL)
  omega
omit hL in
theorem early_self (r : Int × Int) : early L r r.1 = r.2 := by unfold early; rw [Int.sub_self, Int.zero_ediv, Int.zero_mul]; omega
omit hL in
theorem late_self (r : Int × Int) : late L r r.1 = r.2 := by unfold late; rw [Int.sub_self, Int.zero_ediv, Int.zero_mul]; omega
omit hL in
theorem early_late (r o : Int × Int) : early L r o.1 ≤ o.2 ↔ r.2 ≤ late L o r.1 := by
  unfold early late
  generalize (o.1 - r.1) / L * L = z
  omega
end
noncomputable def earT (L : Int) (rs : List (Int × Int)) (d : Int) : Int := mxI (rs.map fun r => early L r d)
noncomputable def latT (L : Int) (rs : List (Int × Int)) (d : Int) : Int := mnI (rs.map fun r => late L r d)
section
variable {L : Int} {rs ss : List (Int × Int)} (h0 : rs ≠ [])
include h0
theorem ear_is (d : Int) : IsMaxL (rs.map fun r => early L r d) (earT L rs d) := mxI_is (by simpa using h0)
theorem lat_is (d : Int) : IsMinL (rs.map fun r => late L r d) (latT L rs d) := mnI_is (by simpa using h0)
theorem ear_ge {d : Int} {r : Int × Int} (h : r ∈ rs) : early L r d ≤ earT L rs d := (ear_is h0 d).2 _ (List.mem_map_of_mem h)
theorem lat_le {d : Int} {r : Int × Int} (h : r ∈ rs) : latT L rs d ≤ late L r d := (lat_is h0 d).2 _ (List.mem_map_of_mem h)
theorem ear_ex (d : Int) : ∃ r, r ∈ rs ∧ earT L rs d = early L r d := by
  obtain ⟨r, h1, h2⟩ := List.mem_map.mp (ear_is (L := L) h0 d).1
  exact ⟨r, h1, h2.symm⟩
theorem lat_ex (d : Int) : ∃ r, r ∈ rs ∧ latT L rs d = late L r d := by
  obtain ⟨r, h1, h2⟩ := List.mem_map.mp (lat_is (L := L) h0 d).1
  exact ⟨r, h1, h2.symm⟩
theorem ear_mono (hL : 0 < L) {d e : Int} (h : d ≤ e) : earT L rs d ≤ earT L rs e := by
  obtain ⟨r, h1, h2⟩ := ear_ex (L := L) h0 d
  have := ear_ge (L := L) (d := e) h0 h1
  have := early_mono hL r h
  omega
theorem lat_mono (hL : 0 < L) {d e : Int} (h : d ≤ e) : latT L rs d ≤ latT L rs e := by
  obtain ⟨r, h1, h2⟩ := lat_ex (L := L) h0 e
  have := lat_le (L := L) (d := d) h0 h1
  have := late_mono hL r h
  omega
theorem ear_per (hL : 0 < L) (d : Int) : earT L rs (d + L) = earT L rs d + L := by
  obtain ⟨r, h1, h2⟩ := ear_ex (L := L) h0 d
  obtain ⟨s, g1, g2⟩ := ear_ex (L := L) h0 (d + L)
  have a1 := ear_ge (L := L) (d := d + L) h0 h1
  have a2 := ear_ge (L := L) (d := d) h0 g1
  have a3 := early_per hL r d
  have a4 := early_per hL s d
  omega
theorem lat_per (hL : 0 < L) (d : Int) : latT L rs (d + L) = latT L rs d + L := by
  obtain ⟨r, h1, h2⟩ := lat_ex (L := L) h0 d
  obtain ⟨s, g1, g2⟩ := lat_ex (L := L) h0 (d + L)
  have a1 := lat_le (L := L) (d := d + L) h0 h1
  have a2 := lat_le (L := L) (d := d) h0 g1
  have a3 := late_per hL r d
  have a4 := late_per hL s d
  omega
end
def keptB (L : Int) (rs : List (Int × Int)) : Bool := rs.all fun r => rs.all fun o => decide (early L r o.1 ≤ o.2)
theorem kept_iff {L : Int} {rs : List (Int × Int)} : keptB L rs = true ↔ ∀ r, r ∈ rs → ∀ o, o ∈ rs → early L r o.1 ≤ o.2 := by
  unfold keptB
  rw [List.all_eq_true]
  constructor
  · intro h r hr o ho
    have := h r hr
    rw [List.all_eq_true] at this
    exact of_decide_eq_true (this o ho)
  · intro h r hr
    rw [List.all_eq_true]
    exact fun o ho => decide_eq_true (h r hr o ho)
theorem kept_ear {L : Int} {rs : List (Int × Int)} (h0 : rs ≠ []) : (rs.all fun o => decide (earT L rs o.1 = o.2)) = keptB L rs := by
  rw [Bool.eq_iff_iff, kept_iff, List.all_eq_true]
  constructor
  · intro h r hr o ho
    have h1 := of_decide_eq_true (h o ho)
    have h2 := ear_ge (L := L) (d := o.1) h0 hr
    omega
  · intro h o ho
    refine decide_eq_true ?_
    obtain ⟨r, g1, g2⟩ := ear_ex (L := L) h0 o.1
    have h1 := h r g1 o ho
    have h2 := ear_ge (L := L) (d := o.1) h0 ho
    rw [early_self] at h2
    omega
theorem kept_lat {L : Int} {rs : List (Int × Int)} (h0 : rs ≠ []) : (rs.all fun o => decide (latT L rs o.1 = o.2)) = keptB L rs := by
  rw [Bool.eq_iff_iff, kept_iff, List.all_eq_true]
  constructor
  · intro h r hr o ho
    have h1 := of_decide_eq_true (h r hr)
    have h2 := lat_le (L := L) (d := r.1) h0 ho
    exact (early_late r o).mpr (by omega)
  · intro h o ho
    refine decide_eq_true ?_
    obtain ⟨r, g1, g2⟩ := lat_ex (L := L) h0 o.1
    have h1 := (early_late o r).mp (h o ho r g1)
    have h2 := lat_le (L := L) (d := o.1) h0 ho
    rw [late_self] at h2
    omega
/-- the list of a rule's first days -/
def listF (n : Nat) (f : Int → Int) : List Int := (List.range n).map fun (i : Nat) => f (i : Int)
theorem listF_len (n : Nat) (f : Int → Int) : (listF n f).length = n := by unfold listF; rw [List.length_map, List.length_range]
theorem listF_at {n : Nat} {f : Int → Int} {i : Nat} (h : i < n) : (listF n f).getD i 0 = f (i : Int) := by
  unfold listF
  rw [List.getD_eq_getElem?_getD, List.getElem?_map, List.getElem?_range h] <;> rfl
section
variable {n : Nat} {f : Int → Int} (h1 : 1 ≤ n) (h2 : n ≤ 600) (hm : ∀ d e : Int, d ≤ e → f d ≤ f e) (hp : ∀ d : Int, f (d + (n : Int)) = f d + (n : Int))
include h1 h2 hm hp
theorem listF_good : Good (listF n f) := by
  refine ⟨by rw [listF_len]; exact h1, by rw [listF_len]; exact h2, fun i j hij hj => ?_, ?_⟩
  · rw [listF_len] at hj
    rw [listF_at (by omega), listF_at hj]
    exact hm _ _ (by omega)
  · rw [listF_len, listF_at (by omega), listF_at (by omega)]
    have a1 := hm ((n - 1 : Nat) : Int) (((0 : Nat) : Int) + (n : Int)) (by omega)
    have a2 := hp ((0 : Nat) : Int)
    omega
omit h1 h2 hm in
theorem per_mul (d : Int) (t : Int) : f (d + t * (n : Int)) = f d + t * (n : Int) := by
  have up : ∀ k : Nat, ∀ d : Int, f (d + (k : Int) * (n : Int)) = f d + (k : Int) * (n : Int) := by
    intro k
    induction k with
    | zero => intro d; simp
    | succ k ih =>
      intro d
      have e : d + ((k + 1 : Nat) : Int) * (n : Int) = d + (k : Int) * (n : Int) + (n : Int) := by rw [Int.natCast_add, Int.add_mul]; simp; omega
      rw [e, hp, ih, Int.natCast_add, Int.add_mul]
      simp
      omega
  by_cases h : 0 ≤ t
  · obtain ⟨k, rfl⟩ : ∃ k : Nat, t = (k : Int) := ⟨t.toNat, by omega⟩
    exact up k d
  · obtain ⟨k, rfl⟩ : ∃ k : Nat, t = -(k : Int) := ⟨(-t).toNat, by omega⟩
    have := up k (d + -(k : Int) * (n : Int))
    rw [Int.neg_mul] at this ⊢
    rw [show d + -((k : Int) * (n : Int)) + (k : Int) * (n : Int) = d by omega] at this
    omega
theorem listF_on (x : Int) : onL (listF n f) x = f x := by
  have g := listF_good h1 h2 hm hp
  obtain ⟨i, t, hi, rfl⟩ := split_at g x
  rw [on_at g hi]
  rw [listF_len] at hi ⊢
  rw [listF_at hi, per_mul hp]
end
theorem on_mul {ns : List Int} (g : Good ns) (x t : Int) : onL ns (x + t * (ns.length : Int)) = onL ns x + t * (ns.length : Int) := per_mul (fun d => on_len g d) x t
theorem list_on {ns : List Int} (g : Good ns) : listF ns.length (onL ns) = ns := by
  apply List.ext_getElem
  · rw [listF_len]
  · intro i h1 h2
    have e := listF_at (f := onL ns) h2
    rw [List.getD_eq_getElem?_getD, List.getElem?_eq_getElem h1] at e
    have e2 := on_at g h2 0
    rw [Int.zero_mul, Int.add_zero, Int.add_zero] at e2
    have e3 : (listF ns.length (onL ns))[i] = onL ns (i : Int) := e
    rw [e3, e2, List.getD_eq_getElem?_getD, List.getElem?_eq_getElem h2]
    rfl
/-- rows of a rule -/
def Reads (ns : List Int) (rs : List (Int × Int)) : Prop := ∀ r, r ∈ rs → onL ns r.1 = r.2
theorem early_on {ns : List Int} (g : Good ns) {r : Int × Int} (h : onL ns r.1 = r.2) (d : Int) : early (ns.length : Int) r d ≤ onL ns d := by
  have hp := g.posI
  have h1 := Int.emod_nonneg (d - r.1) (show (ns.length : Int) ≠ 0 by omega)
  have h3 := Int.emod_add_mul_ediv (d - r.1) (ns.length : Int)
  rw [Int.mul_comm] at h3
  unfold early
  rw [← h, ← on_mul g]
  exact on_mono g (by omega)
theorem on_late {ns : List Int} (g : Good ns) {r : Int × Int} (h : onL ns r.1 = r.2) (d : Int) : onL ns d ≤ late (ns.length : Int) r d := by
  have hp := g.posI
  have h1 := Int.emod_nonneg (r.1 - d) (show (ns.length : Int) ≠ 0 by omega)
  have h3 := Int.emod_add_mul_ediv (r.1 - d) (ns.length : Int)
  rw [Int.mul_comm] at h3
  unfold late
  have e : r.2 - (r.1 - d) / (ns.length : Int) * (ns.length : Int) = onL ns (r.1 + -((r.1 - d) / (ns.length : Int)) * (ns.length : Int)) := by
    rw [on_mul g, h, Int.neg_mul]
    omega
  rw [e]
  exact on_mono g (by rw [Int.neg_mul]; omega)
theorem reads_kept {ns : List Int} (g : Good ns) {rs : List (Int × Int)} (h : Reads ns rs) : keptB (ns.length : Int) rs = true :=
  kept_iff.mpr fun r hr o ho => by rw [← h o ho]; exact early_on g (h r hr) o.1
theorem ear_on {ns : List Int} (g : Good ns) {rs : List (Int × Int)} (h0 : rs ≠ []) (h : Reads ns rs) (d : Int) : earT (ns.length : Int) rs d ≤ onL ns d := by
  obtain ⟨r, h1, h2⟩ := ear_ex (L := (ns.length : Int)) h0 d
  rw [h2]
  exact early_on g (h r h1) d
theorem on_lat {ns : List Int} (g : Good ns) {rs : List (Int × Int)} (h0 : rs ≠ []) (h : Reads ns rs) (d : Int) : onL ns d ≤ latT (ns.length : Int) rs d := by
  obtain ⟨r, h1, h2⟩ := lat_ex (L := (ns.length : Int)) h0 d
  rw [h2]
  exact on_late g (h r h1) d
/-- a row of each day of a length tells the rule -/
theorem early_all {ns : List Int} (g : Good ns) {r : Int × Int} (h : onL ns r.1 = r.2) {d t : Int} (e : d = r.1 + t * (ns.length : Int)) : early (ns.length : Int) r d = onL ns d := by
  have hp := g.posI
  subst e
  unfold early
  rw [show r.1 + t * (ns.length : Int) - r.1 = t * (ns.length : Int) by omega, Int.mul_ediv_cancel _ (by omega), on_mul g, h]
theorem late_all {ns : List Int} (g : Good ns) {r : Int × Int} (h : onL ns r.1 = r.2) {d t : Int} (e : d = r.1 + t * (ns.length : Int)) : late (ns.length : Int) r d = onL ns d := by
  have hp := g.posI
  subst e
  unfold late
  rw [show r.1 - (r.1 + t * (ns.length : Int)) = -t * (ns.length : Int) by rw [Int.neg_mul]; omega, Int.mul_ediv_cancel _ (by omega), on_mul g, h, Int.neg_mul]
  omega
theorem ends_cover {n : Nat} (hn : 1 ≤ n) (first d : Int) : ∃ (i : Nat) (t : Int), i < n ∧ d = first + (i : Int) + t * (n : Int) := by
  have h1 := Int.emod_nonneg (d - first) (show (n : Int) ≠ 0 by omega)
  have h2 := Int.emod_lt_of_pos (d - first) (show (0 : Int) < n by omega)
  have h3 := Int.emod_add_mul_ediv (d - first) (n : Int)
  rw [Int.mul_comm] at h3
  exact ⟨((d - first) % (n : Int)).toNat, (d - first) / (n : Int), by omega, by omega⟩
def endRows (ns : List Int) (first : Int) : List (Int × Int) := (List.range ns.length).map fun (i : Nat) => (first + (i : Int), onL ns (first + (i : Int)))
theorem end_reads {ns : List Int} {first : Int} : Reads ns (endRows ns first) := fun r hr => by
  obtain ⟨i, _, rfl⟩ := List.mem_map.mp hr
  rfl
theorem end_ear {ns : List Int} (g : Good ns) {first : Int} {rs : List (Int × Int)} (hr : ∀ r, r ∈ rs ↔ r ∈ endRows ns first) (d : Int) : earT (ns.length : Int) rs d = onL ns d := by
  obtain ⟨i, t, hi, e⟩ := ends_cover g.pos first d
  have hm : (first + (i : Int), onL ns (first + (i : Int))) ∈ rs := (hr _).mpr (List.mem_map.mpr ⟨i, List.mem_range.mpr hi, rfl⟩)
  have h0 : rs ≠ [] := fun z => by rw [z] at hm; cases hm
  have a1 := ear_ge (L := (ns.length : Int)) (d := d) h0 hm
  have a2 := early_all g (r := (first + (i : Int), onL ns (first + (i : Int)))) rfl (d := d) (t := t) e
  have a3 := ear_on g h0 (fun r q => end_reads r ((hr r).mp q)) d
  omega
theorem end_lat {ns : List Int} (g : Good ns) {first : Int} {rs : List (Int × Int)} (hr : ∀ r, r ∈ rs ↔ r ∈ endRows ns first) (d : Int) : latT (ns.length : Int) rs d = onL ns d := by
  obtain ⟨i, t, hi, e⟩ := ends_cover g.pos first d
  have hm : (first + (i : Int), onL ns (first + (i : Int))) ∈ rs := (hr _).mpr (List.mem_map.mpr ⟨i, List.mem_range.mpr hi, rfl⟩)
  have h0 : rs ≠ [] := fun z => by rw [z] at hm; cases hm
  have a1 := lat_le (L := (ns.length : Int)) (d := d) h0 hm
  have a2 := late_all g (r := (first + (i : Int), onL ns (first + (i : Int)))) rfl (d := d) (t := t) e
  have a3 := on_lat g h0 (fun r q => end_reads r ((hr r).mp q)) d
  omega
end TM
end
section
namespace TM
/-! the mathematics of two rules -/
def Per (f : Int → Int) (n : Int) : Prop := ∀ x, f (x + n) = f x + n
def Mono (f : Int → Int) : Prop := ∀ d e : Int, d ≤ e → f d ≤ f e
theorem per_times {f : Int → Int} {n : Nat} (h : Per f (n : Int)) (t : Int) : Per f (t * (n : Int)) := fun x => per_mul h x t
theorem per_dvd {f : Int → Int} {n m : Nat} (h : Per f (n : Int)) (hd : n ∣ m) : Per f (m : Int) := by
  obtain ⟨k, rfl⟩ := hd
  have := per_times h (k : Int)
  rw [Int.natCast_mul, Int.mul_comm]
  exact this
theorem per_neg {f : Int → Int} {n : Int} (h : Per f n) : Per f (-n) := fun x => by
  have := h (x + -n)
  rw [show x + -n + n = x by omega] at this
  omega
theorem per_add {f : Int → Int} {n m : Int} (h : Per f n) (h' : Per f m) : Per f (n + m) := fun x => by
  rw [show x + (n + m) = x + n + m by omega, h', h]
  omega
theorem per_gcd {f : Int → Int} : ∀ (a b : Nat), Per f (a : Int) → Per f (b : Int) → Per f ((Nat.gcd a b : Nat) : Int) := by
  intro a b
  induction a, b using Nat.gcd.induction with
  | H0 n => intro _ h; rw [Nat.gcd_zero_left]; exact h
  | H1 m n hm ih =>
    intro ha hb
    rw [Nat.gcd_rec]
    refine ih ?_ ha
    have e : ((n % m : Nat) : Int) = (n : Int) + -((n / m : Nat) : Int) * (m : Int) := by
      have := Nat.div_add_mod n m
      have z : (n : Int) = (m : Int) * ((n / m : Nat) : Int) + ((n % m : Nat) : Int) := by exact_mod_cast this.symm
      rw [Int.neg_mul, Int.mul_comm]
      omega
    rw [e]
    exact per_add hb (per_times ha _)
theorem onL_per {ns : List Int} (g : Good ns) : Per (onL ns) (ns.length : Int) := on_len g
theorem onL_mono {ns : List Int} (g : Good ns) : Mono (onL ns) := fun _ _ h => on_mono g h
theorem comp_per {f h : Int → Int} {n : Int} (a : Per f n) (b : Per h n) : Per (fun x => f (h x)) n := fun x => by show f (h (x + n)) = f (h x) + n; rw [b, a]
theorem comp_mono {f h : Int → Int} (a : Mono f) (b : Mono h) : Mono (fun x => f (h x)) := fun d e q => a _ _ (b _ _ q)
theorem max_per {f h : Int → Int} {n : Int} (a : Per f n) (b : Per h n) : Per (fun x => if h x > f x then h x else f x) n := fun x => by
  show (if h (x + n) > f (x + n) then h (x + n) else f (x + n)) = (if h x > f x then h x else f x) + n
  rw [a, b]
  split <;> split <;> omega
theorem min_per {f h : Int → Int} {n : Int} (a : Per f n) (b : Per h n) : Per (fun x => if h x < f x then h x else f x) n := fun x => by
  show (if h (x + n) < f (x + n) then h (x + n) else f (x + n)) = (if h x < f x then h x else f x) + n
  rw [a, b]
  split <;> split <;> omega
theorem max_mono {f h : Int → Int} (a : Mono f) (b : Mono h) : Mono (fun x => if h x > f x then h x else f x) := fun d e q => by
  have := a d e q
  have := b d e q
  show (if h d > f d then h d else f d) ≤ (if h e > f e then h e else f e)
  split <;> split <;> omega
theorem min_mono {f h : Int → Int} (a : Mono f) (b : Mono h) : Mono (fun x => if h x < f x then h x else f x) := fun d e q => by
  have := a d e q
  have := b d e q
  show (if h d < f d then h d else f d) ≤ (if h e < f e then h e else f e)
  split <;> split <;> omega
theorem by_mono {ns : List Int} (g : Good ns) : Mono (byL ns) := fun d e h => (by_le g).mpr (Int.le_trans h ((by_le g).mp (Int.le_refl _)))
theorem by_per {ns : List Int} (g : Good ns) : Per (byL ns) (ns.length : Int) := fun y => by
  refine byL_eq g ⟨?_, ?_⟩
  · rw [on_len g]
    have := (byL_is g y).1
    omega
  · rw [show byL ns y + (ns.length : Int) - 1 = byL ns y - 1 + (ns.length : Int) by omega, on_len g]
    have := (byL_is g y).2
    omega
noncomputable def tilL (ns : List Int) (y : Int) : Int := byL ns (y + 1) - 1
theorem til_le {ns : List Int} (g : Good ns) {x y : Int} : x ≤ tilL ns y ↔ onL ns x ≤ y := by
  have := by_le g (x := x) (y := y + 1)
  unfold tilL
  omega
theorem til_mono {ns : List Int} (g : Good ns) : Mono (tilL ns) := fun d e h => by
  have := by_mono g (d + 1) (e + 1) (by omega)
  unfold tilL
  omega
theorem til_per {ns : List Int} (g : Good ns) : Per (tilL ns) (ns.length : Int) := fun y => by
  have := by_per g (y + 1)
  unfold tilL
  rw [show y + (ns.length : Int) + 1 = y + 1 + (ns.length : Int) by omega, this]
  omega
/-- a rule told by a map with a period -/
structure Rule (n : Nat) (f : Int → Int) : Prop where
  pos : 1 ≤ n
  most : n ≤ 600
  mono : Mono f
  per : Per f (n : Int)
theorem Rule.good {n : Nat} {f : Int → Int} (r : Rule n f) : Good (listF n f) := listF_good r.pos r.most r.mono r.per
theorem Rule.on {n : Nat} {f : Int → Int} (r : Rule n f) (x : Int) : onL (listF n f) x = f x := listF_on r.pos r.most r.mono r.per x
/-- the least length of a rule -/
structure Least (ns : List Int) (d : Nat) : Prop where
  pos : 1 ≤ d
  dvd : d ∣ ns.length
  per : Per (onL ns) (d : Int)
  min : ∀ e : Nat, 1 ≤ e → e ∣ ns.length → Per (onL ns) (e : Int) → d ≤ e
theorem Least.rule {ns : List Int} {d : Nat} (g : Good ns) (h : Least ns d) : Rule d (onL ns) := ⟨h.pos, Nat.le_trans (Nat.le_of_dvd g.pos h.dvd) g.most, onL_mono g, h.per⟩
theorem Least.dvd_per {ns : List Int} {d e : Nat} (h : Least ns d) (he : Per (onL ns) (e : Int)) : d ∣ e := by
  have hp := per_gcd d e h.per he
  have h1 : 1 ≤ Nat.gcd d e := Nat.gcd_pos_of_pos_left _ h.pos
  have h2 := h.min _ h1 (Nat.dvd_trans (Nat.gcd_dvd_left d e) h.dvd) hp
  have h3 : Nat.gcd d e = d := Nat.le_antisymm (Nat.le_of_dvd h.pos (Nat.gcd_dvd_left d e)) h2
  rw [← h3]
  exact Nat.gcd_dvd_right d e
theorem least_same {ns ms : List Int} {d e : Nat} (g : Good ns) (k : Good ms) (h : Least ns d) (j : Least ms e) : listF d (onL ns) = listF e (onL ms) ↔ ∀ x, onL ns x = onL ms x := by
  constructor
  · intro q x
    have a := (h.rule g).on x
    have b := (j.rule k).on x
    rw [q, b] at a
    exact a.symm
  · intro q
    have ef : onL ns = onL ms := funext q
    have a : d ∣ e := h.dvd_per (by rw [ef]; exact j.per)
    have b : e ∣ d := j.dvd_per (by rw [← ef]; exact h.per)
    rw [Nat.dvd_antisymm a b, ef]
theorem least_ex {ns : List Int} (g : Good ns) : ∃ d, Least ns d := by
  have key : ∀ k, (∃ d, 1 ≤ d ∧ d ≤ k ∧ d ∣ ns.length ∧ Per (onL ns) (d : Int)) → ∃ d, Least ns d := by
    intro k
    induction k with
    | zero => rintro ⟨d, h1, h2, _⟩; omega
    | succ k ih =>
      rintro ⟨d, h1, h2, h3, h4⟩
      by_cases hx : ∃ d, 1 ≤ d ∧ d ≤ k ∧ d ∣ ns.length ∧ Per (onL ns) (d : Int)
      · exact ih hx
      · refine ⟨d, h1, h3, h4, fun e e1 e2 e3 => ?_⟩
        refine Nat.le_of_not_lt fun q => hx ⟨e, e1, by omega, e2, e3⟩
  exact key ns.length ⟨ns.length, g.pos, Nat.le_refl _, Nat.dvd_refl _, onL_per g⟩
/-- it is enough to look at one length -/
theorem per_of_first {ns : List Int} (g : Good ns) {d : Int} (h : ∀ i, i < ns.length → onL ns ((i : Int) + d) = ns.getD i 0 + d) : Per (onL ns) d := fun x => by
  obtain ⟨i, t, hi, rfl⟩ := split_at g x
  rw [on_at g hi, show (i : Int) + t * (ns.length : Int) + d = (i : Int) + d + t * (ns.length : Int) by omega, on_mul g, h i hi]
  omega
theorem first_of_per {ns : List Int} (g : Good ns) {d : Int} (h : Per (onL ns) d) {i : Nat} (hi : i < ns.length) : onL ns ((i : Int) + d) = ns.getD i 0 + d := by
  rw [h]
  have := on_at g hi 0
  rw [Int.zero_mul, Int.add_zero, Int.add_zero] at this
  rw [this]
theorem listF_take {n d : Nat} {f : Int → Int} (h : d ≤ n) : (listF n f).take d = listF d f := by
  unfold listF
  rw [← List.map_take, List.take_range, Nat.min_eq_left h]
/-! behind, later, sooner and what is asked back -/
section
variable {ns ms : List Int} (g : Good ns) (k : Good ms) {L : Nat} (h1 : 1 ≤ L) (h2 : L ≤ 600) (hn : ns.length ∣ L) (hm : ms.length ∣ L)
include g k h1 h2 hn hm
theorem behind_rule : Rule L (fun x => onL ns (onL ms x)) := ⟨h1, h2, comp_mono (onL_mono g) (onL_mono k), comp_per (per_dvd (onL_per g) hn) (per_dvd (onL_per k) hm)⟩
theorem later_rule : Rule L (fun x => if onL ms x > onL ns x then onL ms x else onL ns x) := ⟨h1, h2, max_mono (onL_mono g) (onL_mono k), max_per (per_dvd (onL_per g) hn) (per_dvd (onL_per k) hm)⟩
theorem sooner_rule : Rule L (fun x => if onL ms x < onL ns x then onL ms x else onL ns x) := ⟨h1, h2, min_mono (onL_mono g) (onL_mono k), min_per (per_dvd (onL_per g) hn) (per_dvd (onL_per k) hm)⟩
end
theorem by_rule {ns : List Int} (g : Good ns) : Rule ns.length (byL ns) := ⟨g.pos, g.most, by_mono g, by_per g⟩
theorem til_rule {ns : List Int} (g : Good ns) : Rule ns.length (tilL ns) := ⟨g.pos, g.most, til_mono g, til_per g⟩
theorem by_unique {ns : List Int} (g : Good ns) {y m : Int} (h : ∀ x, m ≤ x ↔ y ≤ onL ns x) : byL ns y = m := by
  have a := (h (byL ns y)).mpr ((by_le g).mp (Int.le_refl _))
  have b := (by_le g).mpr ((h m).mp (Int.le_refl _))
  omega
theorem til_unique {ns : List Int} (g : Good ns) {y m : Int} (h : ∀ x, x ≤ m ↔ onL ns x ≤ y) : tilL ns y = m := by
  have a := (h (tilL ns y)).mpr ((til_le g).mp (Int.le_refl _))
  have b := (til_le g).mpr ((h m).mp (Int.le_refl _))
  omega
end TM
end
section
set_option maxHeartbeats 2000000
namespace G
open PySem
mutual
def bnd : PyData → Nat
  | .none => 4
  | .bool _ => 5
  | .int _ => 22
  | .str _ => 100000000
  | .list xs => bndAll xs + 2
  | .tuple xs => bndAll xs + 4
  | .dict _ => 100000000
def bndAll : List PyData → Nat
  | [] => 0
  | x :: xs => bnd x + 2 + bndAll xs
end
mutual
def smallD : PyData → Bool
  | .none => true
  | .bool _ => true
  | .int i => decide (i.natAbs < 10 ^ 20)
  | .str _ => false
  | .list xs => smallAll xs
  | .tuple xs => smallAll xs
  | .dict _ => false
def smallAll : List PyData → Bool
  | [] => true
  | x :: xs => smallD x && smallAll xs
end
theorem log_small {n : Nat} (h : n < 10 ^ 20) : n.log2 < 1920 := by
  by_cases h0 : n = 0
  · subst h0; decide
  · refine (Nat.log2_lt h0).mpr (Nat.lt_of_lt_of_le h (by decide))
mutual
theorem small_show : ∀ {d : PyData}, smallD d = true → d.showable = true
  | .none, _ => by simp [PyData.showable]
  | .bool _, _ => by simp [PyData.showable]
  | .int i, h => by simp only [smallD, decide_eq_true_eq] at h; simpa [PyData.showable] using log_small h
  | .str _, h => by simp [smallD] at h
  | .list xs, h => by simp only [smallD] at h; simpa [PyData.showable] using small_showAll h
  | .tuple xs, h => by simp only [smallD] at h; simpa [PyData.showable] using small_showAll h
  | .dict _, h => by simp [smallD] at h
theorem small_showAll : ∀ {ds : List PyData}, smallAll ds = true → PyData.showableAll ds = true
  | [], _ => by simp [PyData.showableAll]
  | d :: ds, h => by
    simp only [smallAll, Bool.and_eq_true] at h
    simp [PyData.showableAll, small_show h.1, small_showAll h.2]
end
theorem cat_len (a b : Str) : (a ++ b).length = a.length + b.length := Str.length_append a b
theorem list_text_len (ts : List Str) : (listText ts).length ≤ piled ts + 2 := by
  rw [listText_eq_join, cat_len, cat_len]
  have e1 : ((("[" : String) : Str)).length = 1 := by decide
  have e2 : ((("]" : String) : Str)).length = 1 := by decide
  by_cases h : ts = []
  · subst h
    have e3 : (Str.join ", " []).length = 0 := by decide
    omega
  · have := join_length_add ts h
    omega
theorem tuple_text_len (ts : List Str) : (tupleText ts).length ≤ piled ts + 4 := by
  unfold tupleText
  rw [cat_len, cat_len]
  have e1 : ((("(" : String) : Str)).length = 1 := by decide
  have e2 : (((if ts.length == 1 then ",)" else ")" : String) : Str)).length ≤ 2 := by split <;> decide
  by_cases h : ts = []
  · subst h
    have e3 : (Str.join ", " []).length = 0 := by decide
    omega
  · have := join_length_add ts h
    omega
mutual
theorem small_len : ∀ {d : PyData}, smallD d = true → d.shown.length ≤ bnd d
  | .none, _ => by simp only [PyData.shown, bnd]; decide
  | .bool b, _ => by simp only [PyData.shown, bnd]; cases b <;> decide
  | .int i, h => by
    simp only [smallD, decide_eq_true_eq] at h
    have := int_text_length_le10 (k := 20) (by decide) h
    simp only [PyData.shown, bnd]
    rw [ofString_length]
    omega
  | .str _, h => by simp [smallD] at h
  | .list xs, h => by
    simp only [smallD] at h
    have := small_lenAll h
    simp only [PyData.shown, bnd]
    exact Nat.le_trans (list_text_len _) (by omega)
  | .tuple xs, h => by
    simp only [smallD] at h
    have := small_lenAll h
    simp only [PyData.shown, bnd]
    exact Nat.le_trans (tuple_text_len _) (by omega)
  | .dict _, h => by simp [smallD] at h
theorem small_lenAll : ∀ {ds : List PyData}, smallAll ds = true → piled (PyData.shownAll ds) ≤ bndAll ds
  | [], _ => by simp [PyData.shownAll, piled, bndAll]
  | d :: ds, h => by
    simp only [smallAll, Bool.and_eq_true] at h
    have h1 := small_len h.1
    have h2 := small_lenAll h.2
    simp only [PyData.shownAll, piled_cons, bndAll]
    omega
end
theorem small_ints {ns : List Int} (h : ∀ n, n ∈ ns → n.natAbs < 10 ^ 20) : smallAll (ns.map PyData.int) = true := by
  induction ns with
  | nil => rfl
  | cons n ns ih =>
    rw [List.map_cons]
    simp only [smallAll, smallD, Bool.and_eq_true, decide_eq_true_eq]
    exact ⟨h n (List.mem_cons_self ..), ih fun m hm => h m (List.mem_cons_of_mem _ hm)⟩
theorem bnd_ints (ns : List Int) : bndAll (ns.map PyData.int) = 24 * ns.length := by
  induction ns with
  | nil => rfl
  | cons n ns ih => rw [List.map_cons, bndAll, ih, List.length_cons, bnd]; omega
end G
end
section
set_option maxHeartbeats 2000000
namespace K15
open PySem L2
def top (i : Nat) : Stmt := PySem.Challenge.pw_leadrules_k15_whole_rounds_and_pace.main.body.getD i (.Pass ⟨0, 0, 0, 0⟩)
abbrev s__wall : Stmt := (top 1)
abbrev s_is_day : Stmt := (top 3)
theorem sc_is_day : FnScope ["value"] ["value"] (defScope s_is_day) := ⟨rfl, rfl, rfl, by decide +kernel, rfl, by decide +kernel, by decide +kernel⟩
abbrev s_is_count : Stmt := (top 4)
theorem sc_is_count : FnScope ["value"] ["value"] (defScope s_is_count) := ⟨rfl, rfl, rfl, by decide +kernel, rfl, by decide +kernel, by decide +kernel⟩
abbrev s_InvalidDay___init__ : Stmt := (inClass (top 7) 0)
abbrev s_InvalidCount___init__ : Stmt := (inClass (top 8) 0)
abbrev s_InvalidTable___init__ : Stmt := (inClass (top 9) 0)
abbrev s_TooMany___init__ : Stmt := (inClass (top 11) 0)
abbrev s_need_day : Stmt := (top 13)
theorem sc_need_day : FnScope ["value"] ["value"] (defScope s_need_day) := ⟨rfl, rfl, rfl, by decide +kernel, rfl, by decide +kernel, by decide +kernel⟩
abbrev s_need_count : Stmt := (top 14)
theorem sc_need_count : FnScope ["value"] ["value"] (defScope s_need_count) := ⟨rfl, rfl, rfl, by decide +kernel, rfl, by decide +kernel, by decide +kernel⟩
abbrev s_need_length : Stmt := (top 15)
theorem sc_need_length : FnScope ["value"] ["value"] (defScope s_need_length) := ⟨rfl, rfl, rfl, by decide +kernel, rfl, by decide +kernel, by decide +kernel⟩
abbrev s_is_list : Stmt := (top 16)
theorem sc_is_list : FnScope ["value"] ["value"] (defScope s_is_list) := ⟨rfl, rfl, rfl, by decide +kernel, rfl, by decide +kernel, by decide +kernel⟩
abbrev s_Table___init__ : Stmt := (inClass (top 18) 2)
theorem sc_Table___init__ : FnScope ["self", "days"] ["self", "days"] (defScope s_Table___init__) := ⟨rfl, rfl, rfl, by decide +kernel, rfl, by decide +kernel, by decide +kernel⟩
abbrev s_Table_length : Stmt := (inClass (top 18) 3)
theorem sc_Table_length : FnScope ["self"] ["self"] (defScope s_Table_length) := ⟨rfl, rfl, rfl, by decide +kernel, rfl, by decide +kernel, by decide +kernel⟩
abbrev s_Table_days : Stmt := (inClass (top 18) 4)
theorem sc_Table_days : FnScope ["self"] ["self"] (defScope s_Table_days) := ⟨rfl, rfl, rfl, by decide +kernel, rfl, by decide +kernel, by decide +kernel⟩
abbrev s_Table_asked_rows : Stmt := (inClass (top 18) 5)
theorem sc_Table_asked_rows : FnScope ["self"] ["self"] (defScope s_Table_asked_rows) := ⟨rfl, rfl, rfl, by decide +kernel, rfl, by decide +kernel, by decide +kernel⟩
abbrev s_Table_on : Stmt := (inClass (top 18) 6)
theorem sc_Table_on : FnScope ["self", "day", "turns", "place"] ["self", "day"] (defScope s_Table_on) := ⟨rfl, rfl, rfl, by decide +kernel, rfl, by decide +kernel, by decide +kernel⟩
abbrev s_Table___call__ : Stmt := (inClass (top 18) 7)
abbrev s_Table_by : Stmt := (inClass (top 18) 8)
abbrev s_Table_til : Stmt := (inClass (top 18) 9)
abbrev s_Table_answers : Stmt := (inClass (top 18) 10)
abbrev s_Table_is_served : Stmt := (inClass (top 18) 11)
abbrev s_Table_leads : Stmt := (inClass (top 18) 12)
abbrev s_Table_mean_lead : Stmt := (inClass (top 18) 13)
abbrev s_Table_fixed_days : Stmt := (inClass (top 18) 14)
theorem sc_Table_fixed_days : FnScope ["self", "asked", "served"] ["self"] (defScope s_Table_fixed_days) := ⟨rfl, rfl, rfl, by decide +kernel, rfl, by decide +kernel, by decide +kernel⟩
abbrev s_Table_moved : Stmt := (inClass (top 18) 15)
theorem sc_Table_moved : FnScope ["self", "day", "served"] ["self", "day"] (defScope s_Table_moved) := ⟨rfl, rfl, rfl, by decide +kernel, rfl, by decide +kernel, by decide +kernel⟩
abbrev s_Table_asked_later : Stmt := (inClass (top 18) 16)
theorem sc_Table_asked_later : FnScope ["self", "day", "asked"] ["self", "day"] (defScope s_Table_asked_later) := ⟨rfl, rfl, rfl, by decide +kernel, rfl, by decide +kernel, by decide +kernel⟩
abbrev s_Table_by_table : Stmt := (inClass (top 18) 17)
abbrev s_Table_til_table : Stmt := (inClass (top 18) 18)
abbrev s_Table_stretched : Stmt := (inClass (top 18) 19)
theorem sc_Table_stretched : FnScope ["self", "count", "day"] ["self", "count"] (defScope s_Table_stretched) := ⟨rfl, rfl, rfl, by decide +kernel, rfl, by decide +kernel, by decide +kernel⟩
abbrev s_Table_shortest : Stmt := (inClass (top 18) 20)
theorem sc_Table_shortest : FnScope ["self", "lengths", "length"] ["self"] (defScope s_Table_shortest) := ⟨rfl, rfl, rfl, by decide +kernel, rfl, by decide +kernel, by decide +kernel⟩
abbrev s_Table_plain : Stmt := (inClass (top 18) 21)
theorem sc_Table_plain : FnScope ["cls", "count"] ["cls", "count"] (defScope s_Table_plain) := ⟨rfl, rfl, rfl, by decide +kernel, rfl, by decide +kernel, by decide +kernel⟩
abbrev s_Table_is_same : Stmt := (inClass (top 18) 22)
abbrev s_Table___eq__ : Stmt := (inClass (top 18) 23)
theorem sc_Table___eq__ : FnScope ["self", "other"] ["self", "other"] (defScope s_Table___eq__) := ⟨rfl, rfl, rfl, by decide +kernel, rfl, by decide +kernel, by decide +kernel⟩
abbrev s_Table___repr__ : Stmt := (inClass (top 18) 24)
abbrev s_is_table : Stmt := (top 19)
theorem sc_is_table : FnScope ["value", "rises", "day", "place"] ["value"] (defScope s_is_table) := ⟨rfl, rfl, rfl, by decide +kernel, rfl, by decide +kernel, by decide +kernel⟩
abbrev s__many_ahead : Stmt := (top 20)
abbrev s__repeats : Stmt := (top 21)
theorem sc__repeats : FnScope ["table", "length", "asked", "served"] ["table", "length"] (defScope s__repeats) := ⟨rfl, rfl, rfl, by decide +kernel, rfl, by decide +kernel, by decide +kernel⟩
abbrev s_behind : Stmt := (top 24)
theorem sc_behind : FnScope ["table", "other_table", "days", "day"] ["table", "other_table"] (defScope s_behind) := ⟨rfl, rfl, rfl, by decide +kernel, rfl, by decide +kernel, by decide +kernel⟩
abbrev s_times : Stmt := (top 25)
theorem sc_times : FnScope ["table", "count", "asked", "doubled"] ["table", "count"] (defScope s_times) := ⟨rfl, rfl, rfl, by decide +kernel, rfl, by decide +kernel, by decide +kernel⟩
abbrev s_run_end : Stmt := (top 26)
theorem sc_run_end : FnScope ["table", "day", "count"] ["table", "day", "count"] (defScope s_run_end) := ⟨rfl, rfl, rfl, by decide +kernel, rfl, by decide +kernel, by decide +kernel⟩
abbrev s_rounds : Stmt := (top 27)
theorem sc_rounds : FnScope ["table", "seen", "found", "first", "days", "day"] ["table"] (defScope s_rounds) := ⟨rfl, rfl, rfl, by decide +kernel, rfl, by decide +kernel, by decide +kernel⟩
abbrev s_round_of : Stmt := (top 28)
theorem sc_round_of : FnScope ["table", "day", "days"] ["table", "day"] (defScope s_round_of) := ⟨rfl, rfl, rfl, by decide +kernel, rfl, by decide +kernel, by decide +kernel⟩
abbrev s_pace : Stmt := (top 29)
theorem sc_pace : FnScope ["table", "days", "gone", "shared"] ["table"] (defScope s_pace) := ⟨rfl, rfl, rfl, by decide +kernel, rfl, by decide +kernel, by decide +kernel⟩
abbrev s__common_length : Stmt := (top 30)
theorem sc__common_length : FnScope ["table", "other_table", "length"] ["table", "other_table"] (defScope s__common_length) := ⟨rfl, rfl, rfl, by decide +kernel, rfl, by decide +kernel, by decide +kernel⟩
abbrev s__need_askings : Stmt := (top 31)
theorem sc__need_askings : FnScope ["count"] ["count"] (defScope s__need_askings) := ⟨rfl, rfl, rfl, by decide +kernel, rfl, by decide +kernel, by decide +kernel⟩
abbrev s__round_from : Stmt := (top 32)
theorem sc__round_from : FnScope ["table", "first", "days"] ["table", "first"] (defScope s__round_from) := ⟨rfl, rfl, rfl, by decide +kernel, rfl, by decide +kernel, by decide +kernel⟩
abbrev s__law_pot : Stmt := (top 34)
theorem sc__law_pot : FnScope ["_law_script", "_law_k", "_law_cell"] ["_law_script", "_law_k"] (defScope s__law_pot) := ⟨rfl, rfl, rfl, by decide +kernel, rfl, by decide +kernel, by decide +kernel⟩
abbrev s__law_draw : Stmt := (top 35)
theorem sc__law_draw : FnScope ["_law_pot_here", "_law_size", "_law_digit"] ["_law_pot_here", "_law_size"] (defScope s__law_draw) := ⟨rfl, rfl, rfl, by decide +kernel, rfl, by decide +kernel, by decide +kernel⟩
abbrev s__law_pick : Stmt := (top 36)
theorem sc__law_pick : FnScope ["_law_pot_here", "_law_some"] ["_law_pot_here", "_law_some"] (defScope s__law_pick) := ⟨rfl, rfl, rfl, by decide +kernel, rfl, by decide +kernel, by decide +kernel⟩
abbrev s__law_days : Stmt := (top 37)
theorem sc__law_days : FnScope ["_law_pot_here", "_law_length", "_law_first", "_law_days_here", "_law_left", "_law_turn", "_law_step"] ["_law_pot_here", "_law_length", "_law_first"] (defScope s__law_days) := ⟨rfl, rfl, rfl, by decide +kernel, rfl, by decide +kernel, by decide +kernel⟩
abbrev s__law_on : Stmt := (top 38)
theorem sc__law_on : FnScope ["_law_days_here", "_law_day", "_law_part"] ["_law_days_here", "_law_day"] (defScope s__law_on) := ⟨rfl, rfl, rfl, by decide +kernel, rfl, by decide +kernel, by decide +kernel⟩
abbrev s__law_by : Stmt := (top 39)
abbrev s__law_til : Stmt := (top 40)
abbrev s__law_low : Stmt := (top 41)
theorem sc__law_low : FnScope ["_law_above", "_law_below", "_law_one", "_law_other"] ["_law_above", "_law_below"] (defScope s__law_low) := ⟨rfl, rfl, rfl, by decide +kernel, rfl, by decide +kernel, by decide +kernel⟩
abbrev s__law_place : Stmt := (top 42)
theorem sc__law_place : FnScope ["_law_days_here", "_law_day"] ["_law_days_here", "_law_day"] (defScope s__law_place) := ⟨rfl, rfl, rfl, by decide +kernel, rfl, by decide +kernel, by decide +kernel⟩
abbrev s__law_round : Stmt := (top 43)
theorem sc__law_round : FnScope ["_law_days_here", "_law_day", "_law_here", "_law_turn", "_law_ring", "_law_first", "_law_found"] ["_law_days_here", "_law_day"] (defScope s__law_round) := ⟨rfl, rfl, rfl, by decide +kernel, rfl, by decide +kernel, by decide +kernel⟩
abbrev s__law_rounds : Stmt := (top 44)
theorem sc__law_rounds : FnScope ["_law_days_here", "_law_found", "_law_place_here", "_law_ring"] ["_law_days_here"] (defScope s__law_rounds) := ⟨rfl, rfl, rfl, by decide +kernel, rfl, by decide +kernel, by decide +kernel⟩
abbrev s__law_rounds_right : Stmt := (top 45)
theorem sc__law_rounds_right : FnScope ["_law_table", "_law_days_here", "_law_due", "_law_told", "_law_gone", "_law_paces", "_law_ring", "_law_at"] ["_law_table", "_law_days_here"] (defScope s__law_rounds_right) := ⟨rfl, rfl, rfl, by decide +kernel, rfl, by decide +kernel, by decide +kernel⟩
abbrev s__law_day_right : Stmt := (top 46)
theorem sc__law_day_right : FnScope ["_law_pot_here", "_law_table", "_law_days_here", "_law_day", "_law_due", "_law_told", "_law_above", "_law_below", "_law_count", "_law_gone"] ["_law_pot_here", "_law_table", "_law_days_here", "_law_day"] (defScope s__law_day_right) := ⟨rfl, rfl, rfl, by decide +kernel, rfl, by decide +kernel, by decide +kernel⟩
abbrev s__law_others_right : Stmt := (top 47)
theorem sc__law_others_right : FnScope ["_law_pot_here", "_law_table", "_law_days_here", "_law_above", "_law_below", "_law_many", "_law_step", "_law_length", "_law_fixed", "_law_day", "_law_ring"] ["_law_pot_here", "_law_table", "_law_days_here"] (defScope s__law_others_right) := ⟨rfl, rfl, rfl, by decide +kernel, rfl, by decide +kernel, by decide +kernel⟩
abbrev s__law_long_right : Stmt := (top 48)
theorem sc__law_long_right : FnScope ["_law_pot_here", "_law_step", "_law_table", "_law_many", "_law_due", "_law_day", "_law_place_here", "_law_first", "_law_at"] ["_law_pot_here"] (defScope s__law_long_right) := ⟨rfl, rfl, rfl, by decide +kernel, rfl, by decide +kernel, by decide +kernel⟩
abbrev s__law_right : Stmt := (top 49)
theorem sc__law_right : FnScope ["_law_pot_here", "_law_length", "_law_first", "_law_days_here", "_law_table", "_law_some", "_law_day"] ["_law_pot_here"] (defScope s__law_right) := ⟨rfl, rfl, rfl, by decide +kernel, rfl, by decide +kernel, by decide +kernel⟩
abbrev s_law : Stmt := (top 50)
theorem sc_law : FnScope ["_law_script", "_law_k"] ["_law_script"] (defScope s_law) := ⟨rfl, rfl, rfl, by decide +kernel, rfl, by decide +kernel, by decide +kernel⟩
end K15
end
section
set_option maxHeartbeats 4000000
namespace K15
open PySem L2 Evl G TM
structure Txt (K : PySem.W.Frag) (mg : Str → Option Value) (C : Addr) : Prop where
  cl : Cls K C
  nD : NoAttr K C "_days"
  kc : PySem.W.keepIn K (.ref C) = true
  mki : PySem.W.makesIn K C = true
  mg_Table : mg "Table" = some (.ref C)
  tyC : ∀ (H : Hp) (a dx : Addr) (fs : List (Str × V)), H a = some (.ins C dx fs) → TyOf K H (.ref a) (.ref C)
  cM : ∃ (mc : Value) (tk : Tok), ClX.CRead K C mc ∧ ClX.CVal K C mc "MOST_LENGTH" (.int 600) (.int 600 tk)
  cL : ∃ tk : Tok, Con K C "MOST_LENGTH" (.int 600) (.int 600 tk)
  mg_MOST_ASKINGS : ∃ tk : Tok, mg "MOST_ASKINGS" = some (.int 1000000 tk)
  b_isinstance : mg "isinstance" = none
  b_int : mg "int" = none
  b_bool : mg "bool" = none
  b_list : mg "list" = none
  b_tuple : mg "tuple" = none
  b_len : mg "len" = none
  b_enumerate : mg "enumerate" = none
  b_range : mg "range" = none
  b_divmod : mg "divmod" = none
  b_min : mg "min" = none
  b_max : mg "max" = none
  b_all : mg "all" = none
  b_abs : mg "abs" = none
  b_repr : mg "repr" = none
  b_sorted : mg "sorted" = none
  b_set : mg "set" = none
  b_lcm : mg "lcm" = some (.builtin "math.lcm")
  b_gcd : mg "gcd" = some (.builtin "math.gcd")
structure Cal (P : Program) (w : World) (K : PySem.W.Frag) (mg : Str → Option Value) (base : Heap) (x : Str) (f : Addr) (fd : FuncData) (ps : List Str) (k : Nat) (sp : Sp) : Prop where
  ok : FnOk P w K mg base CX0 k f fd ps sp
  mgx : mg x = some (.ref f)
  kp : PySem.W.keepIn K (.ref f) = true
  bd : Binds K fd ps []
structure CalG (P : Program) (w : World) (K : PySem.W.Frag) (mg : Str → Option Value) (base : Heap) (x : Str) (f : Addr) (fd : FuncData) (ps : List Str) (k : Nat) (sp : Sp) : Prop where
  ok : FnG P w K mg base CX0 k f fd ps sp
  mgx : mg x = some (.ref f)
  kp : PySem.W.keepIn K (.ref f) = true
  bd : Binds K fd ps []
structure Met (P : Program) (w : World) (K : PySem.W.Frag) (mg : Str → Option Value) (base : Heap) (C : Addr) (m : Str) (f : Addr) (fd : FuncData) (ps : List Str) (k : Nat) (sp : Sp) : Prop where
  ok : FnOk P w K mg base CX0 k f fd ps sp
  me : Meth K C m f
  bd : Binds K fd ps []
structure Prp (P : Program) (w : World) (K : PySem.W.Frag) (mg : Str → Option Value) (base : Heap) (C : Addr) (m : Str) (p f : Addr) (fd : FuncData) (ps : List Str) (k : Nat) (sp : Sp) : Prop where
  ok : FnOk P w K mg base CX0 k f fd ps sp
  pr : PropOf K C m p f
  bd : Binds K fd ps []
structure MetG (P : Program) (w : World) (K : PySem.W.Frag) (mg : Str → Option Value) (base : Heap) (C : Addr) (m : Str) (f : Addr) (fd : FuncData) (ps : List Str) (k : Nat) (sp : Sp) : Prop where
  ok : FnG P w K mg base CX0 k f fd ps sp
  at_ : PySem.W.findIn K (.ref C) m = some (some (.ref f))
  fn : PySem.W.isFn K (.ref f) = true
  bd : Binds K fd ps []
def Tab (K : PySem.W.Frag) (C : Addr) (H : Hp) (p : Addr) (ns : List Int) : Prop := ∃ dx l, H p = some (.ins C dx [("_days", .ref l)]) ∧ SqL K H l (ns.map V.int)
theorem Tab.mono {K : PySem.W.Frag} {C p : Addr} {H H' : Hp} {ns : List Int} (e : Ex H H') (h : Tab K C H p ns) : Tab K C H' p ns := let ⟨dx, l, h1, h2⟩ := h; ⟨dx, l, e p _ h1, ex_l e h2⟩
/-! ### the promises -/
def sp_is_day : Sp := fun vs H Q _ => ∃ i, vs = [.int i] ∧ RetV (.bl true) H Q
def sp_need_day : Sp := fun vs H Q _ => ∃ i, vs = [.int i] ∧ RetV .non H Q
theorem spv_is_day {i : Int} {H : Hp} : SpV sp_is_day ([.int i] ++ []) H (.bl true) := fun H1 _ Q q E => ⟨i, rfl, q⟩
theorem spv_need_day {i : Int} {H : Hp} : SpV sp_need_day ([.int i] ++ []) H .non := fun H1 _ Q q E => ⟨i, rfl, q⟩
section
variable {P : Program} {w : World} {K : PySem.W.Frag} {mg : Str → Option Value} {base : Heap} {C : Addr}
theorem ev_isiB {σ : L2.St} {H : Hp} {ta : TE} {x : V} {t : String} {n : String} {b : Bool} (h : Ev ta σ H x) (ty : ∀ H1, Ex H H1 → TyX K H1 x (.type t)) (hb : kitB t n = some b) :
    Ev (tCB (rIsi K) (tCons ta (tCons (tC (.ty n)) tNil))) σ H (.bl b) := ev_cb (ea_cons h (ea_cons ev_c ea_nil)) (rc_isi (.ty n) ty (kit_ty hb))
theorem ok_is_day {f : Addr} {fd : FuncData} (F : Fun K "is_day" "is_day" s_is_day f fd) (T : Txt K mg C) : FnOk P w K mg base CX0 1 f fd ["value"] sp_is_day := by
  refine F.ok sc_is_day (fun vs H Q E h => ?_) (fun cdv A outer s H vs Q E hr h => ?_)
  · obtain ⟨i, rfl, _⟩ := h
    rfl
  · obtain ⟨i, rfl, k⟩ := h
    refine ⟨_, (pss_one (ps_ret (pe_and (pe_callB call_isi (by rfl) T.b_isinstance (by decide +kernel) (pa_cons (pv 0) (pa_cons (pe_bltn (v := .ty "int") (u := .type "int") (by rfl) T.b_int (by decide +kernel) rfl) pa_nil))) (pe_one (pe_not (pe_callB call_isi (by rfl) T.b_isinstance (by decide +kernel) (pa_cons (pv 0) (pa_cons (pe_bltn (v := .ty "bool") (u := .type "bool") (by rfl) T.b_bool (by decide +kernel) rfl) pa_nil)))))))), ?_⟩
    refine s_ret (ev_andV (b := true) (ev_isiB (b := true) (ev_var rfl) (fun _ _ => .base (.int i)) (by decide +kernel)) fun _ => ev_notV (a := false) (ev_isiB (b := false) (ev_var rfl) (fun _ _ => .base (.int i)) (by decide +kernel))) fun H1 e => k H1 e
theorem ok_need_day {f f1 : Addr} {fd fd1 : FuncData} (F : Fun K "need_day" "need_day" s_need_day f fd) (T : Txt K mg C) (c_is_day : Cal P w K mg base "is_day" f1 fd1 ["value"] 1 sp_is_day) : FnOk P w K mg base CX0 2 f fd ["value"] sp_need_day := by
  refine F.ok sc_need_day (fun vs H Q E h => ?_) (fun cdv A outer s H vs Q E hr h => ?_)
  · obtain ⟨i, rfl, _⟩ := h
    rfl
  · obtain ⟨i, rfl, k⟩ := h
    refine ⟨_, (pss_one (ps_if (pt_not (pt_val (pe_call c_is_day.ok (hr.mono (by decide)) (by rfl) c_is_day.mgx c_is_day.kp c_is_day.bd .nil pass0 (pa_cons (pv 0) pa_nil)))) (pss_one ps_never) pss_nil)), ?_⟩
    exact s_when (et_not (et_B (ev_call (ea_cons (ev_var rfl) ea_nil) spv_is_day))) (fun h => by cases h) fun _ H1 e => k H1 e
end
def Seq (K : PySem.W.Frag) (H : Hp) (p : Addr) (xs : List V) : Prop := SqL K H p xs ∨ SqT K H p xs
/-- a list or tuple that is tracked as itself (its type is known) -/
def SeqT (K : PySem.W.Frag) (H : Hp) (p : Addr) (xs : List V) : Prop := H p = some (.lst xs) ∨ H p = some (.tup xs)
theorem SeqT.seq {K : PySem.W.Frag} {H : Hp} {p : Addr} {xs : List V} (h : SeqT K H p xs) : Seq K H p xs := h.imp sq_of st_of
theorem SeqT.mono {K : PySem.W.Frag} {H H' : Hp} {p : Addr} {xs : List V} (e : Ex H H') (h : SeqT K H p xs) : SeqT K H' p xs := h.imp (e p _) (e p _)
def sp_is_list (K : PySem.W.Frag) : Sp := fun vs H Q _ => ∃ p xs, vs = [.ref p] ∧ SeqT K H p xs ∧ RetV (.bl true) H Q
theorem spv_is_list {K : PySem.W.Frag} {p : Addr} {xs : List V} {H : Hp} (h : SeqT K H p xs) : SpV (sp_is_list K) ([.ref p] ++ []) H (.bl true) := fun H1 e Q q E => ⟨p, xs, rfl, h.mono e, q⟩
def sp_is_table (K : PySem.W.Frag) : Sp := fun vs H Q _ => ∃ p ns, vs = [.ref p] ∧ SeqT K H p (ns.map V.int) ∧ Good ns ∧ RetV (.bl true) H Q
theorem spv_is_table {K : PySem.W.Frag} {p : Addr} {ns : List Int} {H : Hp} (h : SeqT K H p (ns.map V.int)) (g : Good ns) : SpV (sp_is_table K) ([.ref p] ++ []) H (.bl true) := fun H1 e Q q E => ⟨p, ns, rfl, h.mono e, g, q⟩
def sp_init (K : PySem.W.Frag) (C : Addr) : Sp := fun vs H Q _ => ∃ x dx p ns, vs = [.ref x, .ref p] ∧ H x = some (.ins C dx []) ∧ SeqT K H p (ns.map V.int) ∧ Good ns ∧
  ∀ l H', (∀ b o, H b = some o → b ≠ x → H' b = some o) → H' x = some (.ins C dx [("_days", .ref l)]) → H' l = some (.lst (ns.map V.int)) → H l = none → Q .non H'
structure Ini (P : Program) (w : World) (K : PySem.W.Frag) (mg : Str → Option Value) (base : Heap) (C : Addr) (f : Addr) (fd : FuncData) : Prop where
  ok : FnOk P w K mg base CX0 3 f fd ["self", "days"] (sp_init K C)
  bd : Binds K fd ["self", "days"] []
theorem getI {ns : List Int} {i : Nat} (h : i < ns.length) : (ns.map V.int)[i]? = some (.int (ns.getD i 0)) := by
  rw [List.getElem?_map, List.getElem?_eq_getElem h, List.getD_eq_getElem?_getD, List.getElem?_eq_getElem h] <;> rfl
theorem atI_get {xs : List V} {i : Nat} {v : V} (h : xs[i]? = some v) : atI xs (i : Int) = some v := atI_nat h
theorem atI_int {ns : List Int} {i : Int} (h0 : 0 ≤ i) (h : i < (ns.length : Int)) : atI (ns.map V.int) i = some (.int (ns.getD i.toNat 0)) := by
  obtain ⟨k, rfl⟩ : ∃ k : Nat, i = (k : Int) := ⟨i.toNat, by omega⟩
  rw [Int.toNat_natCast]
  exact atI_nat (getI (by omega))
theorem atI_m1 {ns : List Int} (h : 1 ≤ ns.length) : atI (ns.map V.int) (-1) = some (.int (ns.getD (ns.length - 1) 0)) := by
  have e : ns.map V.int = (ns.dropLast).map V.int ++ [.int (ns.getD (ns.length - 1) 0)] := by
    have hne : ns ≠ [] := by intro q; subst q; simp at h
    conv => lhs; rw [← List.dropLast_concat_getLast hne]
    rw [List.map_append, List.getLast_eq_getElem, List.getD_eq_getElem?_getD, List.getElem?_eq_getElem (by omega)] <;> rfl
  rw [e]
  exact atI_last _ _
section
variable {P : Program} {w : World} {K : PySem.W.Frag} {mg : Str → Option Value} {base : Heap} {C : Addr}
theorem ok_is_list {f : Addr} {fd : FuncData} (F : Fun K "is_list" "is_list" s_is_list f fd) (T : Txt K mg C) : FnOk P w K mg base CX0 1 f fd ["value"] (sp_is_list K) := by
  refine F.ok sc_is_list (fun vs H Q E h => ?_) (fun cdv A outer s H vs Q E hr h => ?_)
  · obtain ⟨p, xs, rfl, _⟩ := h
    rfl
  · obtain ⟨p, xs, rfl, hs, k⟩ := h
    refine ⟨_, (pss_one (ps_ret (pe_callB call_isiT (by rfl) T.b_isinstance (by decide +kernel) (pa_cons (pv 0) (pa_cons (pe_tup (pa_cons (pe_bltn (v := .ty "list") (u := .type "list") (by rfl) T.b_list (by decide +kernel) rfl) (pa_cons (pe_bltn (v := .ty "tuple") (u := .type "tuple") (by rfl) T.b_tuple (by decide +kernel) rfl) pa_nil))) pa_nil))))), ?_⟩
    rcases hs with hs | hs
    · refine ⟨_, rfl, by decide, fun t ht => ?_⟩
      refine ⟨.ref p, t, [.ty "list", .ty "tuple"], .type "list", [.type "list", .type "tuple"], true, rfl, upd_same, .cons (.ty _) (.cons (.ty _) .nil), .base (.lst (by rw [upd_ne (ne_of_none hs ht)]; exact hs)), kitAny_cons (b := true) (kit_ty (by decide +kernel)) (fun h => nomatch h) (fun _ => rfl), k _ (Ex.new ht)⟩
    · refine ⟨_, rfl, by decide, fun t ht => ?_⟩
      refine ⟨.ref p, t, [.ty "list", .ty "tuple"], .type "tuple", [.type "list", .type "tuple"], true, rfl, upd_same, .cons (.ty _) (.cons (.ty _) .nil), .base (.tup (by rw [upd_ne (ne_of_none hs ht)]; exact hs)), kitAny_cons (b := false) (kit_ty (by decide +kernel)) (fun _ => kitAny_cons (b := true) (kit_ty (by decide +kernel)) (fun h => nomatch h) (fun _ => rfl)) (fun h => nomatch h), k _ (Ex.new ht)⟩
/-- range(n) of a comprehension that keeps all -/
theorem given_all {n : Nat} {v : Nat → V} : given n (fun _ => true) v = (List.range n).map v := by
  unfold given
  rw [List.filter_eq_self.mpr (fun _ _ => rfl)]
theorem lc_true {σ : L2.St} {H : Hp} : EvT tYes σ H true := fun H1 _ _ q => q H1 (Ex.refl _)
theorem all_map_true {n : Nat} {f : Nat → Bool} (h : ∀ i, i < n → f i = true) : ((List.range n).map f).all id = true := by
  rw [List.all_map, List.all_eq_true]
  exact fun i hi => h i (List.mem_range.mp hi)
theorem rv_res {r : R2} {x y z z' : V} {H : Hp} (h : RV r x y H z) (e : z = z') : RV r x y H z' := e ▸ h
theorem ev_glob {σ : L2.St} {H : Hp} {v : V} : Ev (tC v) σ H v := ev_c
theorem ev_const {σ : L2.St} {H : Hp} {mc : Value} {f : Str} {v : V} {u : Value} {te : TE} (h : Ev te σ H (.ref C)) (r : ClX.CRead K C mc) (k : ClX.CVal K C mc f v u) : Ev (ClX.tCVal K te f) σ H v := fun H1 e Q q =>
  h H1 e _ fun H2 e2 => ⟨C, mc, v, u, rfl, r, k, q H2 e2⟩
theorem ok_is_table {f f1 f2 : Addr} {fd fd1 fd2 : FuncData} (F : Fun K "is_table" "is_table" s_is_table f fd) (T : Txt K mg C) (c_is_list : Cal P w K mg base "is_list" f1 fd1 ["value"] 1 (sp_is_list K)) (c_is_day : Cal P w K mg base "is_day" f2 fd2 ["value"] 1 sp_is_day) :
    FnOk P w K mg base CX0 2 f fd ["value"] (sp_is_table K) := by
  refine F.ok sc_is_table (fun vs H Q E h => ?_) (fun cdv A outer s H vs Q E hr h => ?_)
  · obtain ⟨p, ns, rfl, _⟩ := h
    rfl
  · obtain ⟨p, ns, rfl, hs, g, k⟩ := h
    obtain ⟨mc, tkq, rd, cv⟩ := T.cM
    have hgp := g.pos
    have hgm := g.most
    rcases hs with hs | hs
    · have hq := sq_of (K := K) hs
      refine ⟨_, (pss_cons (ps_if (PW.pt (pw_or (pt_not (pt_val (pe_call c_is_list.ok (hr.mono (by decide)) (by rfl) c_is_list.mgx c_is_list.kp c_is_list.bd .nil pass0 (pa_cons (pv 0) pa_nil)))) (pw_or1 (pt_not (pt_chain op_le op_le pe_int (pe_callB (lenS (K := K) rfl) (by rfl) T.b_len (by decide +kernel) (pa_cons (pv 0) pa_nil)) (ClX.pe_cval (pe_glob (v := .ref C) rfl T.mg_Table rfl))))))) (pss_one (ps_ret pe_bl)) pss_nil) (pss_cons (ps_if (pt_not (pt_val (pe_callB (allL (K := K) rfl rfl) (by rfl) T.b_all (by decide +kernel) (pa_cons (pe_lc (own := [("day", 2)]) (g := (gName 2)) (by rfl) sc_is_table.nd (piL (K := K) rfl (pv 0)) (blkOk_by (own := [("day", 2)]) (N := ["value", "rises", "day", "place"]) (sc := defScope s_is_table) (by decide +kernel)) (fun _ _ _ _ _ => (pg_name (i := 2) sc_is_table.nd rfl (Or.inl rfl))) (fun _ _ _ _ _ => pts_nil) (fun _ _ _ _ _ => (pe_call c_is_day.ok (hr.mono (by decide)) (by rfl) c_is_day.mgx c_is_day.kp c_is_day.bd .nil pass0 (pa_cons (pv 2) pa_nil)))) pa_nil)))) (pss_one (ps_ret pe_bl)) pss_nil) (pss_cons (ps_set (i := 1) sc_is_table.nd rfl (Or.inl rfl) (pe_callB (allL (K := K) rfl rfl) (by rfl) T.b_all (by decide +kernel) (pa_cons (pe_lc (own := [("place", 3)]) (g := (gName 3)) (by rfl) sc_is_table.nd (pi_range1 (by rfl) T.b_range (pa_cons (pe_op op_sub (pe_callB (lenS (K := K) rfl) (by rfl) T.b_len (by decide +kernel) (pa_cons (pv 0) pa_nil)) pe_int) pa_nil)) (blkOk_by (own := [("place", 3)]) (N := ["value", "rises", "day", "place"]) (sc := defScope s_is_table) (by decide +kernel)) (fun _ _ _ _ _ => (pg_name (i := 3) sc_is_table.nd rfl (Or.inl rfl))) (fun _ _ _ _ _ => pts_nil) (fun _ _ _ _ _ => (pe_cmpR op_le (pe_ix (ixL (K := K) rfl) (pv 0) (pv 3) (fun _ _ => rfl)) (pe_ix (ixL (K := K) rfl) (pv 0) (pe_op op_add (pv 3) pe_int) (fun _ _ => rfl)) (nomark _)))) pa_nil))) (pss_one (ps_ret (pe_and (pv 1) (pe_one (pe_cmpR op_le (pe_op op_sub (pe_ix (ixL (K := K) rfl) (pv 0) (pe_un un_neg pe_int) (fun _ _ => rfl)) (pe_ix (ixL (K := K) rfl) (pv 0) pe_int (fun _ _ => rfl))) (pe_callB (lenS (K := K) rfl) (by rfl) T.b_len (by decide +kernel) (pa_cons (pv 0) pa_nil)) (nomark _))))))))), ?_⟩
      refine q_when (b := false) (et_or (a := false) (b := false) (et_not (a := true) (et_B (ev_call (ea_cons (ev_var rfl) ea_nil) (spv_is_list (.inl hs))))) fun _ => et_not (a := true) (et_test (ev_chain (y := .int (ns.length : Int)) (ev_c (v := .int 1)) (ev_cb (ea_cons (ev_var rfl) ea_nil) (rc_len (.inl hq) (by rw [List.length_map]))) (rv_res rv_I0 (by simp; omega)) (ev_const ev_glob rd cv) (rv_res rv_I0 (by simp; omega))))) (fun q => nomatch q) fun _ H1 e1 => ?_
      refine q_when (b := false) (et_not (a := true) (et_B (ev_allT (n := ns.length) (by
        have e0 : (ns.map V.int).length = ns.length := List.length_map ..
        rw [← e0]
        refine el_lcL (fun _ => true) (fun _ => V.bl true) (ev_var rfl) (ex_l e1 hq) (by rw [e0]; omega) (fun _ => rfl) (fun _ _ _ _ _ => lc_yes) (fun i x H2 e2 hi _ => ?_)
        rw [List.getElem?_map] at hi
        obtain ⟨n, _, rfl⟩ := Option.map_eq_some_iff.mp hi
        exact ev_call (ea_cons (ev_var rfl) ea_nil) spv_is_day)))) (fun q => nomatch q) fun _ H2 e2 => ?_
      refine q_asg (v := .bl true) (ev_allT (n := ((ns.length : Int) - 1).toNat) (el_lcR1 (fun _ => true) (fun _ => V.bl true) (ea_cons (ev_op (ev_cb (ea_cons (ev_var rfl) ea_nil) (rc_len (.inl (ex_l (e1.trans e2) hq)) (by rw [List.length_map]))) ev_c rv_I0) ea_nil) (by omega) (fun _ => rfl) (fun _ _ _ _ => lc_yes) (fun i H3 e3 hi _ => ?_))) fun H3 e3 => ?_
      · have hi' : i + 1 < ns.length := by omega
        have hu := g.up i (i + 1) (by omega) hi'
        refine ev_is (ev_op (ev_op (ev_var rfl) (ev_var rfl) (rv_ixL (ex_l ((e1.trans e2).trans e3) hq) (atI_nat (getI (by omega : i < ns.length))))) (ev_op (ev_var rfl) (ev_is (ev_op (ev_var rfl) ev_c rv_I0) (by congr 1 : V.int ((i : Int) + 1) = V.int ((i + 1 : Nat) : Int))) (rv_ixL (ex_l ((e1.trans e2).trans e3) hq) (atI_nat (getI hi')))) rv_I0) (congrArg V.bl (decide_eq_true hu))
      · have hsp := g.span
        refine s_ret (ev_is (ev_andV (a := true) (ev_var rfl) fun _ => ev_op (ev_op (ev_op (ev_var rfl) (ev_un ev_c ru_neg) (rv_ixL (ex_l ((e1.trans e2).trans e3) hq) (atI_m1 hgp))) (ev_op (ev_var rfl) ev_c (rv_ixL (ex_l ((e1.trans e2).trans e3) hq) (atI_int (by decide) (by omega)))) rv_I0) (ev_cb (ea_cons (ev_var rfl) ea_nil) (rc_len (.inl (ex_l ((e1.trans e2).trans e3) hq)) (by rw [List.length_map]))) rv_I0) (congrArg V.bl (decide_eq_true hsp))) fun H4 e4 => k H4 (((e1.trans e2).trans e3).trans e4)
    · have hq := st_of (K := K) hs
      refine ⟨_, (pss_cons (ps_if (PW.pt (pw_or (pt_not (pt_val (pe_call c_is_list.ok (hr.mono (by decide)) (by rfl) c_is_list.mgx c_is_list.kp c_is_list.bd .nil pass0 (pa_cons (pv 0) pa_nil)))) (pw_or1 (pt_not (pt_chain op_le op_le pe_int (pe_callB (lenS (K := K) rfl) (by rfl) T.b_len (by decide +kernel) (pa_cons (pv 0) pa_nil)) (ClX.pe_cval (pe_glob (v := .ref C) rfl T.mg_Table rfl))))))) (pss_one (ps_ret pe_bl)) pss_nil) (pss_cons (ps_if (pt_not (pt_val (pe_callB (allL (K := K) rfl rfl) (by rfl) T.b_all (by decide +kernel) (pa_cons (pe_lc (own := [("day", 2)]) (g := (gName 2)) (by rfl) sc_is_table.nd (piT (K := K) rfl (pv 0)) (blkOk_by (own := [("day", 2)]) (N := ["value", "rises", "day", "place"]) (sc := defScope s_is_table) (by decide +kernel)) (fun _ _ _ _ _ => (pg_name (i := 2) sc_is_table.nd rfl (Or.inl rfl))) (fun _ _ _ _ _ => pts_nil) (fun _ _ _ _ _ => (pe_call c_is_day.ok (hr.mono (by decide)) (by rfl) c_is_day.mgx c_is_day.kp c_is_day.bd .nil pass0 (pa_cons (pv 2) pa_nil)))) pa_nil)))) (pss_one (ps_ret pe_bl)) pss_nil) (pss_cons (ps_set (i := 1) sc_is_table.nd rfl (Or.inl rfl) (pe_callB (allL (K := K) rfl rfl) (by rfl) T.b_all (by decide +kernel) (pa_cons (pe_lc (own := [("place", 3)]) (g := (gName 3)) (by rfl) sc_is_table.nd (pi_range1 (by rfl) T.b_range (pa_cons (pe_op op_sub (pe_callB (lenS (K := K) rfl) (by rfl) T.b_len (by decide +kernel) (pa_cons (pv 0) pa_nil)) pe_int) pa_nil)) (blkOk_by (own := [("place", 3)]) (N := ["value", "rises", "day", "place"]) (sc := defScope s_is_table) (by decide +kernel)) (fun _ _ _ _ _ => (pg_name (i := 3) sc_is_table.nd rfl (Or.inl rfl))) (fun _ _ _ _ _ => pts_nil) (fun _ _ _ _ _ => (pe_cmpR op_le (pe_ix (ixT (K := K) rfl) (pv 0) (pv 3) (fun _ _ => rfl)) (pe_ix (ixT (K := K) rfl) (pv 0) (pe_op op_add (pv 3) pe_int) (fun _ _ => rfl)) (nomark _)))) pa_nil))) (pss_one (ps_ret (pe_and (pv 1) (pe_one (pe_cmpR op_le (pe_op op_sub (pe_ix (ixT (K := K) rfl) (pv 0) (pe_un un_neg pe_int) (fun _ _ => rfl)) (pe_ix (ixT (K := K) rfl) (pv 0) pe_int (fun _ _ => rfl))) (pe_callB (lenS (K := K) rfl) (by rfl) T.b_len (by decide +kernel) (pa_cons (pv 0) pa_nil)) (nomark _))))))))), ?_⟩
      refine q_when (b := false) (et_or (a := false) (b := false) (et_not (a := true) (et_B (ev_call (ea_cons (ev_var rfl) ea_nil) (spv_is_list (.inr hs))))) fun _ => et_not (a := true) (et_test (ev_chain (y := .int (ns.length : Int)) (ev_c (v := .int 1)) (ev_cb (ea_cons (ev_var rfl) ea_nil) (rc_len (.inr hq) (by rw [List.length_map]))) (rv_res rv_I0 (by simp; omega)) (ev_const ev_glob rd cv) (rv_res rv_I0 (by simp; omega))))) (fun q => nomatch q) fun _ H1 e1 => ?_
      refine q_when (b := false) (et_not (a := true) (et_B (ev_allT (n := ns.length) (by
        have e0 : (ns.map V.int).length = ns.length := List.length_map ..
        rw [← e0]
        refine el_lcT (fun _ => true) (fun _ => V.bl true) (ev_var rfl) (ex_t e1 hq) (by rw [e0]; omega) (fun _ => rfl) (fun _ _ _ _ _ => lc_yes) (fun i x H2 e2 hi _ => ?_)
        rw [List.getElem?_map] at hi
        obtain ⟨n, _, rfl⟩ := Option.map_eq_some_iff.mp hi
        exact ev_call (ea_cons (ev_var rfl) ea_nil) spv_is_day)))) (fun q => nomatch q) fun _ H2 e2 => ?_
      refine q_asg (v := .bl true) (ev_allT (n := ((ns.length : Int) - 1).toNat) (el_lcR1 (fun _ => true) (fun _ => V.bl true) (ea_cons (ev_op (ev_cb (ea_cons (ev_var rfl) ea_nil) (rc_len (.inr (ex_t (e1.trans e2) hq)) (by rw [List.length_map]))) ev_c rv_I0) ea_nil) (by omega) (fun _ => rfl) (fun _ _ _ _ => lc_yes) (fun i H3 e3 hi _ => ?_))) fun H3 e3 => ?_
      · have hi' : i + 1 < ns.length := by omega
        have hu := g.up i (i + 1) (by omega) hi'
        refine ev_is (ev_op (ev_op (ev_var rfl) (ev_var rfl) (rv_ixT (ex_t ((e1.trans e2).trans e3) hq) (atI_nat (getI (by omega : i < ns.length))))) (ev_op (ev_var rfl) (ev_is (ev_op (ev_var rfl) ev_c rv_I0) (by congr 1 : V.int ((i : Int) + 1) = V.int ((i + 1 : Nat) : Int))) (rv_ixT (ex_t ((e1.trans e2).trans e3) hq) (atI_nat (getI hi')))) rv_I0) (congrArg V.bl (decide_eq_true hu))
      · have hsp := g.span
        refine s_ret (ev_is (ev_andV (a := true) (ev_var rfl) fun _ => ev_op (ev_op (ev_op (ev_var rfl) (ev_un ev_c ru_neg) (rv_ixT (ex_t ((e1.trans e2).trans e3) hq) (atI_m1 hgp))) (ev_op (ev_var rfl) ev_c (rv_ixT (ex_t ((e1.trans e2).trans e3) hq) (atI_int (by decide) (by omega)))) rv_I0) (ev_cb (ea_cons (ev_var rfl) ea_nil) (rc_len (.inr (ex_t ((e1.trans e2).trans e3) hq)) (by rw [List.length_map]))) rv_I0) (congrArg V.bl (decide_eq_true hsp))) fun H4 e4 => k H4 (((e1.trans e2).trans e3).trans e4)
end
section
variable {P : Program} {w : World} {K : PySem.W.Frag} {mg : Str → Option Value} {base : Heap} {C : Addr}
end
end K15
end
section
set_option maxHeartbeats 4000000
namespace K15
open PySem L2 Evl G TM
def RetR (xs : List V) (H : Hp) (Q : VK) : Prop := ∀ (l : Addr) (ts : List Addr) (H2 : Hp), H l = none → Ex H H2 → H2 l = some (.lst (ts.map V.ref)) → ts.length = xs.length → (∀ (j : Nat) (T : Addr) (x : V), ts[j]? = some T → xs[j]? = some x → H2 T = some (.tup [.int (j : Int), x])) → Q (.ref l) H2
/-! ### the promises of a Table's methods -/
def sp_length (K : PySem.W.Frag) (C : Addr) : Sp := fun vs H Q _ => ∃ p ns, vs = [.ref p] ∧ Tab K C H p ns ∧ RetV (.int (ns.length : Int)) H Q
def sp_days (K : PySem.W.Frag) (C : Addr) : Sp := fun vs H Q _ => ∃ p ns, vs = [.ref p] ∧ Tab K C H p ns ∧ RetL (ns.map V.int) H Q
def sp_rows (K : PySem.W.Frag) (C : Addr) : Sp := fun vs H Q _ => ∃ p ns, vs = [.ref p] ∧ Tab K C H p ns ∧ RetR (ns.map V.int) H Q
def sp_on (K : PySem.W.Frag) (C : Addr) : Sp := fun vs H Q _ => ∃ p ns x, vs = [.ref p, .int x] ∧ Tab K C H p ns ∧ Good ns ∧ RetV (.int (onL ns x)) H Q
section
variable {K : PySem.W.Frag} {C p : Addr} {H : Hp} {ns : List Int} {x : Int}
theorem spv_length (t : Tab K C H p ns) : SpV (sp_length K C) [.ref p] H (.int (ns.length : Int)) := fun H1 e Q q E => ⟨p, ns, rfl, t.mono e, q⟩
theorem spl_days (t : Tab K C H p ns) : SpL (sp_days K C) [.ref p] H (ns.map V.int) := fun H1 e Q q E => ⟨p, ns, rfl, t.mono e, q⟩
theorem spr_rows (t : Tab K C H p ns) : SpR (sp_rows K C) [.ref p] H (ns.map V.int) := fun H1 e Q q E => ⟨p, ns, rfl, t.mono e, q⟩
theorem spv_on (t : Tab K C H p ns) (g : Good ns) : SpV (sp_on K C) [.ref p, .int x] H (.int (onL ns x)) := fun H1 e Q q E => ⟨p, ns, x, rfl, t.mono e, g, q⟩
end
section
variable {P : Program} {w : World} {K : PySem.W.Frag} {mg : Str → Option Value} {base : Heap} {C : Addr}
theorem lk_days {l : Addr} : List.lookup ("_days" : Str) [(("_days" : Str), V.ref l)] = some (V.ref l) := by
  rw [List.lookup_cons_self]
theorem ok_init {f f1 : Addr} {fd fd1 : FuncData} (F : Fun K "__init__" "Table.__init__" s_Table___init__ f fd) (T : Txt K mg C) (c_is_table : Cal P w K mg base "is_table" f1 fd1 ["value"] 2 (sp_is_table K)) : FnOk P w K mg base CX0 3 f fd ["self", "days"] (sp_init K C) := by
  refine F.ok sc_Table___init__ (fun vs H Q E h => ?_) (fun cdv A outer s H vs Q E hr h => ?_)
  · obtain ⟨x, dx, p, ns, rfl, _⟩ := h
    rfl
  · obtain ⟨x, dx, p, ns, rfl, hx, hs, g, k⟩ := h
    refine ⟨_, (pss_cons (ps_if (pt_not (pt_val (pe_call c_is_table.ok (hr.mono (by decide)) (by rfl) c_is_table.mgx c_is_table.kp c_is_table.bd .nil pass0 (pa_cons (pv 1) pa_nil)))) (pss_one ps_never) pss_nil) (pss_one (ps_fld (pv 0) (pe_callTy call_list_of (by rfl) T.b_list (by decide +kernel) (pa_cons (pv 1) pa_nil)) rfl))), ?_⟩
    refine q_when (b := false) (et_not (a := true) (et_B (ev_call (ea_cons (ev_var rfl) ea_nil) (spv_is_table hs g)))) (fun q => nomatch q) fun _ H1 e1 => ?_
    refine (el_cb (ea_cons (ev_var rfl) ea_nil) (rc_list (hs.mono e1).seq)) H1 (Ex.refl H1) _ fun l H2 hl e2 h2 => ?_
    have hx2 := e2 x _ (e1 x _ hx)
    refine ⟨_, rfl, x, C, dx, [], rfl, hx2, T.cl, T.nD, by decide, ?_⟩
    have hne : l ≠ x := (ne_of hx2 h2 (fun q => by cases q)).symm
    exact k l _ (fun b o hb hbx => by rw [upd_ne hbx]; exact e2 b _ (e1 b _ hb)) upd_same (by rw [upd_ne hne]; exact h2) (fresh_back e1 hl)
theorem ok_length {f : Addr} {fd : FuncData} (F : Fun K "length" "Table.length" s_Table_length f fd) (T : Txt K mg C) : FnOk P w K mg base CX0 1 f fd ["self"] (sp_length K C) := by
  refine F.ok sc_Table_length (fun vs H Q E h => ?_) (fun cdv A outer s H vs Q E hr h => ?_)
  · obtain ⟨p, ns, rfl, _⟩ := h
    rfl
  · obtain ⟨p, ns, rfl, ⟨dx, l, h1, h2⟩, k⟩ := h
    refine ⟨_, (pss_one (ps_ret (pe_callB (lenS (K := K) rfl) (by rfl) T.b_len (by decide +kernel) (pa_cons (pe_fldK (K := K) rfl (pv 0) rfl) pa_nil)))), ?_⟩
    exact s_ret (ev_cb (ea_cons (ev_fld (ev_var rfl) h1 T.cl T.nD lk_days) ea_nil) (rc_len (.inl h2) (by rw [List.length_map]))) k
theorem ok_days {f : Addr} {fd : FuncData} (F : Fun K "days" "Table.days" s_Table_days f fd) (T : Txt K mg C) : FnOk P w K mg base CX0 1 f fd ["self"] (sp_days K C) := by
  refine F.ok sc_Table_days (fun vs H Q E h => ?_) (fun cdv A outer s H vs Q E hr h => ?_)
  · obtain ⟨p, ns, rfl, _⟩ := h
    rfl
  · obtain ⟨p, ns, rfl, ⟨dx, l, h1, h2⟩, k⟩ := h
    refine ⟨_, (pss_one (ps_ret (pe_callTy call_list_of (by rfl) T.b_list (by decide +kernel) (pa_cons (pe_fldK (K := K) rfl (pv 0) rfl) pa_nil)))), ?_⟩
    exact s_retL (el_cb (ea_cons (ev_fld (ev_var rfl) h1 T.cl T.nD lk_days) ea_nil) (rc_list (.inl h2))) k
theorem ok_rows {f : Addr} {fd : FuncData} (F : Fun K "asked_rows" "Table.asked_rows" s_Table_asked_rows f fd) (T : Txt K mg C) : FnOk P w K mg base CX0 1 f fd ["self"] (sp_rows K C) := by
  refine F.ok sc_Table_asked_rows (fun vs H Q E h => ?_) (fun cdv A outer s H vs Q E hr h => ?_)
  · obtain ⟨p, ns, rfl, _⟩ := h
    rfl
  · obtain ⟨p, ns, rfl, ⟨dx, l, h1, h2⟩, k⟩ := h
    refine ⟨_, (pss_one (ps_ret (pe_listEn rfl (by rfl) T.b_list (by rfl) T.b_enumerate (pe_fldK (K := K) rfl (pv 0) rfl)))), ?_⟩
    exact (evr_en (ev_fld (ev_var rfl) h1 T.cl T.nD lk_days) h2) H (Ex.refl H) _ k
theorem ok_on {f f1 f2 p2 : Addr} {fd fd1 fd2 : FuncData} (F : Fun K "on" "Table.on" s_Table_on f fd) (T : Txt K mg C) (c_need_day : Cal P w K mg base "need_day" f1 fd1 ["value"] 2 sp_need_day)
    (m_length : Prp P w K mg base C "length" p2 f2 fd2 ["self"] 1 (sp_length K C)) : FnOk P w K mg base CX0 3 f fd ["self", "day"] (sp_on K C) := by
  refine F.ok sc_Table_on (fun vs H Q E h => ?_) (fun cdv A outer s H vs Q E hr h => ?_)
  · obtain ⟨p, ns, x, rfl, _⟩ := h
    rfl
  · obtain ⟨p, ns, x, rfl, t, g, k⟩ := h
    obtain ⟨dx, l, h1, h2⟩ := id t
    have hp := g.posI
    have hm := g.most
    refine ⟨_, (pss_cons (ps_expr (pe_call c_need_day.ok (hr.mono (by decide)) (by rfl) c_need_day.mgx c_need_day.kp c_need_day.bd .nil pass0 (pa_cons (pv 1) pa_nil))) (pss_cons (ps_asg (pe_callB call_divmod (by rfl) T.b_divmod (by decide +kernel) (pa_cons (pv 1) (pa_cons (pe_prop (pv 0) T.cl m_length.pr m_length.ok (hr.mono (by decide)) m_length.bd .nil pass0 (by rfl)) pa_nil))) (pg_tup (by rfl) (pgs_cons (pg_name (i := 2) sc_Table_on.nd rfl (Or.inl rfl)) (pgs_cons (pg_name (i := 3) sc_Table_on.nd rfl (Or.inl rfl)) pgs_nil)))) (pss_one (ps_ret (pe_op op_add (pe_ix (ixL (K := K) rfl) (pe_fldK (K := K) rfl (pv 0) rfl) (pv 3) (fun _ _ => rfl)) (pe_op op_mul (pv 2) (pe_prop (pv 0) T.cl m_length.pr m_length.ok (hr.mono (by decide)) m_length.bd .nil pass0 (by rfl)))))))), ?_⟩
    refine q_drop (ev_call (ea_cons (ev_var rfl) ea_nil) spv_need_day) fun H1 e1 => ?_
    refine q_asgT2 (eu_divmod (ev_var rfl) (ev_prop (ev_var rfl) (e1 p _ h1) (spv_length (t.mono e1))) hp (by omega)) fun H2 e2 => ?_
    have e3 := e1.trans e2
    have i0 := Int.emod_nonneg x (show (ns.length : Int) ≠ 0 by omega)
    have i1 := Int.emod_lt_of_pos x hp
    exact s_ret (ev_op (ev_op (ev_fld (ev_var rfl) (e3 p _ h1) T.cl T.nD lk_days) (ev_var rfl) (rv_ixL (ex_l e3 h2) (atI_int i0 i1))) (ev_op (ev_var rfl) (ev_prop (ev_var rfl) (e3 p _ h1) (spv_length (t.mono e3))) (rv_I (.inr ⟨by omega, by omega⟩))) rv_I0) fun H3 e4 => k H3 (e3.trans e4)
end
/-! ### the pot -/
def wo (H : Hp) (p : Addr) : Hp := fun b => if b = p then none else H b
theorem wo_ne {H : Hp} {p b : Addr} (h : b ≠ p) : wo H p b = H b := by unfold wo; rw [if_neg h]
theorem wo_at {H : Hp} {p : Addr} : wo H p p = none := by unfold wo; rw [if_pos rfl]
theorem wo_ex {H : Hp} {p : Addr} : Ex (wo H p) H := fun b o h => by
  by_cases hb : b = p
  · subst hb; rw [wo_at] at h; cases h
  · rwa [wo_ne hb] at h
theorem wo_mono {H H' : Hp} {p : Addr} (e : Ex H H') : Ex (wo H p) (wo H' p) := fun b o h => by
  by_cases hb : b = p
  · subst hb; rw [wo_at] at h; cases h
  · rw [wo_ne hb] at h ⊢; exact e b o h
theorem wo_sub {H H' : Hp} {p : Addr} (e : Ex (wo H p) H') : Ex (wo H p) (wo H' p) := fun b o h => by
  by_cases hb : b = p
  · subst hb; rw [wo_at] at h; cases h
  · have := e b o h
    rwa [wo_ne hb]
theorem wo_upd {H : Hp} {p : Addr} {o : HO} : Ex (wo H p) (upd H p o) := fun b u h => by
  by_cases hb : b = p
  · subst hb; rw [wo_at] at h; cases h
  · rw [upd_ne hb]; rwa [wo_ne hb] at h
theorem wo_fresh {H H' : Hp} {p q : Addr} {o : HO} (hp : H p = some o) (e : Ex (wo H p) H') (h : H' q = none) (hp' : ∃ o, H' p = some o) : H q = none := by
  by_cases hq : q = p
  · subst hq; obtain ⟨o, ho⟩ := hp'; rw [ho] at h; cases h
  · cases hh : H q with
    | none => rfl
    | some u => have := e q u (by rw [wo_ne hq]; exact hh); rw [h] at this; cases this
def PotOk (a b : Int) : Prop := 0 ≤ a ∧ 0 ≤ b ∧ b < 4294967296
def PotAt (H : Hp) (p : Addr) : Prop := ∃ a b, PotOk a b ∧ H p = some (.lst [.int a, .int b])
def sp_pot (K : PySem.W.Frag) : Sp := fun vs H Q _ => ∃ (s : Addr) (ns : List Int) (k : Int), vs = [.ref s, .int k] ∧ SqL K H s (ns.map V.int) ∧ 0 ≤ k ∧ k ≤ 100 ∧ ∀ p H2, H p = none → Ex H H2 → PotAt H2 p → Q (.ref p) H2
def sp_draw : Sp := fun vs H Q _ => ∃ p n, vs = [.ref p, .int n] ∧ PotAt H p ∧ 0 < n ∧ n < 1073741824 ∧ ∀ d H2, 0 ≤ d → d < n → Ex (wo H p) H2 → PotAt H2 p → Q (.int d) H2
def sp_pick (K : PySem.W.Frag) : Sp := fun vs H Q _ => ∃ (p s : Addr) (xs : List V), vs = [.ref p, .ref s] ∧ PotAt H p ∧ SqL K (wo H p) s xs ∧ 0 < xs.length ∧ xs.length ≤ 1000 ∧ ∀ (i : Nat) (v : V) (H2 : Hp), xs[i]? = some v → Ex (wo H p) H2 → PotAt H2 p → Q v H2
theorem fmod_pos {a b : Int} (h : 0 < b) : 0 ≤ a.fmod b ∧ a.fmod b < b := by
  rw [Int.fmod_eq_emod_of_nonneg _ (by omega)]
  exact ⟨Int.emod_nonneg _ (by omega), Int.emod_lt_of_pos _ h⟩
section
variable {P : Program} {w : World} {K : PySem.W.Frag} {mg : Str → Option Value} {base : Heap} {C : Addr}
theorem ok_pot {f : Addr} {fd : FuncData} (F : Fun K "_law_pot" "_law_pot" s__law_pot f fd) (T : Txt K mg C) : FnOk P w K mg base CX0 1 f fd ["_law_script", "_law_k"] (sp_pot K) := by
  refine F.ok sc__law_pot (fun vs H Q E h => ?_) (fun cdv A outer s H vs Q E hr h => ?_)
  · obtain ⟨s, ns, k, rfl, _⟩ := h
    rfl
  · obtain ⟨s, ns, k, rfl, hs, hk0, hk1, kq⟩ := h
    refine ⟨_, (pss_cons (ps_set (i := 2) sc__law_pot.nd rfl (Or.inl rfl) (pe_ifExp (pt_cmpR op_lt (pv 1) (pe_callB (lenS (K := K) rfl) (by rfl) T.b_len (by decide +kernel) (pa_cons (pv 0) pa_nil)) (nomark _)) (pe_callB call_abs (by rfl) T.b_abs (by decide +kernel) (pa_cons (pe_ix (ixL (K := K) rfl) (pv 0) (pv 1) (fun _ _ => rfl)) pa_nil)) (pe_op op_add (pe_op op_mul pe_int (pv 1)) pe_int))) (pss_one (ps_ret (pe_lst (pa_cons (pe_callB (call_max2 rfl) (by rfl) T.b_max (by decide +kernel) (pa_cons pe_int (pa_cons (pe_op op_sub (pv 2) (pe_op op_pow pe_int pe_int)) pa_nil))) (pa_cons (pe_op op_add (pe_op op_modN (pe_callTy call_int1 (by rfl) T.b_int (by decide +kernel) (pa_cons (pe_op op_add (pe_op op_add (pe_op op_mul (pe_op op_modN (pe_callTy call_int1 (by rfl) T.b_int (by decide +kernel) (pa_cons (pv 2) pa_nil)) pe_int) pe_int) (pe_op op_mul pe_int (pv 1))) pe_int) pa_nil)) pe_int) pe_int) pa_nil)))))), ?_⟩
    have hcell : ∃ c : Int, 0 ≤ c ∧ Ev (tIf (tTest (tOp (rI0 fun i j => .bl (decide (i < j))) (tVar 1) (tCB (fun xs H Q => ∃ p ys, xs = [.ref p] ∧ (SqL K H p ys ∨ SqT K H p ys) ∧ Q (.int (ys.length : Int)) H) (tCons (tVar 0) tNil))))
        (tCB (fun xs H Q => ∃ i, xs = [.int i] ∧ Q (.int (if i < 0 then -i else i)) H) (tCons (tOp (rIxL K) (tVar 0) (tVar 1)) tNil)) (tOp (rI0 fun i j => .int (i + j)) (tOp (rI CMul fun i j => .int (i * j)) (tC (.int 193)) (tVar 1)) (tC (.int 89)))) (start ["_law_script", "_law_k", "_law_cell"] [.ref s, .int k]) H (.int c) := by
      by_cases hlt : k < (ns.length : Int)
      · refine ⟨if ns.getD k.toNat 0 < 0 then - ns.getD k.toNat 0 else ns.getD k.toNat 0, by split <;> omega, ?_⟩
        exact ev_if (b := true) (et_test (ev_op (ev_var rfl) (ev_cb (ea_cons (ev_var rfl) ea_nil) (rc_len (.inl hs) (by rw [List.length_map]))) (rv_res rv_I0 (congrArg V.bl (decide_eq_true hlt))))) (fun _ => ev_cb (ea_cons (ev_op (ev_var rfl) (ev_var rfl) (rv_ixL hs (atI_int hk0 hlt))) ea_nil) rc_abs) (fun q => nomatch q)
      · refine ⟨193 * k + 89, by omega, ?_⟩
        exact ev_if (b := false) (et_test (ev_op (ev_var rfl) (ev_cb (ea_cons (ev_var rfl) ea_nil) (rc_len (.inl hs) (by rw [List.length_map]))) (rv_res rv_I0 (congrArg V.bl (decide_eq_false hlt))))) (fun q => nomatch q) (fun _ => ev_op (ev_op ev_c (ev_var rfl) (rv_I (.inl ⟨by decide, by decide⟩))) ev_c rv_I0)
    obtain ⟨c, hc, ec⟩ := hcell
    refine q_asg ec fun H1 e1 => ?_
    have m1 := fmod_pos (a := c) (show (0 : Int) < 2147483563 by decide)
    refine s_retL (el_lst (ea_cons (ev_cb (ea_cons ev_c (ea_cons (ev_op (ev_var rfl) (ev_op ev_c ev_c (rv_I ⟨by decide, by decide, by decide⟩)) rv_I0) ea_nil)) rc_max2) (ea_cons (ev_op (ev_op (ev_cb (ea_cons (ev_op (ev_op (ev_op (ev_op (ev_cb (ea_cons (ev_var rfl) ea_nil) rc_int1) ev_c (rv_I (by decide))) ev_c (rv_I (.inr ⟨by decide, by decide⟩))) (ev_op ev_c (ev_var rfl) (rv_I (.inl ⟨by decide, by decide⟩))) rv_I0) ev_c rv_I0) ea_nil) rc_int1) ev_c (rv_I (by decide))) ev_c rv_I0) ea_nil)) (by show 2 ≤ 100000; decide)) fun p H2 hp e2 h2 => ?_
    refine kq p H2 (fresh_back e1 hp) (e1.trans e2) ⟨_, _, ⟨?_, ?_, ?_⟩, h2⟩
    · split <;> omega
    · have := fmod_pos (a := c.fmod 2147483563 * 40063 + 6053 * k + 53) (show (0 : Int) < 2147483579 by decide)
      omega
    · have := fmod_pos (a := c.fmod 2147483563 * 40063 + 6053 * k + 53) (show (0 : Int) < 2147483579 by decide)
      omega
theorem ok_draw {f : Addr} {fd : FuncData} (F : Fun K "_law_draw" "_law_draw" s__law_draw f fd) (T : Txt K mg C) : FnOk P w K mg base CX0 1 f fd ["_law_pot_here", "_law_size"] sp_draw := by
  refine F.ok sc__law_draw (fun vs H Q E h => ?_) (fun cdv A outer s H vs Q E hr h => ?_)
  · obtain ⟨p, n, rfl, _⟩ := h
    rfl
  · obtain ⟨p, n, rfl, ⟨a, b, ⟨a0, b0, b1⟩, hp⟩, n0, n1, k⟩ := h
    have hq : SqL K H p [.int a, .int b] := sq_of hp
    refine ⟨_, (pss_cons (ps_if (pt_cmpR op_gt (pe_ix (ixL (K := K) rfl) (pv 0) pe_int (fun _ _ => rfl)) pe_int (nomark _)) (pss_cons (ps_asg (pe_callB call_divmod (by rfl) T.b_divmod (by decide +kernel) (pa_cons (pe_ix (ixL (K := K) rfl) (pv 0) pe_int (fun _ _ => rfl)) (pa_cons (pv 1) pa_nil))) (pg_tup (by rfl) (pgs_cons (pg_sub (pv 0) pe_int set_list) (pgs_cons (pg_name (i := 2) sc__law_draw.nd rfl (Or.inl rfl)) pgs_nil)))) (pss_one (ps_ret (pv 2)))) pss_nil) (pss_cons (ps_asg (pe_op op_modN (pe_callTy call_int1 (by rfl) T.b_int (by decide +kernel) (pa_cons (pe_op op_add (pe_op op_mul (pe_ix (ixL (K := K) rfl) (pv 0) pe_int (fun _ _ => rfl)) pe_int) pe_int) pa_nil)) pe_int) (pg_sub (pv 0) pe_int set_list)) (pss_one (ps_ret (pe_op op_modN (pe_callTy call_int1 (by rfl) T.b_int (by decide +kernel) (pa_cons (pe_op op_fdivN (pe_op op_modN (pe_callTy call_int1 (by rfl) T.b_int (by decide +kernel) (pa_cons (pe_op op_mul (pe_ix (ixL (K := K) rfl) (pv 0) pe_int (fun _ _ => rfl)) (pe_ix (ixL (K := K) rfl) (pv 0) pe_int (fun _ _ => rfl))) pa_nil)) pe_int) pe_int) pa_nil)) (pv 1)))))), ?_⟩
    refine q_when (et_test (ev_op (ev_op (ev_var rfl) ev_c (rv_ixL (v := .int a) hq rfl)) ev_c rv_I0)) (fun hb H1 e1 => ?_) (fun hb H1 e1 => ?_)
    · have ha : 0 < a := of_decide_eq_true hb
      refine q_asgG (eu_divmod (ev_op (ev_var rfl) ev_c (rv_ixL (v := .int a) (ex_l e1 hq) rfl)) (ev_var rfl) n0 n1) fun u H2 hu e2 h2 => ?_
      have e3 := e1.trans e2
      have hp2 := e3 p _ hp
      refine ⟨u, _, rfl, st_of h2, rfl, _, _, rfl, .ref p, rfl, ⟨p, [.int a, .int b], 0, 0, rfl, rfl, hp2, rfl, ?_⟩⟩
      refine ⟨_, _, rfl, rfl, ?_⟩
      refine s_ret (ev_var rfl) fun H3 e4 => ?_
      refine k _ H3 (Int.emod_nonneg _ (by omega)) (Int.emod_lt_of_pos _ n0) ((wo_mono e3).trans (wo_upd.trans e4)) ⟨a / n, b, ⟨Int.ediv_nonneg a0 (by omega), b0, b1⟩, e4 p _ upd_same⟩
    · have hq1 := ex_l e1 hq
      have m1 := fmod_pos (a := b * 39419 + 30059) (show (0 : Int) < 2147483579 by decide)
      refine q_setL (xs := [.int a, .int b]) (j := 1) (v := .int ((b * 39419 + 30059).fmod 2147483579)) (e1 p _ hp) (ev_op (ev_cb (ea_cons (ev_op (ev_op (ev_op (ev_var rfl) ev_c (rv_ixL (v := .int b) hq1 rfl)) ev_c (rv_I (.inr ⟨by decide, by decide⟩))) ev_c rv_I0) ea_nil) rc_int1) ev_c (rv_I (by decide))) (ev_var rfl) ev_c (by show 1 < 2; decide) fun H2 e2 => ?_
      generalize hb' : (b * 39419 + 30059).fmod 2147483579 = b' at m1 ⊢
      have hp3 : SqL K (upd H2 p (.lst ([.int a, .int b].set 1 (.int b')))) p [.int a, .int b'] := sq_of upd_same
      have m2 := fmod_pos (a := ((b' * b').fmod 2147483563).fdiv 23) n0
      refine s_ret (ev_op (ev_cb (ea_cons (ev_op (ev_op (ev_cb (ea_cons (ev_op (ev_op (ev_var rfl) ev_c (rv_ixL (v := .int b') hp3 rfl)) (ev_op (ev_var rfl) ev_c (rv_ixL (v := .int b') hp3 rfl)) (rv_I (.inl ⟨by omega, by omega⟩))) ea_nil) rc_int1) ev_c (rv_I (by decide))) ev_c (rv_I ⟨by decide, by decide⟩)) ea_nil) rc_int1) (ev_var rfl) (rv_I (by omega))) fun H3 e3 => ?_
      exact k _ H3 m2.1 m2.2 ((wo_mono (e1.trans e2)).trans (wo_upd.trans e3)) ⟨a, b', ⟨a0, m1.1, by omega⟩, e3 p _ upd_same⟩
theorem ok_pick {f f1 : Addr} {fd fd1 : FuncData} (F : Fun K "_law_pick" "_law_pick" s__law_pick f fd) (T : Txt K mg C) (c__law_draw : Cal P w K mg base "_law_draw" f1 fd1 ["_law_pot_here", "_law_size"] 1 sp_draw) : FnOk P w K mg base CX0 2 f fd ["_law_pot_here", "_law_some"] (sp_pick K) := by
  refine F.ok sc__law_pick (fun vs H Q E h => ?_) (fun cdv A outer s H vs Q E hr h => ?_)
  · obtain ⟨p, s, xs, rfl, _⟩ := h
    rfl
  · obtain ⟨p, l, xs, rfl, hp, hs, h0, h1, k⟩ := h
    refine ⟨_, (pss_one (ps_ret (pe_ix (ixL (K := K) rfl) (pv 1) (pe_call c__law_draw.ok (hr.mono (by decide)) (by rfl) c__law_draw.mgx c__law_draw.kp c__law_draw.bd .nil pass0 (pa_cons (pv 0) (pa_cons (pe_callB (lenS (K := K) rfl) (by rfl) T.b_len (by decide +kernel) (pa_cons (pv 1) pa_nil)) pa_nil))) (fun _ _ => rfl)))), ?_⟩
    refine ⟨_, rfl, (ea_cons (ev_var rfl) (ea_cons (ev_cb (ea_cons (ev_var rfl) ea_nil) (rc_len (.inl (ex_l wo_ex hs)) rfl)) ea_nil)) H (Ex.refl H) _ fun H1 e1 => ?_⟩
    have hp1 : PotAt H1 p := by obtain ⟨a, b, h, q⟩ := hp; exact ⟨a, b, h, e1 p _ q⟩
    refine ⟨p, (xs.length : Int), rfl, hp1, by omega, by omega, fun d H2 d0 d1 e2 hp2 => ?_⟩
    obtain ⟨i, rfl⟩ : ∃ i : Nat, d = (i : Int) := ⟨d.toNat, by omega⟩
    have hi : i < xs.length := by omega
    have e3 : Ex (wo H p) H2 := (wo_mono e1).trans e2
    exact ⟨l, xs, (i : Int), xs[i], rfl, rfl, ex_l e3 hs, atI_nat (List.getElem?_eq_getElem hi), k i _ H2 (List.getElem?_eq_getElem hi) e3 hp2⟩
end
section
variable {K : PySem.W.Frag} {σ : L2.St} {H : Hp} {p : Addr} {i : Nat} {tA : TA} {tn : TE} {Q : VK} {E : XK}
theorem PotAt.mono {H' : Hp} (h : PotAt H p) (e : Ex H H') : PotAt H' p := by obtain ⟨a, b, q, r⟩ := h; exact ⟨a, b, q, e p _ r⟩
theorem PotAt.some (h : PotAt H p) : ∃ o, H p = some o := by obtain ⟨a, b, q, r⟩ := h; exact ⟨_, r⟩
theorem pickC {xs : List V} (hp : PotAt H p) (hv : σ[i]? = some (some (.ref p))) (ha : EvA tA σ (wo H p) xs) (h0 : 0 < xs.length) (h1 : xs.length ≤ 1000) (k : ∀ (j : Nat) (v : V) (H2 : Hp), xs[j]? = some v → Ex (wo H p) H2 → PotAt H2 p → Q v H2) :
    tCall (sp_pick K) [] E (tCons (tVar i) (tCons (tLst tA) tNil)) σ H Q := ⟨.ref p, hv, ha H wo_ex _ fun H1 e1 => ⟨sz_of (by omega), fun s hs => by
      have hp1 := hp.mono e1
      obtain ⟨o, ho⟩ := hp1.some
      have hne : s ≠ p := (ne_of_none ho hs).symm
      exact ⟨p, s, xs, rfl, hp1.mono (Ex.new hs), sq_of (by rw [wo_ne hne]; exact upd_same), h0, h1, fun j v H2 hj e2 h2 => k j v H2 hj ((wo_mono (e1.trans (Ex.new hs))).trans e2) h2⟩⟩⟩
theorem drawC {n : Int} (hp : PotAt H p) (hv : σ[i]? = some (some (.ref p))) (hn : Ev tn σ (wo H p) (.int n)) (h0 : 0 < n) (h1 : n < 1073741824) (k : ∀ d H2, 0 ≤ d → d < n → Ex (wo H p) H2 → PotAt H2 p → Q (.int d) H2) :
    tCall sp_draw [] E (tCons (tVar i) (tCons tn tNil)) σ H Q := ⟨.ref p, hv, hn H wo_ex _ fun H1 e1 => ⟨p, n, rfl, hp.mono e1, h0, h1, fun d H2 d0 d1 e2 h2 => k d H2 d0 d1 ((wo_mono e1).trans e2) h2⟩⟩
theorem q_parL {D : Ends} {tz : TS} {i j : Nat} {ta tb : TE} {xs : List V} {w : V} (h : EvL ta σ H xs) (hb : ∀ H1, Ex H H1 → Ev tb σ H1 w) (k : ∀ p H1, H p = none → Ex H H1 → H1 p = some (.lst xs) → tz D ((σ.set i (some (.ref p))).set j (some w)) H1) :
    tSeq (tPar i j (tCons ta (tCons tb tNil))) tz D σ H := h H (Ex.refl H) _ fun p H1 hp e1 h1 => (hb H1 e1) H1 (Ex.refl _) _ fun H2 e2 => ⟨_, _, rfl, k p H2 hp (e1.trans e2) (e2 p _ h1)⟩
end
/-- rising days, from first on, at most so many days later -/
structure Rise (ns : List Int) (f : Int) (d : Int) : Prop where
  pos : 1 ≤ ns.length
  fst : ns.getD 0 0 = f
  up : ∀ i j : Nat, i ≤ j → j < ns.length → ns.getD i 0 ≤ ns.getD j 0
  last : ns.getD (ns.length - 1) 0 - f = d
theorem rise_one (f : Int) : Rise [f] f 0 := ⟨by simp, by simp, fun i j h1 h2 => by
  have : j = 0 := by simpa using h2
  subst this
  have : i = 0 := by omega
  subst this
  exact Int.le_refl _, by simp⟩
theorem getD_app1 {ns : List Int} {v : Int} {i : Nat} (h : i < ns.length) : (ns ++ [v]).getD i 0 = ns.getD i 0 := by
  rw [List.getD_eq_getElem?_getD, List.getElem?_append_left h, ← List.getD_eq_getElem?_getD]
theorem getD_app2 {ns : List Int} {v : Int} : (ns ++ [v]).getD ns.length 0 = v := by
  rw [List.getD_eq_getElem?_getD, List.getElem?_append_right (Nat.le_refl _)]
  simp
theorem rise_app {ns : List Int} {f d s : Int} (r : Rise ns f d) (hs : 0 ≤ s) : Rise (ns ++ [ns.getD (ns.length - 1) 0 + s]) f (d + s) := by
  have hp := r.pos
  refine ⟨by simp, by rw [getD_app1 (by omega)]; exact r.fst, fun i j h1 h2 => ?_, ?_⟩
  · rw [List.length_append, List.length_singleton] at h2
    by_cases hj : j < ns.length
    · rw [getD_app1 hj, getD_app1 (by omega)]
      exact r.up i j h1 hj
    · have e : j = ns.length := by omega
      subst e
      rw [getD_app2]
      by_cases hi : i < ns.length
      · rw [getD_app1 hi]
        have := r.up i (ns.length - 1) (by omega) (by omega)
        omega
      · have e : i = ns.length := by omega
        subst e
        rw [getD_app2]
        omega
  · rw [List.length_append, List.length_singleton, Nat.add_sub_cancel, getD_app2]
    have := r.last
    omega
theorem rise_good {ns : List Int} {f d : Int} (r : Rise ns f d) (h : ns.length ≤ 600) (hd : d ≤ (ns.length : Int)) : Good ns := ⟨r.pos, h, r.up, by have := r.last; have := r.fst; omega⟩
theorem rise_bd {ns : List Int} {f d : Int} (r : Rise ns f d) {i : Nat} (h : i < ns.length) : f ≤ ns.getD i 0 ∧ ns.getD i 0 ≤ f + d := by
  have h1 := r.up 0 i (by omega) h
  have h2 := r.up i (ns.length - 1) (by omega) (by have := r.pos; omega)
  have := r.fst
  have := r.last
  omega
def sp_ldays : Sp := fun vs H Q _ => ∃ (p : Addr) (n : Nat) (f : Int), vs = [.ref p, .int (n : Int), .int f] ∧ PotAt H p ∧ 1 ≤ n ∧ n ≤ 600 ∧ ∀ (l : Addr) (ns : List Int) (H2 : Hp), ns.length = n → Good ns → ns.getD 0 0 = f → (∀ i, i < n → f ≤ ns.getD i 0 ∧ ns.getD i 0 ≤ f + (n : Int)) → H l = none → Ex (wo H p) H2 → H2 l = some (.lst (ns.map V.int)) → PotAt H2 p → Q (.ref l) H2
def sp_lon (K : PySem.W.Frag) : Sp := fun vs H Q _ => ∃ (l : Addr) (ns : List Int) (x : Int), vs = [.ref l, .int x] ∧ SqL K H l (ns.map V.int) ∧ Good ns ∧ RetV (.int (onL ns x)) H Q
section
variable {K : PySem.W.Frag} {l : Addr} {H : Hp} {ns : List Int} {x : Int}
theorem spv_lon (h : SqL K H l (ns.map V.int)) (g : Good ns) : SpV (sp_lon K) ([.ref l, .int x] ++ []) H (.int (onL ns x)) := fun H1 e Q q E => ⟨l, ns, x, rfl, ex_l e h, g, q⟩
end
section
variable {P : Program} {w : World} {K : PySem.W.Frag} {mg : Str → Option Value} {base : Heap} {C : Addr}
theorem ok_ldays {f f1 : Addr} {fd fd1 : FuncData} (F : Fun K "_law_days" "_law_days" s__law_days f fd) (T : Txt K mg C) (c__law_pick : Cal P w K mg base "_law_pick" f1 fd1 ["_law_pot_here", "_law_some"] 2 (sp_pick K)) : FnOk P w K mg base CX0 3 f fd ["_law_pot_here", "_law_length", "_law_first"] sp_ldays := by
  refine F.ok sc__law_days (fun vs H Q E h => ?_) (fun cdv A outer s H vs Q E hr h => ?_)
  · obtain ⟨p, n, x, rfl, _⟩ := h
    rfl
  · obtain ⟨p, n, x, rfl, hp, n0, n1, k⟩ := h
    refine ⟨_, (pss_cons (ps_par (i := 3) (j := 4) (by rfl) sc__law_days.nd rfl rfl (by decide) rfl rfl (pa_cons (pe_lst (pa_cons (pv 2) pa_nil)) (pa_cons (pv 1) pa_nil)) (by rfl)) (pss_cons (ps_for PassesOwn.never rfl (pi_range1 (by rfl) T.b_range (pa_cons (pe_op op_sub (pv 1) pe_int) pa_nil)) (pg_name (i := 5) sc__law_days.nd rfl (Or.inl rfl)) (pss_cons (ps_set (i := 6) sc__law_days.nd rfl (Or.inl rfl) (pe_callB (call_min2 rfl) (by rfl) T.b_min (by decide +kernel) (pa_cons (pv 4) (pa_cons (pe_call c__law_pick.ok (hr.mono (by decide)) (by rfl) c__law_pick.mgx c__law_pick.kp c__law_pick.bd .nil pass0 (pa_cons (pv 0) (pa_cons (pe_lst (pa_cons pe_int (pa_cons pe_int (pa_cons pe_int (pa_cons pe_int (pa_cons pe_int (pa_cons pe_int (pa_cons (pv 1) pa_nil)))))))) pa_nil))) pa_nil)))) (pss_cons (ps_expr (pe_bm PySem.F.plainAttrs_list PySem.F.slot_list_append PySem.F.type_list_append mt_append (pv 3) (pa_cons (pe_op op_add (pe_ix (ixL (K := K) rfl) (pv 3) (pe_un un_neg pe_int) (fun _ _ => rfl)) (pv 6)) pa_nil))) (pss_one (ps_set (i := 4) sc__law_days.nd rfl (Or.inl rfl) (pe_op op_sub (pv 4) (pv 6))))))) (pss_one (ps_ret (pv 3))))), ?_⟩
    refine q_parL (xs := [.int x]) (w := .int (n : Int)) (el_lst (ea_cons (ev_var rfl) ea_nil) (by show 1 ≤ 100000; decide)) (fun _ _ => ev_var rfl) fun l H1 hl e1 h1 => ?_
    refine q_forR1 (n := (n : Int) - 1) (ea_cons (ev_op (ev_var rfl) ev_c rv_I0) ea_nil) (by omega) (fun i σ' H' => ∃ (ns : List Int) (d : Int) (o1 o2 : Option V), σ' = [some (.ref p), some (.int (n : Int)), some (.int x), some (.ref l), some (.int ((n : Int) - d)), o1, o2] ∧
      ns.length = i + 1 ∧ Rise ns x d ∧ 0 ≤ d ∧ d ≤ (n : Int) ∧ Ex (wo H p) H' ∧ H' l = some (.lst (ns.map V.int)) ∧ PotAt H' p) (fun H2 e2 => ?_) (fun i σ' H' hi hpv => ?_) (fun σ' H' hpv => ?_)
    · refine ⟨[x], 0, none, none, ?_, rfl, rise_one x, by omega, by omega, wo_ex.trans (e1.trans e2), e2 l _ h1, hp.mono (e1.trans e2)⟩
      rw [Int.sub_zero] <;> rfl
    · obtain ⟨ns, d, o1, o2, rfl, hlen, r, d0, dn, e3, h3, hp3⟩ := hpv
      obtain ⟨o, ho⟩ := hp.some
      have hlp : l ≠ p := (ne_of_none ho hl).symm
      have hwl : wo H p l = none := by rw [wo_ne hlp]; exact hl
      refine ⟨_, rfl, pickC (xs := ([0, 0, 1, 1, 2, 3, (n : Int)] : List Int).map V.int) hp3 rfl (ea_cons ev_c (ea_cons ev_c (ea_cons ev_c (ea_cons ev_c (ea_cons ev_c (ea_cons ev_c (ea_cons (ev_var rfl) ea_nil))))))) (by show 0 < 7; decide) (by show 7 ≤ 1000; decide) fun j v H4 hj e4 hp4 => ?_⟩
      obtain ⟨s, hs0, rfl⟩ : ∃ s : Int, 0 ≤ s ∧ v = .int s := by
        rw [List.getElem?_map] at hj
        obtain ⟨s, hs, rfl⟩ := Option.map_eq_some_iff.mp hj
        have hm := List.mem_of_getElem? hs
        refine ⟨s, ?_, rfl⟩
        simp only [List.mem_cons, List.mem_nil_iff, or_false] at hm
        omega
      refine ⟨_, _, rfl, ?_⟩
      have hst : 0 ≤ (if s < (n : Int) - d then s else (n : Int) - d) ∧ (if s < (n : Int) - d then s else (n : Int) - d) ≤ (n : Int) - d := by split <;> omega
      generalize (if s < (n : Int) - d then s else (n : Int) - d) = st at hst
      have h4 : H4 l = some (.lst (ns.map V.int)) := e4 l _ (by rw [wo_ne hlp]; exact h3)
      refine q_app (v := .int (ns.getD (ns.length - 1) 0 + st)) h4 (ev_var rfl) (ev_op (ev_op (ev_var rfl) (ev_un ev_c ru_neg) (rv_ixL (sq_of h4) (atI_m1 r.pos))) (ev_var rfl) rv_I0) (by rw [List.length_map]; omega) fun H5 e5 => ?_
      refine s_asg (ev_op (ev_var rfl) (ev_var rfl) rv_I0) fun H6 e6 => ?_
      refine ⟨ns ++ [ns.getD (ns.length - 1) 0 + st], d + st, some (.int (i : Int)), some (.int st), ?_, by rw [List.length_append, hlen] <;> rfl, rise_app r hst.1, by omega, by omega, ?_, ?_, ?_⟩
      · have e9 : (n : Int) - (d + st) = (n : Int) - d - st := by omega
        rw [e9] <;> rfl
      · refine (Ex.mut (o := .lst (ns.map V.int ++ [.int (ns.getD (ns.length - 1) 0 + st)])) (fun b o hb => e5 b o (e4 b o ?_)) hwl).trans e6
        have hbp : b ≠ p := fun q => by subst q; rw [wo_at] at hb; cases hb
        rw [wo_ne hbp]
        exact e3 b o hb
      · rw [List.map_append]
        exact e6 l _ upd_same
      · obtain ⟨a, b, q1, q2⟩ := hp4
        exact ⟨a, b, q1, e6 p _ (by rw [upd_ne hlp.symm]; exact e5 p _ q2)⟩
    · obtain ⟨ns, d, o1, o2, rfl, hlen, r, d0, dn, e3, h3, hp3⟩ := hpv
      have hl2 : ns.length = n := by omega
      refine s_ret (ev_var rfl) fun H4 e4 => ?_
      exact k l ns H4 hl2 (rise_good r (by omega) (by omega)) r.fst (fun i hi => by have := rise_bd r (i := i) (by omega); omega) hl (e3.trans e4) (e4 l _ h3) (hp3.mono e4)
theorem ok_lon {f : Addr} {fd : FuncData} (F : Fun K "_law_on" "_law_on" s__law_on f fd) (T : Txt K mg C) : FnOk P w K mg base CX0 1 f fd ["_law_days_here", "_law_day"] (sp_lon K) := by
  refine F.ok sc__law_on (fun vs H Q E h => ?_) (fun cdv A outer s H vs Q E hr h => ?_)
  · obtain ⟨l, ns, x, rfl, _⟩ := h
    rfl
  · obtain ⟨l, ns, x, rfl, hs, g, k⟩ := h
    have hp := g.posI
    have hm := g.most
    refine ⟨_, (pss_cons (ps_set (i := 2) sc__law_on.nd rfl (Or.inl rfl) (pe_op op_mul (pe_op op_fdivN (pv 1) (pe_callB (lenS (K := K) rfl) (by rfl) T.b_len (by decide +kernel) (pa_cons (pv 0) pa_nil))) (pe_callB (lenS (K := K) rfl) (by rfl) T.b_len (by decide +kernel) (pa_cons (pv 0) pa_nil)))) (pss_one (ps_ret (pe_op op_add (pe_ix (ixL (K := K) rfl) (pv 0) (pe_op op_sub (pv 1) (pv 2)) (fun _ _ => rfl)) (pv 2))))), ?_⟩
    have len : ∀ H1, Ex H H1 → RC (fun xs H Q => ∃ p ys, xs = [.ref p] ∧ (SqL K H p ys ∨ SqT K H p ys) ∧ Q (.int (ys.length : Int)) H) [.ref l] H1 (.int (ns.length : Int)) := fun H1 e => rc_len (.inl (ex_l e hs)) (by rw [List.length_map])
    refine q_asg (v := .int (x / (ns.length : Int) * (ns.length : Int))) (ev_is (ev_op (ev_op (ev_var rfl) (ev_cb (ea_cons (ev_var rfl) ea_nil) (len H (Ex.refl _))) (rv_I ⟨by omega, by omega⟩)) (ev_cb (ea_cons (ev_var rfl) ea_nil) (len H (Ex.refl _))) (rv_I (.inr ⟨by omega, by omega⟩))) (by rw [Int.fdiv_eq_ediv_of_nonneg _ (by omega)])) fun H1 e1 => ?_
    have i0 := Int.emod_nonneg x (show (ns.length : Int) ≠ 0 by omega)
    have i1 := Int.emod_lt_of_pos x hp
    have i2 : x - x / (ns.length : Int) * (ns.length : Int) = x % (ns.length : Int) := by
      have := Int.emod_add_mul_ediv x (ns.length : Int)
      rw [Int.mul_comm] at this
      omega
    exact s_ret (ev_op (ev_op (ev_var rfl) (ev_is (ev_op (ev_var rfl) (ev_var rfl) rv_I0) (congrArg V.int i2)) (rv_ixL (ex_l e1 hs) (atI_int i0 i1))) (ev_var rfl) rv_I0) fun H2 e2 => k H2 (e1.trans e2)
end
end K15
end
section
set_option maxHeartbeats 4000000
namespace K15
open PySem L2 Evl G TM
def RetU (xs : List V) (H : Hp) (Q : VK) : Prop := ∀ p H2, H p = none → Ex H H2 → H2 p = some (.tup xs) → Q (.ref p) H2
def SpU (sp : Sp) (vs : List V) (H : Hp) (xs : List V) : Prop := ∀ H1, Ex H H1 → ∀ Q : VK, (∀ p H2, H1 p = none → Ex H1 H2 → H2 p = some (.tup xs) → Q (.ref p) H2) → ∀ E : XK, sp vs H1 Q E
def RetD (K : PySem.W.Frag) (d : PyData) (H : Hp) (Q : VK) : Prop := ∀ v H2, Ex H H2 → Dp K H2 v d → Q v H2
section
variable {K : PySem.W.Frag} {σ : L2.St} {H : Hp} {p : Addr} {i j : Nat} {ta tb te : TE} {tA tr : TA} {D : Ends} {tz : TS} {QA : List V → Hp → Prop} {v w : V} {xs : List V} {vs : List Nat}
theorem ac_v (h : Ev te σ H v) (k : ∀ H1, Ex H H1 → tr σ H1 fun xs H2 => QA (v :: xs) H2) : tCons te tr σ H QA := h H (Ex.refl H) _ k
theorem ac_u (h : EvU te σ H xs) (k : ∀ p H1, H p = none → Ex H H1 → H1 p = some (.tup xs) → tr σ H1 fun xs H2 => QA (.ref p :: xs) H2) : tCons te tr σ H QA := h H (Ex.refl H) _ fun p H1 a b c => k p H1 a b c
theorem ac_nil (k : QA [] H) : tNil σ H QA := k
theorem q_lst (h : tA σ H fun vs H1 => vs.length ≤ sizeLine ∧ ∀ p, H1 p = none → tz D (σ.set i (some (.ref p))) (upd H1 p (.lst vs))) : tSeq (tAsg (tLst tA) (gName i)) tz D σ H := h
theorem eu_call {sp : Sp} {dvs ws : List V} {E : XK} (ha : EvA tA σ H ws) (hs : SpU sp (ws ++ dvs) H xs) : EvU (tCall sp dvs E tA) σ H xs := fun H1 e Q q =>
  ha H1 e _ fun H2 e2 => hs H2 (e.trans e2) Q (fun p H3 n3 e3 h3 => q p H3 (fresh_back e2 n3) (e2.trans e3) h3) E
theorem eu_meth {C dx : Addr} {m : Str} {fs : List (Str × V)} {sp : Sp} {dvs ws : List V} {E : XK} (h : Ev ta σ H (.ref p)) (ho : H p = some (.ins C dx fs)) (hl : fs.lookup m = none) (ha : EvA tA σ H ws) (hs : SpU sp (.ref p :: (ws ++ dvs)) H xs) : EvU (tMeth C m sp dvs E ta tA) σ H xs := fun H1 e Q q =>
  h H1 e _ fun H2 e2 => ⟨p, dx, fs, rfl, (e.trans e2) p _ ho, hl, ha H2 (e.trans e2) _ fun H3 e3 => hs H3 ((e.trans e2).trans e3) Q (fun q' H4 n4 e4 h4 => q q' H4 (fresh_back (e2.trans e3) n4) ((e2.trans e3).trans e4) h4) E⟩
end
def Bd (ns : List Int) : Prop := ∀ n, n ∈ ns → -1000000000000 ≤ n ∧ n ≤ 1000000000000
theorem small_int {i : Int} (h1 : -99999999999999999999 ≤ i) (h2 : i ≤ 99999999999999999999) : smallD (.int i) = true := by
  simp only [smallD, decide_eq_true_eq]
  omega
theorem smallAll_ints {ns : List Int} (h : Bd ns) : smallAll (ns.map PyData.int) = true := small_ints fun n hn => by have := h n hn; omega
theorem depth_all {ds : List PyData} {k : Nat} (h : ∀ d, d ∈ ds → d.depth ≤ k) : PyData.depthAll ds ≤ k := by
  induction ds with
  | nil => simp [PyData.depthAll]
  | cons d ds ih =>
    have h1 := h d (List.mem_cons_self ..)
    have h2 := ih fun x hx => h x (List.mem_cons_of_mem _ hx)
    simp only [PyData.depthAll]
    omega
theorem depth_ints (ns : List Int) : (dInts ns).depth ≤ 1 := by
  unfold dInts
  simp only [PyData.depth]
  have := depth_all (ds := ns.map PyData.int) (k := 0) fun d hd => by
    obtain ⟨n, _, rfl⟩ := List.mem_map.mp hd
    simp [PyData.depth]
  omega
section
variable {K : PySem.W.Frag} {σ : L2.St} {H : Hp} {p C : Addr} {tf : TE} {tA : TA} {vs : List V} {z : V} {X : Cx} {sp : Sp} {E : XK} {ta tb : TE} {d : PyData}
/-- data that are alike -/
theorem ev_neD (ha : EvD K ta σ H d) (hb : EvD K tb σ H d) (hs : SeqAt.shaped d = true) (hc : d.canLay0 = true) : Ev (tOp (rNeD K) ta tb) σ H (.bl false) := fun H1 e Q q =>
  ha H1 e _ fun v H2 e2 hv => hb H2 (e.trans e2) _ fun u H3 e3 hu => ⟨d, d, dp_mono e3 hv, hu, hs, hs, by rw [SeqAt.eqv_refl d hc]; exact q H3 (e2.trans e3)⟩
end
/-! ### bounds -/
theorem bd_get {ns : List Int} (b : Bd ns) {i : Nat} (hi : i < ns.length) : -1000000000000 ≤ ns.getD i 0 ∧ ns.getD i 0 ≤ 1000000000000 := b _ (by rw [List.getD_eq_getElem?_getD, List.getElem?_eq_getElem hi]; exact List.getElem_mem hi)
theorem on_bd {ns : List Int} (g : Good ns) (b : Bd ns) (x : Int) : x - 1000000001000 ≤ onL ns x ∧ onL ns x ≤ x + 1000000001000 := by
  obtain ⟨i, t, hi, rfl⟩ := split_at g x
  rw [on_at g hi]
  have := bd_get b hi
  have := g.most
  omega
def Far (x : Int) : Prop := -1000000000000 ≤ x ∧ x ≤ 1000000000000
section
variable {K : PySem.W.Frag} {σ : L2.St} {H : Hp} {p C : Addr} {i j i0 : Nat} {tA tr : TA} {tn ta tl te : TE} {Q : VK} {E : XK} {D : Ends} {tz : TS} {xs : List V} {vs : List Nat} {QA : List V → Hp → Prop} {ns : List Int}
theorem q_pick (hp : PotAt H p) (hv : σ[i]? = some (some (.ref p))) (ha : EvA tA σ (wo H p) xs) (h0 : 0 < xs.length) (h1 : xs.length ≤ 1000) (k : ∀ (j : Nat) (v : V) (H2 : Hp), xs[j]? = some v → Ex (wo H p) H2 → PotAt H2 p → tz D (σ.set i0 (some v)) H2) :
    tSeq (tAsg (tCall (sp_pick K) [] E (tCons (tVar i) (tCons (tLst tA) tNil))) (gName i0)) tz D σ H := pickC hp hv ha h0 h1 k
theorem ac_l (h : EvL te σ H xs) (k : ∀ p H1, H p = none → Ex H H1 → H1 p = some (.lst xs) → tr σ H1 fun xs H2 => QA (.ref p :: xs) H2) : tCons te tr σ H QA := h H (Ex.refl H) _ fun p H1 a b c => k p H1 a b c
/-- the same, nothing changed by the turns -/
theorem all_ev (h : tl σ H fun x H1 => ∃ a xs, x = .ref a ∧ H1 a = some (.lst xs) ∧ xs.length ≤ 1000 ∧ (∀ (i : Nat) (y : V) (H2 : Hp), Ex H1 H2 → xs[i]? = some y → Ev te ((wipe σ vs).set j (some y)) H2 (.bl true)) ∧ ∀ H2, Ex H1 H2 → Q (.bl true) H2) (hw : ∀ x, wipe ((wipe σ vs).set j (some x)) vs = wipe σ vs)
    (hm : ∀ {Q1 Q2 : VK}, (∀ x H1, Q1 x H1 → Q2 x H1) → tl σ H Q1 → tl σ H Q2) : tCB (rAll K) (tCons (tLc (iList K tl) (gName j) tYes te vs) tNil) σ H Q := by
  refine hm (fun x H1 h => ?_) h
  obtain ⟨a, xs, rfl, ha, hz, he, k⟩ := h
  refine ⟨a, rfl, ⟨xs, sq_of ha⟩, fun Dl hD => ?_⟩
  refine lc_list (xs := xs) (Cw H1 (fun _ => true) (fun _ => V.bl true) Dl) ⟨hD, Ex.new hD, upd_same⟩ (fun i H' _ p => sq_of (p.2.1 a _ ha)) (fun i x H' hi p => ⟨hw x, cw_turn p (by have := (List.getElem?_eq_some_iff.mp hi).1; omega) lc_yes (fun _ => he i x H1 (Ex.refl _) hi)⟩) (fun H' p => ?_)
  have e1 : given xs.length (fun _ => true) (fun _ => V.bl true) = (List.replicate xs.length true).map V.bl := by
    unfold given
    rw [List.filter_eq_self.mpr (fun _ _ => rfl)]
    apply List.ext_getElem <;> simp
  refine ⟨Dl, List.replicate xs.length true, rfl, sq_of (by rw [← e1]; exact p.2.2), ?_⟩
  have : (List.replicate xs.length true).all id = true := by simp
  rw [this]
  exact k H' p.2.1
/-- Table(s) -/
theorem make_tab {s : Addr} (ha : Ev ta σ H (.ref s)) (hs : SeqT K H s (ns.map V.int)) (g : Good ns) (k : ∀ (x l dx : Addr) (H2 : Hp), H x = none → H l = none → Ex H H2 → H2 x = some (.ins C dx [("_days", .ref l)]) → H2 l = some (.lst (ns.map V.int)) → Q (.ref x) H2) :
    tMake C (sp_init K C) [] E (tCons ta tNil) σ H Q := ha H (Ex.refl H) _ fun H1 e1 => fun x dx hx hdx hne => by
  have hsx : s ≠ x := by rcases hs with h | h <;> exact ne_of_none (e1 s _ h) hx
  have hsd : s ≠ dx := by rcases hs with h | h <;> exact ne_of_none (e1 s _ h) hdx
  refine ⟨x, dx, s, ns, rfl, upd_same, (hs.mono e1).imp (fun h => by rw [upd_ne hsx, upd_ne hsd]; exact h) (fun h => by rw [upd_ne hsx, upd_ne hsd]; exact h), g, fun l H' hk h1 h2 hl => ⟨rfl, ?_⟩⟩
  have hlx : l ≠ x := (ne_of h1 h2 (fun z => by cases z)).symm
  refine k x l dx H' (fresh_back e1 hx) ?_ (fun b o hb => ?_) h1 h2
  · rw [upd_ne hlx] at hl
    by_cases q : l = dx
    · subst q; rw [upd_same] at hl; cases hl
    · rw [upd_ne q] at hl; exact fresh_back e1 hl
  · have hb1 := e1 b _ hb
    have hbx : b ≠ x := ne_of_none hb1 hx
    exact hk b o (by rw [upd_ne hbx, upd_ne (ne_of_none hb1 hdx)]; exact hb1) hbx
end
section
variable {K : PySem.W.Frag} {σ : L2.St} {H : Hp} {p C : Addr} {i j i0 : Nat} {tA tr : TA} {tn ta tb tl te : TE} {Q : VK} {E : XK} {D : Ends} {tz : TS} {xs : List V} {vs : List Nat} {QA : List V → Hp → Prop} {ns : List Int} {r : R2}
theorem ac_k (h : te σ H fun v H1 => tr σ H1 fun xs H2 => QA (v :: xs) H2) : tCons te tr σ H QA := h
theorem op_k (h : ta σ H fun x H1 => tb σ H1 fun y H2 => r x y H2 Q) : tOp r ta tb σ H Q := h
theorem lst_k (h : tA σ H fun vs H1 => vs.length ≤ sizeLine ∧ ∀ p, H1 p = none → Q (.ref p) (upd H1 p (.lst vs))) : tLst tA σ H Q := h
theorem ret_k (h : te σ H D.rt) : tRet te D σ H := h
theorem asg_k (h : te σ H fun v H1 => tz D (σ.set i (some v)) H1) : tSeq (tAsg te (gName i)) tz D σ H := h
theorem v_k {v : V} (h : Ev te σ H v) (k : ∀ H1, Ex H H1 → Q v H1) : te σ H Q := h H (Ex.refl H) _ k
theorem all_k (h : tl σ H fun x H1 => tCB (rAll K) (tCons (tLc (iList K (tC x)) (gName j) tYes te vs) tNil) σ H1 Q) : tCB (rAll K) (tCons (tLc (iList K tl) (gName j) tYes te vs) tNil) σ H Q := h
/-- each turn says True; what the turns may change is told by W -/
theorem all_at {a : Addr} (W : Hp → Prop) (ha : H a = some (.lst xs)) (hz : xs.length ≤ 1000) (hw : ∀ x, wipe ((wipe σ vs).set j (some x)) vs = wipe σ vs)
    (hW : ∀ H2, W H2 → H2 a = some (.lst xs)) (hD : ∀ H2 l o, W H2 → H l = none → W (upd H2 l o))
    (he : ∀ (i : Nat) (x : V) (H' : Hp), xs[i]? = some x → W H' → ∀ Q : VK, (∀ H2, W H2 → (∀ l o, H l = none → H' l = some o → H2 l = some o) → Q (.bl true) H2) → te ((wipe σ vs).set j (some x)) H' Q)
    (h0 : W H) (k : ∀ H2, W H2 → Q (.bl true) H2) : tCB (rAll K) (tCons (tLc (iList K (tC (.ref a))) (gName j) tYes te vs) tNil) σ H Q := by
  refine ⟨a, rfl, ⟨xs, sq_of ha⟩, fun Dl hDl => ?_⟩
  refine lc_list (xs := xs) (fun i H' => W H' ∧ H' Dl = some (.lst (List.replicate i (V.bl true)))) ⟨hD _ _ _ h0 hDl, upd_same⟩ (fun i H' _ h => sq_of (hW _ h.1)) (fun i x H' hi h => ?_) (fun H' h => ?_)
  · obtain ⟨g1, g3⟩ := h
    refine ⟨hw x, ?_⟩
    unfold tYes
    refine iteT ?_
    refine he i x H' hi g1 _ fun H3 w3 e3 => ?_
    have hlt : i < xs.length := (List.getElem?_eq_some_iff.mp hi).1
    refine ⟨_, e3 Dl _ hDl g3, by rw [List.length_replicate]; exact sz_lt (by omega), hD _ _ _ w3 hDl, ?_⟩
    rw [upd_same, List.replicate_succ']
  · obtain ⟨g1, g3⟩ := h
    refine ⟨Dl, List.replicate xs.length true, rfl, sq_of (by rw [List.map_replicate]; exact g3), ?_⟩
    have : (List.replicate xs.length true).all id = true := by simp
    rw [this]
    exact k H' g1
/-- each turn says True and changes nothing -/
theorem all_calm {a : Addr} (ha : H a = some (.lst xs)) (hz : xs.length ≤ 1000) (hw : ∀ x, wipe ((wipe σ vs).set j (some x)) vs = wipe σ vs)
    (he : ∀ (i : Nat) (x : V), xs[i]? = some x → Ev te ((wipe σ vs).set j (some x)) H (.bl true)) (k : ∀ H2, Ex H H2 → Q (.bl true) H2) : tCB (rAll K) (tCons (tLc (iList K (tC (.ref a))) (gName j) tYes te vs) tNil) σ H Q :=
  all_ev (tl := tC (.ref a)) ⟨a, xs, rfl, ha, hz, fun i y H2 e2 hi => (he i y hi).mono e2, k⟩ hw (fun f h => f _ _ h)
theorem bd_of {ns : List Int} (h : ∀ i, i < ns.length → -1000000000000 ≤ ns.getD i 0 ∧ ns.getD i 0 ≤ 1000000000000) : Bd ns := fun n hn => by
  obtain ⟨i, hi, rfl⟩ := List.mem_iff_getElem.mp hn
  have := h i hi
  rw [List.getD_eq_getElem?_getD, List.getElem?_eq_getElem hi] at this
  exact this
end
section
variable {K : PySem.W.Frag} {σ : L2.St} {H H' : Hp} {p q C x dx l2 l : Addr} {i j i0 : Nat} {tA tr : TA} {tn ta tb tl te : TE} {tt : TT} {tu : TS} {Q : VK} {E : XK} {D : Ends} {tz : TS} {xs ys : List V} {vs : List Nat} {QA : List V → Hp → Prop} {ns : List Int} {r : R2} {o : HO}
theorem pot_off (h : PotAt H p) (hq : p ≠ q) : PotAt (upd H q o) p := by obtain ⟨a, b, h1, h2⟩ := h; exact ⟨a, b, h1, by rw [upd_ne hq]; exact h2⟩
theorem el_rg {a b : Int} (ha : Ev ta σ H (.int a)) (hb : Ev tb σ H (.int b)) (hr : RgOk a b) : EvL (tLstRg (tRg2 ta tb)) σ H (rgV a b) := fun H1 e Q q =>
  ha H1 e _ fun H2 e2 => hb H2 (e.trans e2) _ fun H3 e3 => ⟨a, b, rfl, rfl, hr, fun p hp => q p _ (fresh_back (e2.trans e3) hp) ((e2.trans e3).trans (Ex.new hp)) upd_same⟩
theorem el_cat (ha : EvL ta σ H xs) (hb : EvL tb σ H ys) (hz : xs.length + ys.length ≤ 100000) : EvL (tOp rCat ta tb) σ H (xs ++ ys) := fun H1 e Q q =>
  ha H1 e _ fun a H2 na e2 h2 => hb H2 (e.trans e2) _ fun b H3 nb e3 h3 => ⟨a, b, xs, ys, rfl, rfl, e3 a _ h2, h3, sz_of hz, fun p hp => q p _ (fresh_back (e2.trans e3) hp) ((e2.trans e3).trans (Ex.new hp)) upd_same⟩
theorem if_k {c : TT} (h : c σ H fun b H1 => if b = true then ta σ H1 Q else tb σ H1 Q) : tIf c ta tb σ H Q := h
theorem test_k {R : Bool → Hp → Prop} (h : te σ H fun x H1 => ∃ k, x = .bl k ∧ R k H1) : tTest te σ H R := h
theorem notall_k (h : te σ H fun x H1 => ∃ k, x = .bl k ∧ if (!k) = true then tu { D with nx := tz D } σ H1 else tz D σ H1) : tSeq (tIfS (tNot (tB te)) tu tNext) tz D σ H := h
theorem and_k (h : te σ H fun x H1 => ∃ k, x = .bl k ∧ if k = true then tt σ H1 (fun b H2 => if b = true then tu { D with nx := tz D } σ H2 else tz D σ H2) else tz D σ H1) : tSeq (tIfS (tAnd (tTest te) tt) tu tNext) tz D σ H := h
theorem eu_tuple_of {a : Addr} (h : Ev ta σ H (.ref a)) (hs : SqL K H a xs) : EvU (tCB (fun xs H Q => ∃ p ys, xs = [.ref p] ∧ ((SqL K H p ys ∧ ∀ l, H l = none → Q (.ref l) (upd H l (.tup ys))) ∨ (SqT K H p ys ∧ Q (.ref p) H))) (tCons ta tNil)) σ H xs := fun H1 e Q q =>
  h H1 e _ fun H2 e2 => ⟨a, xs, rfl, .inl ⟨ex_l (e.trans e2) hs, fun l hl => q l _ (fresh_back e2 hl) (e2.trans (Ex.new hl)) upd_same⟩⟩
theorem ite_both {c : Bool} (Z : V → Hp → Prop) (hA : (∀ v H2, Z v H2 → Q v H2) → ta σ H Q) (hB : (∀ v H2, Z v H2 → Q v H2) → tb σ H Q) (k : ∀ v H2, Z v H2 → Q v H2) : if c = true then ta σ H Q else tb σ H Q := by
  split
  · exact hA k
  · exact hB k
theorem far_rg {a b : Int} {i : Nat} {y : V} (h : (rgV a b)[i]? = some y) : ∃ c : Int, a ≤ c ∧ c < b ∧ y = .int c := by
  unfold rgV at h
  rw [List.getElem?_map] at h
  obtain ⟨c, hc, rfl⟩ := Option.map_eq_some_iff.mp h
  have := List.mem_range.mp (List.mem_of_getElem? hc)
  exact ⟨_, by omega, by omega, rfl⟩
end
theorem ex_pot {H H2 : Hp} {p : Addr} (e : Ex H H2) (hp : H p = none) : Ex H (wo H2 p) := fun b o h => by rw [wo_ne (ne_of_none h hp)]; exact e b o h
def sp_law (K : PySem.W.Frag) : Sp := fun vs H Q _ => ∃ (a : Addr) (ns : List Int), vs = [.ref a] ∧ SqL K H a (ns.map V.int) ∧ ns.length ≤ 63 ∧ RetV (.bl true) H Q
mutual
def plainD : PyData → Bool
  | .none => true
  | .bool _ => true
  | .int _ => true
  | .str _ => false
  | .list xs => plainAll xs
  | .tuple xs => plainAll xs
  | .dict _ => false
def plainAll : List PyData → Bool
  | [] => true
  | x :: xs => plainD x && plainAll xs
end
mutual
theorem plain_can : ∀ {d : PyData}, plainD d = true → d.canLay0 = true
  | .none, _ => by simp [PyData.canLay0]
  | .bool _, _ => by simp [PyData.canLay0]
  | .int _, _ => by simp [PyData.canLay0]
  | .str _, h => by simp [plainD] at h
  | .list xs, h => by simp only [plainD] at h; simpa [PyData.canLay0] using plain_canAll h
  | .tuple xs, h => by simp only [plainD] at h; simpa [PyData.canLay0] using plain_canAll h
  | .dict _, h => by simp [plainD] at h
theorem plain_canAll : ∀ {ds : List PyData}, plainAll ds = true → PyData.canLayAll0 ds = true
  | [], _ => by simp [PyData.canLayAll0]
  | d :: ds, h => by
    simp only [plainAll, Bool.and_eq_true] at h
    simp [PyData.canLayAll0, plain_can h.1, plain_canAll h.2]
end
theorem shaped_small {d : PyData} (h : plainD d = true) (hd : d.depth ≤ 64) : SeqAt.shaped d = true := by
  unfold SeqAt.shaped
  rw [plain_can h, decide_eq_true hd] <;> rfl
theorem plainAll_map {α : Type} {f : α → PyData} (h : ∀ x, plainD (f x) = true) : ∀ l : List α, plainAll (l.map f) = true
  | [] => rfl
  | x :: l => by simp only [List.map_cons, plainAll, h x, plainAll_map h l, Bool.and_self]
theorem smallD_of (ns : List Int) : plainD (dInts ns) = true := by unfold dInts; simp only [plainD]; exact plainAll_map (fun _ => rfl) ns
theorem call_k {sp : Sp} {dvs : List V} {E : XK} {tA : TA} {σ : L2.St} {H : Hp} {Q : VK} (h : tA σ H fun vs H1 => sp (vs ++ dvs) H1 Q E) : tCall sp dvs E tA σ H Q := h
/-- a new Table, or none -/
def TabN (C : Addr) (H H2 : Hp) (p : Addr) (ns : List Int) : Prop := ∃ dx l, H l = none ∧ H2 p = some (.ins C dx [("_days", .ref l)]) ∧ H2 l = some (.lst (ns.map V.int))
theorem TabN.tab {K : PySem.W.Frag} {C p : Addr} {H H2 : Hp} {ns : List Int} (t : TabN C H H2 p ns) : Tab K C H2 p ns := let ⟨dx, l, _, h1, h2⟩ := t; ⟨dx, l, h1, sq_of h2⟩
theorem TabN.back {C p : Addr} {H0 H H2 : Hp} {ns : List Int} (t : TabN C H H2 p ns) (e : Ex H0 H) : TabN C H0 H2 p ns := let ⟨dx, l, h, h1, h2⟩ := t; ⟨dx, l, fresh_back e h, h1, h2⟩
theorem TabN.mono {C p : Addr} {H H2 H3 : Hp} {ns : List Int} (t : TabN C H H2 p ns) (e : Ex H2 H3) : TabN C H H3 p ns := let ⟨dx, l, h, h1, h2⟩ := t; ⟨dx, l, h, e p _ h1, e l _ h2⟩
section
variable {K : PySem.W.Frag} {σ : L2.St} {H : Hp} {a C p q : Addr} {r : Row} {d : Int} {n : Nat} {rs : List Row} {ta tb te : TE} {tt : TT} {x : V} {dd : PyData} {tA tk : TA} {E E' : XK}
theorem evd_if {b : Bool} (h : EvT tt σ H b) (h1 : b = true → EvD K ta σ H dd) (h2 : b = false → EvD K tb σ H dd) : EvD K (tIf tt ta tb) σ H dd := fun H1 e Q q => h H1 e _ fun H2 e2 => by
  cases b with
  | true => rw [if_pos rfl]; exact h1 rfl H2 (e.trans e2) Q fun v H3 e3 hv => q v H3 (e2.trans e3) hv
  | false => rw [if_neg (by decide)]; exact h2 rfl H2 (e.trans e2) Q fun v H3 e3 hv => q v H3 (e2.trans e3) hv
end
theorem given_F {n : Nat} {f : Int → Int} : given ((n : Int).toNat) (fun _ => true) (fun i => V.int (f (i : Int))) = (listF n f).map V.int := by
  rw [given_all, Int.toNat_natCast]
  unfold listF
  rw [List.map_map] <;> rfl
/-- a Table that stands apart from the pot -/
def Tw (C : Addr) (H : Hp) (p x : Addr) (ns : List Int) : Prop := ∃ dx l, x ≠ p ∧ l ≠ p ∧ H x = some (.ins C dx [("_days", .ref l)]) ∧ H l = some (.lst (ns.map V.int))
theorem Tw.ex {C p x : Addr} {H H' : Hp} {ns : List Int} (t : Tw C H p x ns) (e : Ex H H') : Tw C H' p x ns := let ⟨dx, l, h1, h2, h3, h4⟩ := t; ⟨dx, l, h1, h2, e x _ h3, e l _ h4⟩
theorem Tw.exw {C p x : Addr} {H H' : Hp} {ns : List Int} (t : Tw C H p x ns) (e : Ex (wo H p) H') : Tw C H' p x ns := let ⟨dx, l, h1, h2, h3, h4⟩ := t; ⟨dx, l, h1, h2, e x _ (by rw [wo_ne h1]; exact h3), e l _ (by rw [wo_ne h2]; exact h4)⟩
theorem Tw.tab {K : PySem.W.Frag} {C p x : Addr} {H : Hp} {ns : List Int} (t : Tw C H p x ns) : Tab K C H x ns := let ⟨dx, l, _, _, h3, h4⟩ := t; ⟨dx, l, h3, sq_of h4⟩
theorem Tw.of {C p x : Addr} {H H2 : Hp} {ns : List Int} (hp : PotAt H p) (hx : H x = none) (t : TabN C H H2 x ns) : Tw C H2 p x ns := by
  obtain ⟨o, ho⟩ := hp.some
  obtain ⟨dx, l, h, h1, h2⟩ := t
  exact ⟨dx, l, (ne_of_none ho hx).symm, (ne_of_none ho h).symm, h1, h2⟩
section
variable {K : PySem.W.Frag} {σ : L2.St} {H : Hp} {a b C p q s : Addr} {n : Nat} {rs : List Row} {ta tb te : TE} {tA tr tk : TA} {E : XK} {ns ms : List Int} {D : Ends} {tz : TS} {i j : Nat} {QA : List V → Hp → Prop} {M : Hp → Addr → Prop} {t : TT} {tu : TS}
theorem par2_k (h : tA σ H fun vs H1 => ∃ v w, vs = [v, w] ∧ tz D ((σ.set i (some v)).set j (some w)) H1) : tSeq (tPar i j tA) tz D σ H := h
theorem ac_m (h : EvM te σ H M) (k : ∀ p H1, H p = none → Ex H H1 → M H1 p → tr σ H1 fun xs H2 => QA (.ref p :: xs) H2) : tCons te tr σ H QA := h H (Ex.refl H) _ k
theorem evm_make (ha : Ev ta σ H (.ref s)) (hs : H s = some (.lst (ns.map V.int))) (g : Good ns) : EvM (tMake C (sp_init K C) [] E (tCons ta tNil)) σ H (fun H2 p => TabN C H H2 p ns) := fun H1 e Q q =>
  make_tab (ha.mono e) (.inl (e s _ hs)) g fun x l dx H2 hx hl e2 h1 h2 => q x H2 hx e2 ⟨dx, l, fresh_back e hl, h1, h2⟩
theorem q_when2 {b : Bool} (h : EvT t σ H b) (h1 : b = true → ∀ H1, Ex H H1 → (∀ H2, Ex H1 H2 → tz D σ H2) → tu { D with nx := tz D } σ H1) (k : ∀ H1, Ex H H1 → tz D σ H1) : tSeq (tIfS t tu tNext) tz D σ H := q_when h (fun hb H1 e1 => h1 hb H1 e1 fun H2 e2 => k H2 (e1.trans e2)) (fun _ H1 e1 => k H1 e1)
end
section
variable {K : PySem.W.Frag} {σ : L2.St} {H : Hp} {a b C p q s : Addr} {n : Nat} {rs : List Row} {ta tb te : TE} {tA tr tk : TA} {E : XK} {ns ms : List Int} {D : Ends} {tz : TS} {i j : Nat} {QA : List V → Hp → Prop} {t tt : TT} {tu : TS} {vs : List Nat} {Q : VK} {g : TG}
theorem andV_k (h : ta σ H fun x H1 => ∃ c, x = .bl c ∧ if c = true then tb σ H1 Q else Q (.bl false) H1) : tAndV ta tb σ H Q := h
end
section
variable {K : PySem.W.Frag} {σ : L2.St} {H : Hp} {a b C p q s : Addr} {n : Nat} {rs : List Row} {ta tb te to ti : TE} {tA tr tk : TA} {E : XK} {ns ms : List Int} {D : Ends} {tz : TS} {i j : Nat} {QA : List V → Hp → Prop} {t tt : TT} {tu : TS} {vs : List Nat} {Q : VK} {g : TG}
theorem ornot_k (h : te σ H fun x H1 => ∃ c, x = .bl c ∧ if (!c) = true then tu { D with nx := tz D } σ H1 else tSeq (tIfS tt tu tNext) tz D σ H1) : tSeq (tIfS (tOr (tNot (tB te)) tt) tu tNext) tz D σ H := h
theorem rng_k (h : tA σ H fun ws H1 => tLc (iRng1 (fun _ H' Q' => Q' ws H')) g tt te vs σ H1 Q) : tLc (iRng1 tA) g tt te vs σ H Q := h
theorem tup_k (h : tA σ H fun vs H1 => vs.length ≤ sizeLine ∧ ∀ p, H1 p = none → Q (.ref p) (upd H1 p (.tup vs))) : tTup tA σ H Q := h
theorem asgS_k (h : te σ H fun v H1 => to σ H1 fun o H2 => ti σ H2 fun i H3 => rSetL o i v H3 fun H4 => tz D σ H4) : tSeq (tAsg te (gSub to ti rSetL)) tz D σ H := h
end
section
variable {K : PySem.W.Frag} {σ : L2.St} {H : Hp} {l : Addr} {ta te : TE} {D : Ends} {xs : List V}
/-- l.append(e), e read by hand -/
theorem app_k (ha : Ev ta σ H (.ref l)) (hl : H l = some (.lst xs)) (h : ∀ H1, Ex H H1 → te σ H1 fun v H2 => ∃ (l' : Addr) (xs' : List V) (v' : V), V.ref l = .ref l' ∧ [v] = [v'] ∧ H2 l' = some (.lst xs') ∧ xs'.length < sizeLine ∧ D.nx σ (upd H2 l' (.lst (xs' ++ [v'])))) : tDrop (tBM K "list" rAppend ta (tCons te tNil)) D σ H := ha H (Ex.refl H) _ fun H1 e1 =>
  ⟨Or.inl ⟨rfl, xs, sq_of (e1 l _ hl)⟩, h H1 e1⟩
end
section
variable {K : PySem.W.Frag} {σ : L2.St} {H : Hp} {tt : TT} {ta tb : TE} {x y : V}
theorem ev_if2 {b : Bool} (h : EvT tt σ H b) (h1 : b = true → Ev ta σ H x) (h2 : b = false → Ev tb σ H y) : Ev (tIf tt ta tb) σ H (if b = true then x else y) := ev_if h (fun q => by rw [if_pos q]; exact h1 q) (fun q => by rw [if_neg (by rw [q]; decide)]; exact h2 q)
end
theorem eqv_nil (fs : List Int) : PyData.eqv (dInts fs) (.list []) = fs.isEmpty := by
  cases fs with
  | nil => rfl
  | cons a fs => rfl
end K15
end
section
set_option maxHeartbeats 2000000
namespace G
open PySem L2 Evl
/-! ### data that stand apart from what else changes: B the heap whose data may be shared, H1 the heap ahead -/
def Sep (B H1 H2 : Hp) : Hp := fun b => if H1 b = none ∨ (B b).isSome = true then H2 b else none
section
variable {B B' H H' H1 H2 H3 : Hp} {b : Addr} {o : HO}
theorem sep_in (h : H2 b = some o) (hb : H1 b = none ∨ (B b).isSome = true) : Sep B H1 H2 b = some o := by unfold Sep; rw [if_pos hb]; exact h
theorem sep_out (h : Sep B H1 H2 b = some o) : (H1 b = none ∨ (B b).isSome = true) ∧ H2 b = some o := by
  unfold Sep at h
  split at h
  · rename_i q; exact ⟨q, h⟩
  · cases h
theorem sep_ex : Ex (Sep B H1 H2) H2 := fun b o h => (sep_out h).2
theorem sep_base (e : Ex B H2) : Ex B (Sep B H1 H2) := fun b o h => sep_in (e b o h) (.inr (by rw [h]; rfl))
theorem sep_next (e : Ex H2 H3) : Ex (Sep B H1 H2) (Sep B H1 H3) := fun b o h => let ⟨h1, h2⟩ := sep_out h; sep_in (e b o h2) h1
theorem sep_prev (e : Ex H1 H2) : Ex (Sep B H2 H3) (Sep B H1 H3) := fun b o h => let ⟨h1, h2⟩ := sep_out h; sep_in h2 (h1.imp (fresh_back e) id)
theorem some_ex (e : Ex B B') (h : (B b).isSome = true) : (B' b).isSome = true := by
  obtain ⟨o, ho⟩ := Option.isSome_iff_exists.mp h
  rw [e b o ho] <;> rfl
theorem sep_wide (e : Ex B B') : Ex (Sep B H1 H2) (Sep B' H1 H2) := fun b o h => let ⟨h1, h2⟩ := sep_out h; sep_in h2 (h1.imp id (some_ex e))
theorem sep_sep (e : Ex H1 H2) : Ex (Sep (Sep B H1 H2) H2 H3) (Sep B H1 H3) := fun b o h => by
  obtain ⟨h1, h2⟩ := sep_out h
  refine sep_in h2 ?_
  rcases h1 with h1 | h1
  · exact .inl (fresh_back e h1)
  · obtain ⟨o', ho⟩ := Option.isSome_iff_exists.mp h1
    exact (sep_out ho).1
/-- nothing is shared of what is neither in B nor new -/
theorem sep_off {q : Addr} (h1 : H1 q ≠ none) (h2 : B q = none) : Sep B H1 H2 q = none := by
  unfold Sep
  rw [if_neg]
  rintro (z | z)
  · exact h1 z
  · rw [h2] at z; cases z
theorem sep_upd {q : Addr} {o : HO} (h1 : H1 q ≠ none) (h2 : B q = none) : Ex (Sep B H1 H2) (Sep B H1 (upd H2 q o)) := fun b u h => by
  obtain ⟨a1, a2⟩ := sep_out h
  have hb : b ≠ q := fun z => by subst z; rw [sep_off h1 h2] at h; cases h
  exact sep_in (by rw [upd_ne hb]; exact a2) a1
end
variable {K : PySem.W.Frag} {σ : L2.St} {B H H' : Hp} {ta tb te tx tl : TE} {tt : TT} {x y z v : V} {d d' : PyData} {ds es : List PyData} {p C dx a : Addr} {fs : List (Str × V)} {f m : Str} {sp : Sp} {dvs vs xs : List V} {E : XK} {tA tr tk : TA} {js : List Nat} {j i : Nat} {D : Ends} {tz : TS}
/-- what evaluates to data, B the heap whose data may be shared (a part of H) -/
def EvN (K : PySem.W.Frag) (B : Hp) (te : TE) (σ : L2.St) (H : Hp) (d : PyData) : Prop := ∀ H1, Ex H H1 → ∀ Q : VK, (∀ v H2, Ex H1 H2 → Dp K (Sep B H1 H2) v d → Q v H2) → te σ H1 Q
def EvAN (K : PySem.W.Frag) (B : Hp) (ta : TA) (σ : L2.St) (H : Hp) (ds : List PyData) : Prop := ∀ H1, Ex H H1 → ∀ Q : List V → Hp → Prop, (∀ vs H2, Ex H1 H2 → DpAll K (Sep B H1 H2) vs ds → Q vs H2) → ta σ H1 Q
/-- the promise's end: data -/
def RetN (K : PySem.W.Frag) (B : Hp) (d : PyData) (H : Hp) (Q : VK) : Prop := ∀ v H2, Ex H H2 → Dp K (Sep B H H2) v d → Q v H2
def SpN (K : PySem.W.Frag) (B : Hp) (sp : Sp) (vs : List V) (H : Hp) (d : PyData) : Prop := ∀ H1, Ex H H1 → ∀ Q : VK, RetN K B d H1 Q → ∀ E : XK, sp vs H1 Q E
theorem EvN.mono (e : Ex H H') (h : EvN K B te σ H d) : EvN K B te σ H' d := fun H1 a Q q => h H1 (e.trans a) Q q
theorem EvAN.mono (e : Ex H H') (h : EvAN K B tA σ H ds) : EvAN K B tA σ H' ds := fun H1 a Q q => h H1 (e.trans a) Q q
theorem EvN.wide {B' : Hp} (e : Ex B B') (h : EvN K B te σ H d) : EvN K B' te σ H d := fun H1 a Q q => h H1 a Q fun v H2 e2 hv => q v H2 e2 (dp_mono (sep_wide e) hv)
theorem EvN.evd (h : EvN K B te σ H d) : EvD K te σ H d := fun H1 e Q q => h H1 e Q fun v H2 e2 hv => q v H2 e2 (dp_mono sep_ex hv)
theorem evn_is (h : EvN K B te σ H d) (e : d = d') : EvN K B te σ H d' := e ▸ h
theorem evn_v (h : Ev te σ H v) (hd : ∀ H1, Dp K H1 v d) : EvN K B te σ H d := fun H1 e Q q => h H1 e Q fun H2 e2 => q v H2 e2 (hd _)
theorem evn_int {i : Int} (h : Ev te σ H (.int i)) : EvN K B te σ H (.int i) := evn_v h fun _ => .int i
theorem evn_bl {b : Bool} (h : Ev te σ H (.bl b)) : EvN K B te σ H (.bool b) := evn_v h fun _ => .bl b
theorem evn_str {w : Str} (h : Ev te σ H (.str w)) : EvN K B te σ H (.str w) := evn_v h fun _ => .str w
theorem evn_non (h : Ev te σ H .non) : EvN K B te σ H .none := evn_v h fun _ => .non
theorem evn_ref (hb : Ex B H) (h : Ev te σ H v) (hd : Dp K B v d) : EvN K B te σ H d := fun H1 e Q q => h H1 e Q fun H2 e2 => q v H2 e2 (dp_mono (sep_base (hb.trans (e.trans e2))) hd)
/-- a new list of what is data in B -/
theorem evn_l (hb : Ex B H) (h : EvL te σ H xs) (hd : DpAll K B xs ds) : EvN K B te σ H (.list ds) := fun H1 e Q q => h H1 e Q fun p H2 hp e2 h2 => q _ H2 e2 (.lst (sq_of (sep_in h2 (.inl hp))) (dp_monoAll (sep_base (hb.trans (e.trans e2))) hd))
theorem dpAll_intsB {ns : List Int} {H1 : Hp} : DpAll K H1 (ns.map V.int) (ns.map PyData.int) := dpAll_ints ns
theorem evn_ints {ns : List Int} (h : EvL te σ H (ns.map V.int)) : EvN K B te σ H (dInts ns) := fun H1 e Q q => h H1 e Q fun p H2 hp e2 h2 => q _ H2 e2 (.lst (sq_of (sep_in h2 (.inl hp))) (dpAll_ints ns))
theorem evn_u (hb : Ex B H) (h : EvU te σ H xs) (hd : DpAll K B xs ds) : EvN K B te σ H (.tuple ds) := fun H1 e Q q => h H1 e Q fun p H2 hp e2 h2 => q _ H2 e2 (.tup (st_of (sep_in h2 (.inl hp))) (dp_monoAll (sep_base (hb.trans (e.trans e2))) hd))
theorem evan_nil : EvAN K B tNil σ H [] := fun H1 _ _ q => q [] H1 (Ex.refl H1) .nil
theorem evan_cons (h : EvN K B ta σ H d) (hr : EvAN K B tr σ H ds) : EvAN K B (tCons ta tr) σ H (d :: ds) := fun H1 e Q q =>
  h H1 e _ fun v H2 e2 hv => hr H2 (e.trans e2) _ fun vs H3 e3 hvs => q _ H3 (e2.trans e3) (.cons (dp_mono (sep_next e3) hv) (dp_monoAll (sep_prev e2) hvs))
theorem evn_lst (h : EvAN K B tA σ H ds) (hl : ds.length ≤ 100000) : EvN K B (tLst tA) σ H (.list ds) := fun H1 e Q q =>
  h H1 e _ fun vs H2 e2 hv => ⟨sz_of (by rw [dp_len hv]; exact hl), fun p hp => q _ _ (e2.trans (Ex.new hp)) (.lst (sq_of (sep_in upd_same (.inl (fresh_back e2 hp)))) (dp_monoAll (sep_next (Ex.new hp)) hv))⟩
theorem evn_tup (h : EvAN K B tA σ H ds) (hl : ds.length ≤ 100000) : EvN K B (tTup tA) σ H (.tuple ds) := fun H1 e Q q =>
  h H1 e _ fun vs H2 e2 hv => ⟨sz_of (by rw [dp_len hv]; exact hl), fun p hp => q _ _ (e2.trans (Ex.new hp)) (.tup (st_of (sep_in upd_same (.inl (fresh_back e2 hp)))) (dp_monoAll (sep_next (Ex.new hp)) hv))⟩
theorem evn_if {b : Bool} (h : EvT tt σ H b) (h1 : b = true → EvN K B ta σ H d) (h2 : b = false → EvN K B tb σ H d) : EvN K B (tIf tt ta tb) σ H d := fun H1 e Q q => h H1 e _ fun H2 e2 => by
  cases b with
  | true => rw [if_pos rfl]; exact h1 rfl H2 (e.trans e2) Q fun v H3 e3 hv => q v H3 (e2.trans e3) (dp_mono (sep_prev e2) hv)
  | false => rw [if_neg (by decide)]; exact h2 rfl H2 (e.trans e2) Q fun v H3 e3 hv => q v H3 (e2.trans e3) (dp_mono (sep_prev e2) hv)
/-- a def whose promise gives data -/
theorem evn_call (ha : EvA tA σ H vs) (hs : SpN K B sp (vs ++ dvs) H d) : EvN K B (tCall sp dvs E tA) σ H d := fun H1 e Q q =>
  ha H1 e _ fun H2 e2 => hs H2 (e.trans e2) Q (fun v H3 e3 h3 => q v H3 (e2.trans e3) (dp_mono (sep_prev e2) h3)) E
theorem evn_meth (h : Ev ta σ H (.ref p)) (ho : H p = some (.ins C dx fs)) (hl : fs.lookup m = none) (ha : EvA tA σ H vs) (hs : SpN K B sp (.ref p :: (vs ++ dvs)) H d) : EvN K B (tMeth C m sp dvs E ta tA) σ H d := fun H1 e Q q =>
  h H1 e _ fun H2 e2 => ⟨p, dx, fs, rfl, (e.trans e2) p _ ho, hl, ha H2 (e.trans e2) _ fun H3 e3 => hs H3 ((e.trans e2).trans e3) Q (fun v H4 e4 h4 => q v H4 ((e2.trans e3).trans e4) (dp_mono (sep_prev (e2.trans e3)) h4)) E⟩
/-- a def that is given data: its promise holds for whatever heap the data stand in -/
def SpF (K : PySem.W.Frag) (sp : Sp) (ds : List PyData) (d : PyData) : Prop := ∀ (B H : Hp) (vs : List V), Ex B H → DpAll K B vs ds → ∀ Q : VK, RetN K B d H Q → ∀ E : XK, sp vs H Q E
theorem evn_callF (hb : Ex B H) (ha : EvAN K B tA σ H ds) (hs : SpF K sp ds d) : EvN K B (tCall sp [] E tA) σ H d := fun H1 e Q q =>
  ha H1 e _ fun vs H2 e2 hv => hs (Sep B H1 H2) H2 (vs ++ []) sep_ex (by rw [List.append_nil]; exact hv) Q (fun v H3 e3 h3 => q v H3 (e2.trans e3) (dp_mono (sep_sep e2) h3)) E
/-- [e for x in a list], e data -/
theorem evn_lcL (hb : Ex B H) (h : Ev tl σ H (.ref a)) (hx : SqL K H a xs) (hz : xs.length ≤ 40000) (hw : ∀ x, wipe ((wipe σ js).set j (some x)) js = wipe σ js) (hl : ds.length = xs.length)
    (he : ∀ (i : Nat) (x : V) (d : PyData), xs[i]? = some x → ds[i]? = some d → EvN K B te ((wipe σ js).set j (some x)) H d) : EvN K B (tLc (iList K tl) (gName j) tYes te js) σ H (.list ds) := fun H1 e Q q => h H1 e _ fun H2 e2 => ⟨a, rfl, ⟨xs, ex_l (e.trans e2) hx⟩, fun Dl hD => by
  have hB : B Dl = none := fresh_back (hb.trans (e.trans e2)) hD
  have h1D : H1 Dl = none := fresh_back e2 hD
  refine lc_list (xs := xs) (fun i H' => ∃ ys, Ex H2 H' ∧ H' Dl = some (.lst ys) ∧ DpAll K (Sep B H1 (del H' Dl)) ys (ds.take i)) ⟨[], Ex.new hD, upd_same, by rw [List.take_zero]; exact .nil⟩ (fun i H' _ p => ?_) (fun i x H' hi p => ?_) (fun H' p => ?_)
  · obtain ⟨ys, e3, _, _⟩ := p
    exact ex_l ((e.trans e2).trans e3) hx
  · obtain ⟨ys, e3, hy, hd⟩ := p
    have hlt : i < xs.length := (List.getElem?_eq_some_iff.mp hi).1
    obtain ⟨d0, hd0⟩ : ∃ d0, ds[i]? = some d0 := ⟨ds[i], List.getElem?_eq_getElem (by omega)⟩
    refine ⟨hw x, ?_⟩
    unfold tYes
    refine iteT ?_
    refine he i x d0 hi hd0 H' ((e.trans e2).trans e3) _ fun v H3 e4 hv => ⟨ys, e4 Dl _ hy, ?_, ys ++ [v], Ex.mut (e3.trans e4) hD, upd_same, ?_⟩
    · have := dp_len hd
      rw [this, List.length_take]
      exact sz_lt (by omega)
    · have hn : H' Dl ≠ none := by rw [hy]; exact fun z => by cases z
      have f1 : Ex (Sep B H' H3) (Sep B H1 (del (upd H3 Dl (.lst (ys ++ [v]))) Dl)) := fun b o hbo => by
        obtain ⟨q1, q2⟩ := sep_out hbo
        have hbD : b ≠ Dl := fun z => by subst z; rw [sep_off hn hB] at hbo; cases hbo
        exact sep_in (by rw [del_ne hbD, upd_ne hbD]; exact q2) (q1.imp (fresh_back (e2.trans e3)) id)
      have f2 : Ex (Sep B H1 (del H' Dl)) (Sep B H1 (del (upd H3 Dl (.lst (ys ++ [v]))) Dl)) := fun b o hbo => by
        obtain ⟨q1, q2⟩ := sep_out hbo
        have hbD : b ≠ Dl := fun z => by subst z; rw [del_same] at q2; cases q2
        rw [del_ne hbD] at q2
        exact sep_in (by rw [del_ne hbD, upd_ne hbD]; exact e4 b o q2) q1
      have et : ds.take (i + 1) = ds.take i ++ [d0] := by rw [List.take_add_one, hd0] <;> rfl
      rw [et]
      exact dp_app (dp_monoAll f2 hd) (.cons (dp_mono f1 hv) .nil)
  · obtain ⟨ys, e3, hy, hd⟩ := p
    rw [← hl, List.take_length] at hd
    have f3 : Ex (Sep B H1 (del H' Dl)) (Sep B H1 H') := fun b o hbo => by
      obtain ⟨q1, q2⟩ := sep_out hbo
      have hbD : b ≠ Dl := fun z => by subst z; rw [del_same] at q2; cases q2
      rw [del_ne hbD] at q2
      exact sep_in q2 q1
    exact q _ H' (e2.trans e3) (.lst (sq_of (sep_in hy (.inl h1D))) (dp_monoAll f3 hd))⟩
/-- the statements -/
theorem q_asgN (h : EvN K B te σ H d) (k : ∀ v H1, Ex H H1 → Dp K (Sep B H H1) v d → tz D (σ.set i (some v)) H1) : tSeq (tAsg te (gName i)) tz D σ H := h H (Ex.refl H) _ k
theorem s_retN (h : EvN K B te σ H d) (k : ∀ v H1, Ex H H1 → Dp K (Sep B H H1) v d → D.rt v H1) : tRet te D σ H := h H (Ex.refl H) _ k
end G
end
section
namespace TM
/-! the mathematics of rounds and of the pace -/
def it (f : Int → Int) : Nat → Int → Int
  | 0, x => x
  | k + 1, x => f (it f k x)
section
variable {f : Int → Int} {n : Nat}
theorem it_add (j k : Nat) (x : Int) : it f (j + k) x = it f j (it f k x) := by
  induction j with
  | zero => rw [Nat.zero_add]; rfl
  | succ j ih => rw [show j + 1 + k = (j + k) + 1 by omega]; show f (it f (j + k) x) = f (it f j (it f k x)); rw [ih]
theorem it_succ' (k : Nat) (x : Int) : it f (k + 1) x = it f k (f x) := it_add k 1 x
theorem it_mul (j k : Nat) (x : Int) : it f (j * k) x = it (it f k) j x := by
  induction j with
  | zero => rw [Nat.zero_mul]; rfl
  | succ j ih => rw [Nat.succ_mul, Nat.add_comm, it_add, ih]; rfl
theorem it_comm (j k : Nat) (x : Int) : it f j (it f k x) = it f k (it f j x) := by rw [← it_add, ← it_add, Nat.add_comm]
theorem it_mono (m : Mono f) (k : Nat) : Mono (it f k) := by
  induction k with
  | zero => exact fun d e h => h
  | succ k ih => exact fun d e h => m _ _ (ih d e h)
theorem it_per {c : Int} (p : Per f c) (k : Nat) : Per (it f k) c := by
  induction k with
  | zero => exact fun x => rfl
  | succ k ih => exact fun x => by show f (it f k (x + c)) = f (it f k x) + c; rw [ih, p]
theorem Rule.it (r : Rule n f) (k : Nat) : Rule n (TM.it f k) := ⟨r.pos, r.most, it_mono r.mono k, it_per r.per k⟩
theorem it_shift (r : Rule n f) (k : Nat) (x t : Int) : it f k (x + t * (n : Int)) = it f k x + t * (n : Int) := it_per (per_times r.per t) k x
theorem it_up {c x : Int} (m : Mono f) (p : ∀ j : Nat, Per f (c * (j : Int))) (h : x + c ≤ f x) (j : Nat) : x + c * (j : Int) ≤ it f j x := by
  induction j with
  | zero => simp [it]
  | succ j ih =>
    have h1 := m _ _ ih
    rw [p j x] at h1
    show x + c * ((j + 1 : Nat) : Int) ≤ f (it f j x)
    rw [Int.natCast_succ, Int.mul_add, Int.mul_one]
    omega
theorem it_down {c x : Int} (m : Mono f) (p : ∀ j : Nat, Per f (c * (j : Int))) (h : f x ≤ x + c) (j : Nat) : it f j x ≤ x + c * (j : Int) := by
  induction j with
  | zero => simp [it]
  | succ j ih =>
    have h1 := m _ _ ih
    rw [p j x] at h1
    show f (it f j x) ≤ x + c * ((j + 1 : Nat) : Int)
    rw [Int.natCast_succ, Int.mul_add, Int.mul_one]
    omega
theorem per_all (r : Rule n f) (k : Nat) {c : Int} (hc : ∃ t : Int, c = t * (n : Int)) (j : Nat) : Per (it f k) (c * (j : Int)) := by
  obtain ⟨t, rfl⟩ := hc
  rw [Int.mul_right_comm]
  exact it_per (per_times r.per (t * (j : Int))) k
/-- who goes at most c days in k askings goes no faster than who goes at least a days in m -/
theorem rate_le (r : Rule n f) {k m : Nat} {x y c a : Int} (hc : ∃ t : Int, c = t * (n : Int)) (ha : ∃ t : Int, a = t * (n : Int)) (hx : it f k x ≤ x + c) (hy : y + a ≤ it f m y) : a * (k : Int) ≤ c * (m : Int) := by
  refine Classical.byContradiction fun hne => ?_
  have hpos := r.pos
  have d1 : ∃ d : Int, y ≤ x + d * (n : Int) := ⟨((y - x).natAbs : Int), by
    have h1 : ((y - x).natAbs : Int) * 1 ≤ ((y - x).natAbs : Int) * (n : Int) := Int.mul_le_mul_of_nonneg_left (by omega) (by omega)
    omega⟩
  obtain ⟨d, hd⟩ := d1
  have key : ∀ j : Nat, y + a * (k : Int) * (j : Int) ≤ x + c * (m : Int) * (j : Int) + d * (n : Int) := fun j => by
    have u := it_up (f := it f m) (it_mono r.mono m) (per_all r m ha) hy (k * j)
    have l := it_down (f := it f k) (it_mono r.mono k) (per_all r k hc) hx (m * j)
    rw [← it_mul] at u l
    have e : m * j * k = k * j * m := by rw [Nat.mul_right_comm, Nat.mul_comm m k, Nat.mul_right_comm]
    rw [e] at l
    have s := it_mono r.mono (k * j * m) _ _ hd
    rw [it_shift r] at s
    rw [Int.natCast_mul, ← Int.mul_assoc] at u l
    omega
  have h1 := key ((x + d * (n : Int) - y).natAbs + 1)
  have h2 : 1 ≤ a * (k : Int) - c * (m : Int) := by omega
  have h3 : 1 * (((x + d * (n : Int) - y).natAbs + 1 : Nat) : Int) ≤ (a * (k : Int) - c * (m : Int)) * (((x + d * (n : Int) - y).natAbs + 1 : Nat) : Int) := Int.mul_le_mul_of_nonneg_right h2 (by omega)
  rw [Int.sub_mul] at h3
  omega
theorem rate_eq (r : Rule n f) {k m : Nat} {x y c a : Int} (hc : ∃ t : Int, c = t * (n : Int)) (ha : ∃ t : Int, a = t * (n : Int)) (hx : it f k x = x + c) (hy : it f m y = y + a) : a * (k : Int) = c * (m : Int) :=
  Int.le_antisymm (rate_le r hc ha (Int.le_of_eq hx) (Int.le_of_eq hy.symm)) (rate_le r ha hc (Int.le_of_eq hy) (Int.le_of_eq hx.symm))
/-- nobody strays a whole length from the pace -/
theorem rate_near (r : Rule n f) {m : Nat} {y a : Int} (hm : 1 ≤ m) (ha : ∃ t : Int, a = t * (n : Int)) (hy : it f m y = y + a) (k : Nat) (x : Int) :
    (it f k x - x) * (m : Int) - (k : Int) * a < (n : Int) * (m : Int) ∧ (k : Int) * a - (it f k x - x) * (m : Int) < (n : Int) * (m : Int) := by
  have hp := r.pos
  have hn0 : (n : Int) ≠ 0 := by omega
  generalize hg : it f k x - x = g
  have e0 := Int.mul_ediv_add_emod g n
  have e1 := Int.emod_nonneg g hn0
  have e2 := Int.emod_lt_of_pos g (show (0 : Int) < n by omega)
  have m1 : (1 : Int) ≤ (m : Int) := by omega
  constructor
  · have h := rate_le r (k := m) (m := k) (x := y) (y := x) (c := a) (a := g / n * n) ha ⟨_, rfl⟩ (by omega) (by rw [Int.mul_comm]; omega)
    have h3 : (g - g / n * n) * (m : Int) ≤ ((n : Int) - 1) * (m : Int) := Int.mul_le_mul_of_nonneg_right (by rw [Int.mul_comm]; omega) (by omega)
    rw [Int.sub_mul, Int.sub_mul, Int.one_mul] at h3
    rw [Int.mul_comm (k : Int) a]
    omega
  · have e0' := Int.mul_ediv_add_emod (g + n - 1) n
    have e1' := Int.emod_nonneg (g + n - 1) hn0
    have e2' := Int.emod_lt_of_pos (g + n - 1) (show (0 : Int) < n by omega)
    have h := rate_le r (k := k) (m := m) (x := x) (y := y) (c := (g + n - 1) / n * n) (a := a) ⟨_, rfl⟩ ha (by rw [Int.mul_comm]; omega) (by omega)
    have h3 : ((g + n - 1) / n * n - g) * (m : Int) ≤ ((n : Int) - 1) * (m : Int) := Int.mul_le_mul_of_nonneg_right (by rw [Int.mul_comm]; omega) (by omega)
    rw [Int.sub_mul, Int.sub_mul, Int.one_mul] at h3
    rw [Int.mul_comm (k : Int) a]
    omega
end
/-! ### lowest terms -/
def lowA (a : Int) (m : Nat) : Int := a / ((Nat.gcd a.natAbs m : Nat) : Int)
def lowB (a : Int) (m : Nat) : Nat := m / Nat.gcd a.natAbs m
theorem low_spec (a : Int) {m : Nat} (h : 1 ≤ m) : ∃ g : Nat, 1 ≤ g ∧ g = Nat.gcd a.natAbs m ∧ a = lowA a m * (g : Int) ∧ m = lowB a m * g ∧ Nat.gcd (lowA a m).natAbs (lowB a m) = 1 := by
  have hg : 1 ≤ Nat.gcd a.natAbs m := Nat.gcd_pos_of_pos_right _ h
  have d1 : ((Nat.gcd a.natAbs m : Nat) : Int) ∣ a := by
    have := Nat.gcd_dvd_left a.natAbs m
    exact Int.ofNat_dvd_left.mpr this
  have d2 := Nat.gcd_dvd_right a.natAbs m
  have ea : a = lowA a m * ((Nat.gcd a.natAbs m : Nat) : Int) := (Int.ediv_mul_cancel d1).symm
  have em : m = lowB a m * Nat.gcd a.natAbs m := (Nat.div_mul_cancel d2).symm
  refine ⟨_, hg, rfl, ea, em, ?_⟩
  have e1 : (lowA a m).natAbs * Nat.gcd a.natAbs m = a.natAbs := by
    have := congrArg Int.natAbs ea
    rw [Int.natAbs_mul, Int.natAbs_natCast] at this
    exact this.symm
  have h2 : Nat.gcd ((lowA a m).natAbs * Nat.gcd a.natAbs m) (lowB a m * Nat.gcd a.natAbs m) = Nat.gcd a.natAbs m := by rw [e1, ← em]
  rw [Nat.gcd_mul_right] at h2
  have h3 : Nat.gcd (lowA a m).natAbs (lowB a m) * Nat.gcd a.natAbs m = 1 * Nat.gcd a.natAbs m := by rw [h2, Nat.one_mul]
  exact Nat.eq_of_mul_eq_mul_right (by omega) h3
theorem low_eq {a c : Int} {m k : Nat} (hm : 1 ≤ m) (hk : 1 ≤ k) (h : a * (k : Int) = c * (m : Int)) : lowA a m = lowA c k ∧ lowB a m = lowB c k := by
  obtain ⟨g, g1, _, ea, em, co⟩ := low_spec a hm
  obtain ⟨g', g1', _, ec, ek, co'⟩ := low_spec c hk
  generalize lowA a m = a' at *
  generalize lowB a m = m' at *
  generalize lowA c k = c' at *
  generalize lowB c k = k' at *
  subst ea em ec ek
  have hg0 : ((g : Int) * (g' : Int)) ≠ 0 := Int.mul_ne_zero (by omega) (by omega)
  have e : a' * (k' : Int) = c' * (m' : Int) := by
    rw [Int.natCast_mul, Int.natCast_mul] at h
    have h' : a' * (k' : Int) * ((g : Int) * (g' : Int)) = c' * (m' : Int) * ((g : Int) * (g' : Int)) := by
      calc a' * (k' : Int) * ((g : Int) * (g' : Int)) = a' * (g : Int) * ((k' : Int) * (g' : Int)) := by ac_rfl
        _ = c' * (g' : Int) * ((m' : Int) * (g : Int)) := h
        _ = c' * (m' : Int) * ((g : Int) * (g' : Int)) := by ac_rfl
    exact Int.eq_of_mul_eq_mul_right hg0 h'
  have en : a'.natAbs * k' = c'.natAbs * m' := by
    have := congrArg Int.natAbs e
    rwa [Int.natAbs_mul, Int.natAbs_mul, Int.natAbs_natCast, Int.natAbs_natCast] at this
  have d1 : m' ∣ k' := Nat.Coprime.dvd_of_dvd_mul_left (show Nat.Coprime m' a'.natAbs from (Nat.gcd_comm _ _).trans co) ⟨c'.natAbs, by rw [en, Nat.mul_comm]⟩
  have d2 : k' ∣ m' := Nat.Coprime.dvd_of_dvd_mul_left (show Nat.Coprime k' c'.natAbs from (Nat.gcd_comm _ _).trans co') ⟨a'.natAbs, by rw [← en, Nat.mul_comm]⟩
  have emk : m' = k' := Nat.dvd_antisymm d1 d2
  subst emk
  have hm0 : (m' : Int) ≠ 0 := by
    intro z
    have : m' = 0 := by omega
    subst this
    omega
  exact ⟨Int.eq_of_mul_eq_mul_right hm0 e, rfl⟩
end TM
end
section
namespace TM
theorem mod0 {n : Nat} {z : Int} : z % (n : Int) = 0 ↔ ∃ t : Int, z = t * (n : Int) := by
  constructor
  · intro h
    obtain ⟨t, ht⟩ := Int.dvd_of_emod_eq_zero h
    exact ⟨t, by rw [ht, Int.mul_comm]⟩
  · rintro ⟨t, rfl⟩
    exact Int.mul_emod_left _ _
theorem mod_eq {n : Nat} {x y : Int} : x % (n : Int) = y % (n : Int) ↔ (x - y) % (n : Int) = 0 := Int.emod_eq_emod_iff_emod_sub_eq_zero
theorem mod_shift {n : Nat} (x t : Int) : (x + t * (n : Int)) % (n : Int) = x % (n : Int) := Int.add_mul_emod_self_right ..
theorem mod_as (n : Nat) (x : Int) : ∃ t : Int, x % (n : Int) = x + t * (n : Int) := ⟨-(x / n), by
  have := Int.mul_ediv_add_emod x n
  rw [Int.neg_mul, Int.mul_comm]
  omega⟩
theorem nodup_len {α : Type} [DecidableEq α] : ∀ {l m : List α}, l.Nodup → (∀ k ∈ l, k ∈ m) → l.length ≤ m.length
  | [], _, _, _ => Nat.zero_le _
  | x :: l, m, hn, hs => by
    obtain ⟨h1, h2⟩ := List.nodup_cons.mp hn
    have hx : x ∈ m := hs x List.mem_cons_self
    have := nodup_len (l := l) (m := m.erase x) h2 fun y hy => (List.mem_erase_of_ne fun e => h1 (by rw [← e]; exact hy)).mpr (hs y (List.mem_cons_of_mem _ hy))
    rw [List.length_erase_of_mem hx] at this
    have := List.length_pos_of_mem hx
    rw [List.length_cons]
    omega
theorem least_nat {P : Nat → Prop} (h : ∃ j, P j) : ∃ m, P m ∧ ∀ j, j < m → ¬ P j := by
  obtain ⟨j, hj⟩ := h
  induction j using Nat.strongRecOn with
  | ind j ih =>
    by_cases h : ∃ i, i < j ∧ P i
    · obtain ⟨i, hi, hp⟩ := h
      exact ih i hi hp
    · exact ⟨j, hj, fun i hi hp => h ⟨i, hi, hp⟩⟩
/-- m askings after x the position is back for the first time -/
structure Ret (n : Nat) (f : Int → Int) (x : Int) (m : Nat) : Prop where
  pos : 1 ≤ m
  back : (it f m x - x) % (n : Int) = 0
  first : ∀ j, 1 ≤ j → j < m → (it f j x - x) % (n : Int) ≠ 0
section
variable {f : Int → Int} {n m : Nat} {x : Int}
theorem Ret.adv (R : Ret n f x m) : ∃ t : Int, it f m x = x + t * (n : Int) := by
  obtain ⟨t, ht⟩ := mod0.mp R.back
  exact ⟨t, by omega⟩
theorem ret_of_back {j : Nat} (h1 : 1 ≤ j) (h : (it f j x - x) % (n : Int) = 0) : ∃ m, m ≤ j ∧ Ret n f x m := by
  obtain ⟨m, ⟨a, b⟩, hm⟩ := least_nat (P := fun j => 1 ≤ j ∧ (it f j x - x) % (n : Int) = 0) ⟨j, h1, h⟩
  refine ⟨m, Classical.byContradiction fun q => hm j (by omega) ⟨h1, h⟩, a, b, fun i i1 i2 hi => hm i i2 ⟨i1, hi⟩⟩
theorem Ret.uniq {k : Nat} (R : Ret n f x m) (S : Ret n f x k) : m = k := by
  by_cases h : m < k
  · exact absurd R.back (S.first m R.pos h)
  · by_cases h2 : k < m
    · exact absurd S.back (R.first k S.pos h2)
    · omega
theorem Ret.shift (r : Rule n f) (R : Ret n f x m) (t : Int) : Ret n f (x + t * (n : Int)) m := by
  have e : ∀ j, it f j (x + t * (n : Int)) - (x + t * (n : Int)) = it f j x - x := fun j => by rw [it_shift r]; omega
  exact ⟨R.pos, by rw [e]; exact R.back, fun j h1 h2 => by rw [e]; exact R.first j h1 h2⟩
theorem Ret.place (r : Rule n f) (R : Ret n f x m) : Ret n f (x % (n : Int)) m := by
  obtain ⟨t, ht⟩ := mod_as n x
  rw [ht]
  exact R.shift r t
theorem Ret.many (r : Rule n f) (R : Ret n f x m) (q : Nat) : ∃ t : Int, it f (m * q) x = x + t * (n : Int) := by
  induction q with
  | zero => exact ⟨0, by rw [Nat.mul_zero, Int.zero_mul]; show x = x + 0; omega⟩
  | succ q ih =>
    obtain ⟨t, ht⟩ := ih
    obtain ⟨s, hs⟩ := R.adv
    refine ⟨s + t, ?_⟩
    rw [Nat.mul_succ, it_add, hs, it_shift r, ht, Int.add_mul]
    omega
theorem it_cong (r : Rule n f) {y : Int} (k : Nat) (h : (x - y) % (n : Int) = 0) : (it f k x - it f k y) % (n : Int) = 0 := by
  obtain ⟨t, ht⟩ := mod0.mp h
  have e : x = y + t * (n : Int) := by omega
  rw [e, it_shift r]
  exact mod0.mpr ⟨t, by omega⟩
theorem Ret.next (r : Rule n f) (R : Ret n f x m) (k : Nat) : Ret n f (it f k x) m := by
  refine ⟨R.pos, ?_, fun j h1 h2 h => R.first j h1 h2 ?_⟩
  · obtain ⟨t, ht⟩ := R.adv
    rw [it_comm, ht, it_shift r]
    exact mod0.mpr ⟨t, by omega⟩
  · have hk : m * k - k + k = m * k := by
      have : k ≤ m * k := Nat.le_mul_of_pos_left k R.pos
      omega
    obtain ⟨t, ht⟩ := R.many r k
    have c := it_cong r (m * k - k) h
    rw [it_comm j k, ← it_add (m * k - k) k (it f j x), hk, ← it_add (m * k - k) k x, hk, it_comm (m * k) j, ht, it_shift r] at c
    have e : it f j x + t * (n : Int) - (x + t * (n : Int)) = it f j x - x := by omega
    rwa [e] at c
theorem place_lt (r : Rule n f) (y : Int) : 0 ≤ y % (n : Int) ∧ y % (n : Int) < (n : Int) := by
  have := r.pos
  exact ⟨Int.emod_nonneg _ (by omega), Int.emod_lt_of_pos _ (by omega)⟩
/-- so many places that differ are at most n -/
theorem places_le (r : Rule n f) {k : Nat} (h : ∀ i j, i < j → j < k → it f i x % (n : Int) ≠ it f j x % (n : Int)) : k ≤ n := by
  have hn : ((List.range k).map fun j => (it f j x % (n : Int)).toNat).Nodup := by
    refine List.pairwise_map.mpr ?_
    refine List.Pairwise.imp_of_mem ?_ List.pairwise_lt_range
    intro i j hi hj hij e
    have a := place_lt r (it f i x)
    have b := place_lt r (it f j x)
    exact h i j hij (List.mem_range.mp hj) (by omega)
  have := nodup_len hn (m := List.range n) fun z hz => by
    obtain ⟨j, _, rfl⟩ := List.mem_map.mp hz
    have a := place_lt r (it f j x)
    exact List.mem_range.mpr (by omega)
  rwa [List.length_map, List.length_range, List.length_range] at this
theorem Ret.apart (r : Rule n f) (R : Ret n f x m) {i j : Nat} (h : i < j) (hj : j < m) : it f i x % (n : Int) ≠ it f j x % (n : Int) := fun e => by
  have c := mod_eq.mp e.symm
  have S := R.next r i
  have e2 : it f j x = it f (j - i) (it f i x) := by rw [← it_add]; congr 1; omega
  rw [e2] at c
  exact S.first (j - i) (by omega) (by omega) c
theorem Ret.le (r : Rule n f) (R : Ret n f x m) : m ≤ n := places_le r fun i j h1 h2 => R.apart r h1 h2
/-- n askings later every day goes round -/
theorem ret_run (r : Rule n f) (x : Int) : ∃ m, Ret n f (it f n x) m := by
  have h : ∃ i j, i < j ∧ j < n + 1 ∧ it f i x % (n : Int) = it f j x % (n : Int) := Classical.byContradiction fun q => by
    have := places_le r (x := x) (k := n + 1) fun i j h1 h2 h3 => q ⟨i, j, h1, h2, h3⟩
    omega
  obtain ⟨i, j, h1, h2, h3⟩ := h
  have c := it_cong r (n - i) (mod_eq.mp h3.symm)
  rw [← it_add, ← it_add, show n - i + i = n by omega, show n - i + j = (j - i) + n by omega, it_add] at c
  obtain ⟨m, _, R⟩ := ret_of_back (show 1 ≤ j - i by omega) c
  exact ⟨m, R⟩
theorem Ret.turn (r : Rule n f) (R : Ret n f x m) (j : Nat) : it f j x % (n : Int) = it f (j % m) x % (n : Int) := by
  obtain ⟨t, ht⟩ := R.many r (j / m)
  have e := Nat.mod_add_div j m
  have e2 : it f j x = it f (j % m) (it f (m * (j / m)) x) := by rw [← it_add, e]
  rw [e2, ht, it_shift r, mod_shift]
/-- the least place of its round -/
structure Rep (n : Nat) (f : Int → Int) (p : Int) (m : Nat) : Prop where
  lo : 0 ≤ p
  hi : p < (n : Int)
  ret : Ret n f p m
  min : ∀ j, p ≤ it f j p % (n : Int)
theorem Rep.mod {p : Int} (R : Rep n f p m) : p % (n : Int) = p := Int.emod_eq_of_lt R.lo R.hi
theorem rep_of (r : Rule n f) (R : Ret n f x m) {p : Int} {j : Nat} (hp : p = it f j x % (n : Int)) (hm : ∀ i, i < m → p ≤ it f i x % (n : Int)) : Rep n f p m := by
  subst hp
  have b := place_lt r (it f j x)
  refine ⟨b.1, b.2, (R.next r j).place r, fun i => ?_⟩
  obtain ⟨t, ht⟩ := mod_as n (it f j x)
  have e : it f i (it f j x % (n : Int)) % (n : Int) = it f ((i + j) % m) x % (n : Int) := by rw [ht, it_shift r, mod_shift, ← it_add, R.turn r]
  rw [e]
  exact hm _ (Nat.mod_lt _ R.pos)
theorem rep_ex (r : Rule n f) (R : Ret n f x m) : ∃ (j : Nat) (p : Int), j < m ∧ p = it f j x % (n : Int) ∧ Rep n f p m ∧ ∀ i, i < m → p ≤ it f i x % (n : Int) := by
  obtain ⟨v, ⟨j, hj, hv⟩, hm⟩ := least_nat (P := fun v => ∃ j, j < m ∧ it f j x % (n : Int) = (v : Int)) ⟨(it f 0 x % (n : Int)).toNat, 0, R.pos, by have := place_lt r (it f 0 x); omega⟩
  have hmin : ∀ i, i < m → (v : Int) ≤ it f i x % (n : Int) := fun i hi => Classical.byContradiction fun q => by
    have b := place_lt r (it f i x)
    exact hm (it f i x % (n : Int)).toNat (by omega) ⟨i, hi, by omega⟩
  exact ⟨j, v, hj, hv.symm, rep_of r R hv.symm hmin, hmin⟩
theorem Rep.uniq (r : Rule n f) {p q : Int} {k : Nat} (A : Rep n f p m) (B : Rep n f q k) {j : Nat} (h : p = it f j q % (n : Int)) : p = q := by
  have h1 := B.min j
  have hk : k * j - j + j = k * j := by
    have : j ≤ k * j := Nat.le_mul_of_pos_left j B.ret.pos
    omega
  obtain ⟨t, ht⟩ := B.ret.many r j
  obtain ⟨s, hs⟩ := mod_as n (it f j q)
  have h2 := A.min (k * j - j)
  rw [show it f (k * j - j) p = q + (t + s) * (n : Int) by rw [h, hs, it_shift r, ← it_add, hk, ht, Int.add_mul]; omega, mod_shift, B.mod] at h2
  omega
/-- the days of a round -/
def lap (f : Int → Int) (m : Nat) (x : Int) : List Int := (List.range m).map fun j => it f j x
theorem lap_len : (lap f m x).length = m := by unfold lap; rw [List.length_map, List.length_range]
theorem lap_get {j : Nat} (h : j < m) : (lap f m x).getD j 0 = it f j x := by
  unfold lap
  rw [List.getD_eq_getElem?_getD, List.getElem?_map, List.getElem?_range h]
  rfl
theorem lap_succ : lap f (m + 1) x = lap f m x ++ [it f m x] := by unfold lap; rw [List.range_succ, List.map_append]; rfl
theorem lap_last (h : 1 ≤ m) : (lap f m x).getD (m - 1) 0 = it f (m - 1) x := lap_get (by omega)
open Classical in
noncomputable def retN (n : Nat) (f : Int → Int) (x : Int) : Nat := if h : ∃ m, Ret n f x m then h.choose else 0
theorem retN_eq (R : Ret n f x m) : retN n f x = m := by
  unfold retN
  rw [dif_pos ⟨m, R⟩]
  exact (Exists.choose_spec (⟨m, R⟩ : ∃ m, Ret n f x m)).uniq R
open Classical in
noncomputable def reps (n : Nat) (f : Int → Int) : List Int := ((List.range n).map fun (i : Nat) => (i : Int)).filter fun p => decide (∃ m, Rep n f p m)
noncomputable def rings (n : Nat) (f : Int → Int) : List (List Int) := (reps n f).map fun p => lap f (retN n f p) p
open Classical in
theorem mem_reps {p : Int} : p ∈ reps n f ↔ ∃ m, Rep n f p m := by
  unfold reps
  rw [List.mem_filter, decide_eq_true_iff]
  constructor
  · exact fun h => h.2
  · intro ⟨m, R⟩
    refine ⟨List.mem_map.mpr ⟨p.toNat, List.mem_range.mpr ?_, ?_⟩, m, R⟩
    · have := R.lo; have := R.hi; omega
    · have := R.lo; omega
theorem Rep.ring {p : Int} (R : Rep n f p m) : lap f m p ∈ rings n f := List.mem_map.mpr ⟨p, mem_reps.mpr ⟨m, R⟩, by rw [retN_eq R.ret]⟩
theorem mem_rings {xs : List Int} : xs ∈ rings n f ↔ ∃ p m, Rep n f p m ∧ xs = lap f m p := by
  constructor
  · intro h
    obtain ⟨p, hp, rfl⟩ := List.mem_map.mp h
    obtain ⟨m, R⟩ := mem_reps.mp hp
    exact ⟨p, m, R, by rw [retN_eq R.ret]⟩
  · rintro ⟨p, m, R, rfl⟩
    exact R.ring
theorem reps_up : (reps n f).Pairwise (· < ·) := by
  unfold reps
  refine List.Pairwise.filter _ (List.pairwise_map.mpr ?_)
  exact List.Pairwise.imp (fun h => by omega) List.pairwise_lt_range
end
end TM
end
section
namespace TM
theorem asc_ext : ∀ {l m : List Int}, l.Pairwise (· < ·) → m.Pairwise (· < ·) → (∀ k, k ∈ l ↔ k ∈ m) → l = m
  | [], [], _, _, _ => rfl
  | [], y :: m, _, _, h => absurd ((h y).mpr List.mem_cons_self) (by simp)
  | x :: l, [], _, _, h => absurd ((h x).mp List.mem_cons_self) (by simp)
  | x :: l, y :: m, hl, hm, h => by
    obtain ⟨l1, l2⟩ := List.pairwise_cons.mp hl
    obtain ⟨m1, m2⟩ := List.pairwise_cons.mp hm
    have hx := (h x).mp List.mem_cons_self
    have hy := (h y).mpr List.mem_cons_self
    have e : x = y := by
      rcases List.mem_cons.mp hx with e | hx
      · exact e
      · rcases List.mem_cons.mp hy with e | hy
        · exact e.symm
        · have := m1 x hx
          have := l1 y hy
          omega
    subst e
    refine congrArg (x :: ·) (asc_ext l2 m2 fun k => ?_)
    constructor
    · intro hk
      rcases List.mem_cons.mp ((h k).mp (List.mem_cons_of_mem _ hk)) with e | q
      · have := l1 k hk
        omega
      · exact q
    · intro hk
      rcases List.mem_cons.mp ((h k).mpr (List.mem_cons_of_mem _ hk)) with e | q
      · have := m1 k hk
        omega
      · exact q
section
variable {f : Int → Int} {n : Nat}
open Classical in
/-- the places where one may stand after n askings -/
noncomputable def stay (n : Nat) (f : Int → Int) : List Int := ((List.range n).map fun (i : Nat) => (i : Int)).filter fun p => decide (∃ i : Nat, i < n ∧ p = it f n (i : Int) % (n : Int))
open Classical in
theorem mem_stay (r : Rule n f) {p : Int} : p ∈ stay n f ↔ ∃ i : Nat, i < n ∧ p = it f n (i : Int) % (n : Int) := by
  unfold stay
  rw [List.mem_filter, decide_eq_true_iff]
  constructor
  · exact fun h => h.2
  · rintro ⟨i, hi, hp⟩
    have b := place_lt r (it f n (i : Int))
    refine ⟨List.mem_map.mpr ⟨p.toNat, List.mem_range.mpr (by omega), by omega⟩, i, hi, hp⟩
theorem stay_up : (stay n f).Pairwise (· < ·) := by
  unfold stay
  refine List.Pairwise.filter _ (List.pairwise_map.mpr ?_)
  exact List.Pairwise.imp (fun h => by omega) List.pairwise_lt_range
theorem stay_len : (stay n f).length ≤ n := by
  unfold stay
  refine Nat.le_trans (List.length_filter_le _ _) ?_
  rw [List.length_map, List.length_range]
  exact Nat.le_refl _
theorem stay_ret (r : Rule n f) {p : Int} (h : p ∈ stay n f) : 0 ≤ p ∧ p < (n : Int) ∧ ∃ m, Ret n f p m := by
  obtain ⟨i, _, hp⟩ := (mem_stay r).mp h
  have b := place_lt r (it f n (i : Int))
  obtain ⟨m, R⟩ := ret_run r (i : Int)
  exact ⟨by omega, by omega, m, by rw [hp]; exact R.place r⟩
theorem Rep.stays (r : Rule n f) {p : Int} {m : Nat} (R : Rep n f p m) : p ∈ stay n f := by
  refine (mem_stay r).mpr ⟨(it f (m * n - n) p % (n : Int)).toNat, ?_, ?_⟩
  · have := place_lt r (it f (m * n - n) p)
    omega
  · have b := place_lt r (it f (m * n - n) p)
    obtain ⟨t, ht⟩ := mod_as n (it f (m * n - n) p)
    obtain ⟨s, hs⟩ := R.ret.many r n
    have hk : n + (m * n - n) = m * n := by
      have : n ≤ m * n := Nat.le_mul_of_pos_left n R.ret.pos
      omega
    rw [show (((it f (m * n - n) p % (n : Int)).toNat : Nat) : Int) = it f (m * n - n) p % (n : Int) by omega, ht, it_shift r, mod_shift, ← it_add, hk, hs, mod_shift, R.mod]
open Classical in
noncomputable def isRep (n : Nat) (f : Int → Int) (p : Int) : Bool := decide (∃ m, Rep n f p m)
open Classical in
theorem isRep_iff {p : Int} : isRep n f p = true ↔ ∃ m, Rep n f p m := by unfold isRep; exact decide_eq_true_iff
theorem stay_reps (r : Rule n f) : (stay n f).filter (isRep n f) = reps n f := by
  refine asc_ext (List.Pairwise.filter _ stay_up) reps_up fun k => ?_
  rw [List.mem_filter, isRep_iff, mem_reps]
  constructor
  · exact fun h => h.2
  · rintro ⟨m, R⟩
    exact ⟨R.stays r, m, R⟩
/-- the rounds found of the first i places -/
noncomputable def ringsTo (n : Nat) (f : Int → Int) (i : Nat) : List (List Int) := (((stay n f).take i).filter (isRep n f)).map fun p => lap f (retN n f p) p
theorem ringsTo_all (r : Rule n f) : ringsTo n f (stay n f).length = rings n f := by
  unfold ringsTo rings
  rw [List.take_length, stay_reps r]
/-- what is seen of the first i places -/
def Seen (n : Nat) (f : Int → Int) (i : Nat) (z : Int) : Prop := ∃ q m j, q ∈ (stay n f).take i ∧ Rep n f q m ∧ z = it f j q % (n : Int)
theorem take_at {α : Type} {l : List α} {i : Nat} {x : α} (h : l[i]? = some x) : l.take (i + 1) = l.take i ++ [x] := by
  rw [List.take_add_one, h]
  rfl
theorem take_lt {l : List Int} (h : l.Pairwise (· < ·)) {i : Nat} {x : Int} (hx : l[i]? = some x) {q : Int} : q ∈ l.take i ↔ q ∈ l ∧ q < x := by
  obtain ⟨hi, hx'⟩ := List.getElem?_eq_some_iff.mp hx
  have hp := List.pairwise_iff_getElem.mp h
  constructor
  · intro hq
    obtain ⟨j, hj, hq2⟩ := List.mem_iff_getElem.mp hq
    rw [List.length_take] at hj
    rw [List.getElem_take] at hq2
    refine ⟨by rw [← hq2]; exact List.getElem_mem _, ?_⟩
    rw [← hq2, ← hx']
    exact hp j i (by omega) hi (by omega)
  · rintro ⟨hq, hlt⟩
    obtain ⟨j, hj, hq2⟩ := List.mem_iff_getElem.mp hq
    have hji : j < i := by
      refine Classical.byContradiction fun z => ?_
      by_cases e : j = i
      · subst e; rw [hx'] at hq2; omega
      · have := hp i j hi hj (by omega)
        rw [hx', hq2] at this
        omega
    rw [List.mem_iff_getElem]
    exact ⟨j, by rw [List.length_take]; omega, by rw [List.getElem_take]; exact hq2⟩
/-- a place not seen yet is the least of its round -/
theorem rep_new (r : Rule n f) {i : Nat} {p : Int} (hp : (stay n f)[i]? = some p) : ¬ Seen n f i p → ∃ m, Rep n f p m := by
  intro hs
  obtain ⟨p0, p1, m, R⟩ := stay_ret r (List.mem_of_getElem? hp)
  obtain ⟨j, q, hj, hq, Rq, hmin⟩ := rep_ex r R
  have h0 := hmin 0 R.pos
  have hpm : p % (n : Int) = p := Int.emod_eq_of_lt p0 p1
  rw [show it f 0 p = p from rfl, hpm] at h0
  by_cases e : q = p
  · subst e
    exact ⟨m, Rq⟩
  · refine absurd ⟨q, m, m * j - j, (take_lt stay_up hp).mpr ⟨Rq.stays r, by omega⟩, Rq, ?_⟩ hs
    have hk : m * j - j + j = m * j := by
      have : j ≤ m * j := Nat.le_mul_of_pos_left j R.pos
      omega
    obtain ⟨t, ht⟩ := R.many r j
    obtain ⟨s, hs'⟩ := mod_as n (it f j p)
    rw [hq, hs', it_shift r, mod_shift, ← it_add, hk, ht, mod_shift, hpm]
theorem rep_old (r : Rule n f) {i : Nat} {p : Int} (hp : (stay n f)[i]? = some p) : Seen n f i p → ¬ ∃ m, Rep n f p m := by
  rintro ⟨q, m, j, hq, Rq, hpq⟩ ⟨k, Rp⟩
  have := Rp.uniq r Rq hpq
  have := ((take_lt stay_up hp).mp hq).2
  omega
theorem seen_zero {z : Int} : ¬ Seen n f 0 z := fun ⟨q, m, j, hq, _⟩ => by simp at hq
theorem seen_old {i : Nat} {p z : Int} (hp : (stay n f)[i]? = some p) (h : ¬ ∃ m, Rep n f p m) : Seen n f (i + 1) z ↔ Seen n f i z := by
  unfold Seen
  rw [take_at hp]
  constructor
  · rintro ⟨q, m, j, hq, R, hz⟩
    rcases List.mem_append.mp hq with hq | hq
    · exact ⟨q, m, j, hq, R, hz⟩
    · rw [List.mem_singleton] at hq
      subst hq
      exact absurd ⟨m, R⟩ h
  · rintro ⟨q, m, j, hq, R, hz⟩
    exact ⟨q, m, j, List.mem_append_left _ hq, R, hz⟩
theorem seen_new (r : Rule n f) {i m : Nat} {p z : Int} (hp : (stay n f)[i]? = some p) (R : Rep n f p m) : Seen n f (i + 1) z ↔ Seen n f i z ∨ ∃ j, j < m ∧ z = it f j p % (n : Int) := by
  unfold Seen
  rw [take_at hp]
  constructor
  · rintro ⟨q, k, j, hq, R', hz⟩
    rcases List.mem_append.mp hq with hq | hq
    · exact .inl ⟨q, k, j, hq, R', hz⟩
    · rw [List.mem_singleton] at hq
      subst hq
      exact .inr ⟨j % m, Nat.mod_lt _ R.ret.pos, by rw [hz, R.ret.turn r]⟩
  · rintro (⟨q, k, j, hq, R', hz⟩ | ⟨j, _, hz⟩)
    · exact ⟨q, k, j, List.mem_append_left _ hq, R', hz⟩
    · exact ⟨p, m, j, List.mem_append_right _ (List.mem_singleton.mpr rfl), R, hz⟩
theorem rings_old {i : Nat} {p : Int} (hp : (stay n f)[i]? = some p) (h : ¬ ∃ m, Rep n f p m) : ringsTo n f (i + 1) = ringsTo n f i := by
  unfold ringsTo
  have e : isRep n f p = false := by
    cases q : isRep n f p with
    | false => rfl
    | true => exact absurd (isRep_iff.mp q) h
  rw [take_at hp, List.filter_append, List.filter_cons, e]
  simp
theorem rings_new {i m : Nat} {p : Int} (hp : (stay n f)[i]? = some p) (R : Rep n f p m) : ringsTo n f (i + 1) = ringsTo n f i ++ [lap f m p] := by
  unfold ringsTo
  rw [take_at hp, List.filter_append, List.filter_cons, if_pos (isRep_iff.mpr ⟨m, R⟩), List.map_append]
  simp [retN_eq R.ret]
theorem ringsTo_len {i : Nat} : (ringsTo n f i).length ≤ n := by
  unfold ringsTo
  rw [List.length_map]
  refine Nat.le_trans (List.length_filter_le _ _) (Nat.le_trans ?_ (stay_len (n := n) (f := f)))
  rw [List.length_take]
  omega
end
end TM
end
section
set_option maxHeartbeats 2000000
/-! set(xs), whatever stands in xs: a list or a tuple is walked, and each item added -/
namespace ZS
open PySem PySem.Spec PyProof.Rows L2
open PySem.Froz (sObj)
section
variable {P : Program} {w : World} {A : Around} {E : Value → Shared → Prop} {s : Shared}
/-- nothing but the set at S and the count of tokens has changed, and J is true behind it -/
def Only (S : Addr) (J : Heap → Prop) (s s' : Shared) : Prop := ∃ h' tk, s' = { s with heap := h', toks := tk } ∧ Heap.SameBut S s.heap h' ∧ J h'
theorem fill {I S : Addr} {fp wr : List Addr} {n : Nat} {Pv : Nat → Value → Prop} {St : Nat → Heap → Prop} {J : Nat → Heap → Prop}
    (W : Walks P w A.in1 I fp wr n Pv St) (hS : S ∉ fp) (keep : ∀ i h h', J i h → (∀ b o, b ∉ wr → h.get? b = some o → h'.get? b = some o) → J i h')
    (add : ∀ i v (s : Shared) (E : Value → Shared → Prop), i < n → Pv i v → J i s.heap → wpAny (model P w) A.in1 (setAdd S v) (fun _ => Only S (J (i + 1)) s) E s) :
    ∀ (m i : Nat) (s : Shared), i + m = n → St i s.heap → J i s.heap → codeAny (model P w) A (.builtin "set.update.loop" ⟨[.ref S, .ref I], []⟩)
      (fun r s' => r = .ok (.ret .none) ∧ ∃ h' tk, s' = { s with heap := h', toks := tk } ∧ J n h' ∧ ∀ b o, b ≠ S → b ∉ wr → s.heap.get? b = some o → h'.get? b = some o) s
  | 0, i, s, e, st, j => by
    obtain rfl : i = n := e
    refine codeAny_builtin F.entry_set_update_loop (Around.under_plainId F.plain_set_update_loop _ ▸ ?_)
    exact wpAny_bind (m := pyNext (.ref I)) (W.done s _ _ st fun h' tk k => wpAny_pure ⟨rfl, h', tk, rfl, keep _ _ _ j k, fun b o _ => k b o⟩)
  | m + 1, i, s, e, st, j => by
    refine codeAny_builtin F.entry_set_update_loop (Around.under_plainId F.plain_set_update_loop _ ▸ ?_)
    refine wpAny_bind (m := pyNext (.ref I)) (W.item i s _ _ (by omega) st fun v h1 t1 pv st1 k => ?_)
    refine wpAny_bind (m := holding [v] (setAdd S v)) (wpAny_holding (wpAny_mono (add i v _ _ (by omega) pv (keep _ _ _ j k)) ?_ fun _ _ x => x))
    rintro _ _ ⟨h2, t2, rfl, sb, j2⟩
    refine wpAny_pure ⟨plainId_quiet F.plain_set_update_loop _, codeAny_mono (fill W hS keep add m (i + 1) _ (by omega) (W.frame _ _ _ st1 fun b hb o q => (sb.2 b fun z => hS (z ▸ hb)).trans q) j2) ?_⟩
    rintro _ _ ⟨rfl, h3, t3, rfl, j3, k3⟩
    exact ⟨rfl, h3, t3, rfl, j3, fun b o hb hw q => k3 b o hb hw ((sb.2 b hb).trans (k b o hw q))⟩
/-- a set that was just made -/
abbrev bare (w : World) : Obj := sObj "set" (#[], 0, .fresh 0 0 (!w.params.followText "set-order"))
theorem call_of {l : Addr} {T : String} {Q : Value → Shared → Prop} (hT : s.TypeIs (.ref l) T) (f1 : isSubtype (.type T) (.type "set") = pure false) (f2 : isSubtype (.type T) (.type "frozenset") = pure false)
    (f3 : (Value.type T == Value.type "dict") = false)
    (go : ∀ E', wpAny (model P w) A.in1.in1 (pyIter (.ref l)) (fun it s2 => codeAny (model P w) A.in1.in1 (.builtin "set.update.loop" ⟨[.ref s.heap.objs.size, it], []⟩) (fun r s3 => r = .ok (.ret .none) ∧ Q (.ref s.heap.objs.size) s3) s2) E' { s with heap := s.heap.push (bare w) }) :
    wpAny (model P w) A (call (.type "set") [.ref l]) Q E s := by
  have ft := PySem.F.called_set
  have made := ft.made
  have sub := ft.sub
  have no := ft.notType
  have can := ft.canCreate
  have one := PySem.F.typeCall_set_1 (.ref l)
  obtain ⟨_, _, mro⟩ := ft.mro
  refine wpAny_call (codeAny_of_tree (wpAny_pure ⟨Code.quiet_builtin _ (by decide +kernel), codeAny_builtin PySem.F.entry_type_call (Around.under_plain (weight_type_call_type "set" [.ref l] []) rfl ▸ ?_)⟩))
  repeat (any_goals (first | assumption | wp_step))
  refine codeAny_mono (R := wants (fun v t => v = .ref s.heap.objs.size ∧ t = { s with heap := s.heap.push (bare w) }) E) (code_set_led1 _ ⟨rfl, rfl⟩) ?_
  rintro (e | _ | v | _ | _) s1 h1 <;> try exact h1
  obtain ⟨rfl, rfl⟩ := h1
  have there : (s.heap.push (bare w)).get? s.heap.objs.size = some (bare w) := Heap.get?_push_size _ rfl
  have isS : Shared.TypeIs { s with heap := s.heap.push (bare w) } (.ref s.heap.objs.size) "set" := ⟨_, there, rfl⟩
  have look := ft.init.lookup
  have bnd := ft.init.bind (.ref s.heap.objs.size)
  repeat (any_goals (first | assumption | wp_step))
  refine codeAny_mono (R := wants (fun v s3 => v = .none ∧ Q (.ref s.heap.objs.size) s3) E) (codeAny_call_builtin ft.init.plain PySem.F.entry_set_init (check_set_init_1 isS ?_)) ?_
  · obtain ⟨o, ho, hc⟩ := hT
    have hT1 : Shared.TypeIs { s with heap := s.heap.push (bare w) } (.ref l) T := ⟨o, Heap.get?_push_of_some _ ho, hc⟩
    unfold Builtin.«set.__init__» noKeywords Builtin.Frozenset.updateFrom
    generalize hg : pyIter = G at go ⊢
    wp_walk
    refine wpAny_mono (go _) (fun it s2 h2 => wpAny_bind (wpAny_runValue (codeAny_mono h2 ?_))) fun _ _ x => x
    rintro _ s3 ⟨rfl, q⟩
    exact wpAny_pure (wpAny_pure ⟨rfl, q⟩)
  · rintro (e | _ | v | _ | _) s3 h3 <;> try exact h3
    obtain ⟨rfl, q⟩ := h3
    repeat (any_goals (first | assumption | wp_step))
theorem apart {l S : Nat} (h : l < S) : S ∉ [S + 1, l] ∧ l ≠ S + 1 ∧ l ∉ [S + 1] := by
  refine ⟨fun z => ?_, by omega, fun z => ?_⟩
  · rcases List.mem_cons.mp z with z | z
    · omega
    · have := List.mem_singleton.mp z
      omega
  · have := List.mem_singleton.mp z
    omega
/-- set(xs), xs a list or a tuple: what stays true as the items are added one by one -/
theorem call_set {l : Addr} {us : Array Value} {J : Nat → Heap → Prop} {Q : Value → Shared → Prop} (src : s.heap.IsList l us ∨ s.heap.IsTuple l us) (hh : A.handled = none)
    (j0 : ∀ h, h.get? s.heap.objs.size = some (bare w) → (∀ b o, s.heap.get? b = some o → h.get? b = some o) → J 0 h)
    (keep : ∀ i h h', J i h → (∀ b o, b ≠ s.heap.objs.size + 1 → h.get? b = some o → h'.get? b = some o) → J i h')
    (add : ∀ i v (s1 : Shared) (E : Value → Shared → Prop), us[i]? = some v → J i s1.heap → wpAny (model P w) A.in1.in1.in1 (setAdd s.heap.objs.size v) (fun _ => Only s.heap.objs.size (J (i + 1)) s1) E s1)
    (q : ∀ h' tk, J us.size h' → (∀ b o, s.heap.get? b = some o → h'.get? b = some o) → Q (.ref s.heap.objs.size) { s with heap := h', toks := tk }) :
    wpAny (model P w) A (call (.type "set") [.ref l]) Q E s := by
  have hd : A.in1.in1.in1.handled = none := by simp [hh]
  have old : ∀ b o, s.heap.get? b = some o → (s.heap.push (bare w)).get? b = some o := fun b o e => Heap.get?_push_of_some _ e
  have sz : (s.heap.push (bare w)).objs.size = s.heap.objs.size + 1 := Heap.size_push ..
  have new : (s.heap.push (bare w)).get? s.heap.objs.size = some (bare w) := Heap.get?_push_size _ rfl
  have fin : ∀ (T : String) (L : l < s.heap.objs.size) (St : Nat → Heap → Prop) (ob : Obj), St 0 ((s.heap.push (bare w)).push ob) →
      Walks P w A.in1.in1.in1 (s.heap.push (bare w)).objs.size [(s.heap.push (bare w)).objs.size, l] [(s.heap.push (bare w)).objs.size] us.size (fun i v => us[i]? = some v) St →
      codeAny (model P w) A.in1.in1 (.builtin "set.update.loop" ⟨[.ref s.heap.objs.size, .ref (s.heap.push (bare w)).objs.size], []⟩) (fun r s3 => r = .ok (.ret .none) ∧ Q (.ref s.heap.objs.size) s3) { s with heap := (s.heap.push (bare w)).push ob } := by
    intro T L St ob st W
    rw [sz] at W ⊢
    have two : ∀ b o, s.heap.get? b = some o → ((s.heap.push (bare w)).push ob).get? b = some o := fun b o e => Heap.get?_push_of_some _ (old b o e)
    refine codeAny_mono (fill W (apart L).1 (fun i h h' j k => keep i h h' j fun b o hb => k b o (by simpa using hb)) (fun i v s1 E _ pv j => add i v s1 E pv j) us.size 0 _ (Nat.zero_add _) st (j0 _ (Heap.get?_push_of_some _ new) two)) ?_
    rintro _ _ ⟨rfl, h', tk, rfl, j, k⟩
    exact ⟨rfl, q h' tk j fun b o e => k b o (Nat.ne_of_lt (Heap.lt_size e)) (apart (Heap.lt_size e)).2.2 (two b o e)⟩
  rcases src with src | src
  · have L : l < s.heap.objs.size := by obtain ⟨o, ho, _⟩ := src; exact Heap.lt_size ho
    refine call_of src.typeIs PySem.F.sub_list_set PySem.F.sub_list_frozenset (by decide) fun E' => wpAny_pyIter_list (src.push _) (fin "list" L _ _ ⟨⟨_, Heap.get?_push_size _ rfl, rfl, rfl⟩, (src.push _).push _⟩ (Walks.list hd _ l ?_ us))
    rw [sz]; exact (apart L).2.1
  · have L : l < s.heap.objs.size := by obtain ⟨o, ho, _⟩ := src; exact Heap.lt_size ho
    refine call_of src.typeIs PySem.F.sub_tuple_set PySem.F.sub_tuple_frozenset (by decide) fun E' => wpAny_pyIter_tuple (src.push _) (fin "tuple" L _ _ ⟨⟨_, Heap.get?_push_size _ rfl, rfl, rfl⟩, (src.push _).push _⟩ (Walks.tuple hd _ l ?_ us))
    rw [sz]; exact (apart L).2.1
end
end ZS
end
section
set_option maxHeartbeats 2000000
/-! sets whose members are found by a scan: ints, texts, bools, None -/
namespace ZS
open PySem PySem.Spec PyProof.Rows L2
open PySem.Froz (sObj SD tailTx addTail_x)
section
variable {P : Program} {w : World} {A : Around} {E : Value → Shared → Prop} {s : Shared} {K : Type} [DecidableEq K] [BEq K] [LawfulBEq K] {knd : KeyKind P w K}
def Apart (knd : KeyKind P w K) (e e' : Int × Value) : Prop := ∀ k, ¬(knd.is k e.2 = true ∧ knd.is k e'.2 = true)
/-- what a table tells that can be walked -/
structure Tab (w : World) (t : SetTable) (n : Nat) : Prop where
  fits : t.fits n = true
  ris : Ris t.place.toList
  led : w.params.followText "set-order" = true ∨ t.led = true
structure Scan (knd : KeyKind P w K) (D : SD) (L : List K) : Prop where
  el : ElemsOf knd D.1.toList
  mem : ∀ k, k ∈ L ↔ ∃ e ∈ D.1.toList, knd.is k e.2 = true
  ap : D.1.toList.Pairwise (Apart knd)
  few : D.1.size ≤ L.length
  tab : Tab w D.2.2 D.1.size
theorem Scan.perm {es es' : Array (Int × Value)} {ep ep' : Nat} {t t' : SetTable} {L : List K} (R : Scan knd (es, ep, t) L) (p : es'.toList.Perm es.toList) (T : Tab w t' es'.size) : Scan knd (es', ep', t') L where
  el := fun e he => R.el e (p.mem_iff.mp he)
  mem := fun k => (R.mem k).trans (exists_congr fun e => and_congr_left fun _ => p.mem_iff.symm)
  ap := (p.pairwise_iff fun x k z => x k z.symm).mpr R.ap
  few := by
    have := p.length_eq
    rw [Array.length_toList, Array.length_toList] at this
    exact this ▸ R.few
  tab := T
/-- the payload behind what may be a laying anew -/
theorem Scan.tail {es : Array (Int × Value)} {ep : Nat} {t : SetTable} {L : List K} (R : Scan knd (es, ep, t) L) (wd : Bool) : Scan knd (tailTx ep es t wd) L := by
  unfold tailTx
  split
  · exact R.perm (relayAll_perm t es _) ⟨relayAll_fits t es _, relayAll_ris t es _, R.tab.led.imp id fun z => (relayAll_led t es _).trans z⟩
  · exact R.perm (.refl _) R.tab
theorem is_one {k k' : K} {x : Value} (h : knd.is k x = true) : knd.is k' x = true ↔ k' = k := ⟨fun h' => knd.inj x k' k h' h, fun e => e ▸ h⟩
/-- a member more -/
theorem Scan.more {es es' : Array (Int × Value)} {ep ep' : Nat} {t t' : SetTable} {L : List K} {k : K} {x : Value} (R : Scan knd (es, ep, t) L) (hx : knd.is k x = true) (hs : x.scannable = true) (hk : k ∉ L)
    (p : es'.toList.Perm ((knd.hash k, x) :: es.toList)) (T : Tab w t' es'.size) : Scan knd (es', ep', t') (L ++ [k]) where
  el := fun e he => by
    rcases List.mem_cons.mp (p.mem_iff.mp he) with rfl | he
    · exact ⟨⟨k, hx, rfl⟩, hs⟩
    · exact R.el e he
  mem := fun k' => by
    rw [List.mem_append, List.mem_singleton, R.mem k', ← is_one hx]
    constructor
    · rintro (⟨e, he, q⟩ | q)
      · exact ⟨e, p.mem_iff.mpr (List.mem_cons_of_mem _ he), q⟩
      · exact ⟨_, p.mem_iff.mpr List.mem_cons_self, q⟩
    · rintro ⟨e, he, q⟩
      rcases List.mem_cons.mp (p.mem_iff.mp he) with rfl | he
      · exact .inr q
      · exact .inl ⟨e, he, q⟩
  ap := (p.pairwise_iff fun x k z => x k z.symm).mpr (List.pairwise_cons.mpr ⟨fun e he k' z => hk ((R.mem k).mpr ⟨e, he, ((is_one hx).mp z.1) ▸ z.2⟩), R.ap⟩)
  few := by
    have := p.length_eq
    rw [List.length_cons, Array.length_toList, Array.length_toList] at this
    rw [List.length_append]
    exact this ▸ Nat.succ_le_succ R.few
  tab := T
/-- the set at a has just the members of L -/
def ScanAt (knd : KeyKind P w K) (h : Heap) (a : Addr) (L : List K) : Prop := ∃ D, h.get? a = some (sObj "set" D) ∧ Scan knd D L
theorem scan_bare {h : Heap} {a : Addr} (e : h.get? a = some (bare w)) : ScanAt knd h a [] :=
  ⟨_, e, fun _ z => (by simp at z), fun k => by simp, .nil, Nat.le_refl _, rfl, .nil, by
    show _ ∨ (!w.params.followText "set-order") = true
    cases w.params.followText "set-order"
    · exact .inr rfl
    · exact .inl rfl⟩
theorem put_one {h : Heap} {a : Addr} {X Y : Obj} (e : h.get? a = some X) (hf : Y.isFreed = false) : (h.update a fun _ => Y).get? a = some Y := PySem.Froz.get_upd Y e hf
theorem only_refl {a : Addr} {J : Heap → Prop} (j : J s.heap) : Only a J s s := ⟨s.heap, s.toks, rfl, .refl _ _, j⟩
theorem scan_hashed {a : Addr} {L : List K} {k : K} {x : Value} (R : ScanAt knd s.heap a L) (hx : knd.is k x = true) (hs : x.scannable = true) (few : L.length + 1 < scanBound) :
    wpAny (model P w) A (setAddHashed a x (knd.hash k)) (fun _ => Only a (fun h => ScanAt knd h a (L ++ [k])) s) E s := by
  obtain ⟨⟨es, ep, t⟩, at_, R⟩ := R
  have lt : es.size < scanBound := Nat.lt_of_le_of_lt R.few (by omega)
  have say : ∀ (b : Bool) (s₁ : Shared) (Q : Unit → Shared → Prop), Q () s₁ → wpAny (model P w) A (match b with | true => rule "set.scan.the-table-gave-way" | false => pure ()) Q E s₁ := fun b _ _ q => by
    cases b
    · exact wpAny_pure q
    · exact wpAny_rule q
  unfold setAddHashed setAddHashedIn
  refine wpAny_holding (wpAny_bind (wpAny_setState_of at_ rfl R.tab.fits ?_))
  dsimp only
  rw [byScan_of hs lt R.el, if_pos rfl]
  unfold setAddByScan
  refine wpAny_bind (wpAny_bind (wpAny_rule (wpAny_bind (wpAny_setScan_of hx at_ rfl R.tab.fits R.el ?_))))
  cases hf : List.findIdx? (fun e => knd.is k e.2) es.toList with
  | some j =>
    obtain ⟨hj, is_, _⟩ := List.findIdx?_eq_some_iff_getElem.mp hf
    have inL := (R.mem k).mpr ⟨_, List.getElem_mem hj, is_⟩
    refine wpAny_pure (wpAny_pure (only_refl ⟨_, at_, R.el, fun k' => ?_, R.ap, Nat.le_trans R.few (by simp), R.tab⟩))
    rw [List.mem_append, List.mem_singleton, ← R.mem k']
    exact ⟨fun z => z.elim id fun e => e ▸ inL, .inl⟩
  | none =>
    have outL : k ∉ L := fun z => by
      obtain ⟨e, he, q⟩ := (R.mem k).mp z
      exact absurd q (by rw [List.findIdx?_eq_none_iff.mp hf e he]; decide)
    have p := layNew_perm t es (knd.hash k) x
    have T : Tab w (layNew t es (knd.hash k) x).2.1 (layNew t es (knd.hash k) x).1.size := ⟨layNew_fits .., layNew_ris _ _ _ _ R.tab.ris, R.tab.led.imp id fun z => (layNew_led ..).trans z⟩
    generalize layNew t es (knd.hash k) x = Z at p T
    obtain ⟨es1, t1, wd, gave⟩ := Z
    dsimp only at p T ⊢
    rw [Array.toList_push] at p
    have p := p.trans (List.perm_append_singleton _ _)
    have lt1 : es1.size < scanBound := by
      have := p.length_eq
      rw [List.length_cons, Array.length_toList, Array.length_toList] at this
      have := R.few
      dsimp only at this
      omega
    have done : ∀ t2, Tab w t2 es1.size → Only a (fun h => ScanAt knd h a (L ++ [k])) s { s with heap := s.heap.update a fun _ => sObj "set" (tailTx ep es1 t2 wd) } := fun t2 T2 =>
      ⟨_, s.toks, rfl, .update .., _, put_one at_ rfl, (R.more hx hs outL p T2).tail wd⟩
    refine wpAny_bind (say _ _ _ ?_)
    split
    · rw [hashByValue_scannable 8 hs]
      refine wpAny_bind (wpAny_pure (addTail_x say at_ lt1 (wpAny_pure (done _ ?_))))
      split
      · exact T
      · exact ⟨SetTable.fits_plain_off T.fits, T.ris, T.led⟩
    · exact wpAny_bind (wpAny_pure (addTail_x say at_ lt1 (wpAny_pure (done _ T))))
theorem scan_add {a : Addr} {L : List K} {k : K} {x : Value} (R : ScanAt knd s.heap a L) (hx : knd.is k x = true) (hs : x.scannable = true) (few : L.length + 1 < scanBound) :
    wpAny (model P w) A (setAdd a x) (fun _ => Only a (fun h => ScanAt knd h a (L ++ [k])) s) E s := by
  unfold setAdd
  refine wpAny_holding (wpAny_bind (knd.pyHash hx (wpAny_mono (scan_hashed (s := { s with toks := s.toks + 1 }) R hx hs few) ?_ fun _ _ z => z)))
  rintro _ _ ⟨h', tk, rfl, sb, j⟩
  exact ⟨h', tk, rfl, sb, j⟩
/-- set(xs), xs a list or tuple of what a scan finds -/
theorem call_scan {l : Addr} {us : Array Value} {L : List K} {Q : Value → Shared → Prop} (src : s.heap.IsList l us ∨ s.heap.IsTuple l us) (hh : A.handled = none) (few : L.length < scanBound)
    (is_ : PySem.W.EachIs (fun v k => knd.is k v = true ∧ v.scannable = true) us.toList L)
    (q : ∀ h' tk, ScanAt knd h' s.heap.objs.size L → (∀ b o, s.heap.get? b = some o → h'.get? b = some o) → Q (.ref s.heap.objs.size) { s with heap := h', toks := tk }) :
    wpAny (model P w) A (call (.type "set") [.ref l]) Q E s := by
  have len : us.size = L.length := by rw [← Array.length_toList, PySem.W.EachIs.length is_]
  have atI : ∀ {us : List Value} {L : List K}, PySem.W.EachIs (fun v k => knd.is k v = true ∧ v.scannable = true) us L → ∀ (i : Nat) (v : Value), us[i]? = some v → ∃ k, L[i]? = some k ∧ knd.is k v = true ∧ v.scannable = true := by
    intro us L h
    induction h with
    | nil => intro i v e; simp at e
    | cons h _ ih =>
      intro i v e
      cases i with
      | zero => cases e; exact ⟨_, rfl, h⟩
      | succ i => exact ih i v e
  refine call_set (J := fun i h => ScanAt knd h s.heap.objs.size (L.take i)) src hh (fun h e _ => scan_bare e) (fun i h h' ⟨D, e, R⟩ k => ⟨D, k _ _ (Nat.ne_of_lt (Nat.lt_succ_self _)) e, R⟩) (fun i v s1 E pv R => ?_) fun h' tk R k => q h' tk ?_ k
  · obtain ⟨k, hk, hx, hs⟩ := atI is_ i v (by rw [Array.getElem?_toList]; exact pv)
    have lt : i < L.length := (List.getElem?_eq_some_iff.mp hk).1
    have e : L.take (i + 1) = L.take i ++ [k] := by rw [List.take_add_one, hk] <;> rfl
    rw [e]
    exact scan_add R hx hs (by rw [List.length_take]; omega)
  · rw [len, List.take_length] at R
    exact R
end
end ZS
end
section
set_option maxHeartbeats 2000000
/-! sorted(a set), by what its members read as -/
namespace ZS
open PySem PySem.Spec PyProof.Rows L2
open PySem.Froz (sObj SD)
theorem each_of {α β : Type} {R : α → β → Prop} : ∀ (l : List α), (∀ a ∈ l, ∃ b, R a b) → ∃ bs, PySem.W.EachIs R l bs
  | [], _ => ⟨[], .nil⟩
  | a :: l, h => by
    obtain ⟨b, hb⟩ := h a List.mem_cons_self
    obtain ⟨bs, hs⟩ := each_of l fun x hx => h x (List.mem_cons_of_mem _ hx)
    exact ⟨b :: bs, .cons hb hs⟩
theorem each_mem_iff {α β : Type} {R : α → β → Prop} (one : ∀ a b b', R a b → R a b' → b = b') : ∀ {l : List α} {bs : List β}, PySem.W.EachIs R l bs → ∀ b, b ∈ bs ↔ ∃ a ∈ l, R a b
  | _, _, .nil, b => by simp
  | _, _, .cons h hs, b => by
    have ih := each_mem_iff one hs b
    constructor
    · intro z
      rcases List.mem_cons.mp z with rfl | z
      · exact ⟨_, List.mem_cons_self, h⟩
      · obtain ⟨a, ha, r⟩ := ih.mp z
        exact ⟨a, List.mem_cons_of_mem _ ha, r⟩
    · rintro ⟨a, ha, r⟩
      rcases List.mem_cons.mp ha with rfl | ha
      · exact one _ _ _ r h ▸ List.mem_cons_self
      · exact List.mem_cons_of_mem _ (ih.mpr ⟨a, ha, r⟩)
theorem each_nodup {α β : Type} {R : α → β → Prop} (one : ∀ a b b', R a b → R a b' → b = b') : ∀ {l : List α} {bs : List β}, PySem.W.EachIs R l bs → l.Pairwise (fun a a' => ∀ b, ¬(R a b ∧ R a' b)) → bs.Nodup
  | _, _, .nil, _ => .nil
  | _, _, .cons h hs, p => by
    obtain ⟨p1, p2⟩ := List.pairwise_cons.mp p
    refine List.nodup_cons.mpr ⟨fun z => ?_, each_nodup one hs p2⟩
    obtain ⟨a, ha, r⟩ := (each_mem_iff one hs _).mp z
    exact p1 a ha _ ⟨h, r⟩
section
variable {P : Program} {w : World} {A : Around} {E : Value → Shared → Prop} {s : Shared}
theorem sorted_of {a : Addr} {D : SD} {β : Type} {R : Value → β → Prop} (enc : β → PyData) {Q : Value → Shared → Prop} (at_ : s.heap.get? a = some (sObj "set" D)) (T : Tab w D.2.2 D.1.size) (few : D.1.size < scanBound) (hh : A.handled = none)
    (one : ∀ v b b', R v b → R v b' → b = b') (ms : ∀ e ∈ D.1.toList, ∃ b, R e.2 b)
    (rd : ∀ e ∈ D.1.toList, ∀ b h', R e.2 b → (∀ c o, s.heap.get? c = some o → h'.get? c = some o) → Reads h' e.2 (enc b) [])
    (al : ∀ b b', PySem.W.alike (enc b) (enc b') = true) (so : ∀ bs : List β, PySem.W.Sortable (bs.map enc)) (dp : ∀ b, (enc b).depth ≤ 1) (hu : A.units + 8 < cLine)
    (hQ : ∀ s' p (out : List Value) (c : Nat) (bs : List β), (∀ b o, s.heap.get? b = some o → s'.heap.get? b = some o) → s'.gens = s.gens → s'.os = s.os → s.heap.objs.size ≤ p → s'.heap.get? p = some (seqObj "list" (List.toArray out) c) →
      PySem.W.EachIs R out (bs.mergeSort (PySem.W.dataLe false enc)) → (∀ v ∈ out, ∃ e ∈ D.1.toList, v = e.2) → (∀ b, b ∈ bs ↔ ∃ e ∈ D.1.toList, R e.2 b) → (D.1.toList.Pairwise (fun e e' => ∀ b, ¬(R e.2 b ∧ R e'.2 b)) → bs.Nodup) → bs.length = D.1.size → Q (.ref p) s') :
    wpAny (model P w) A (call (.builtin "sorted") [.ref a]) Q E s := by
  obtain ⟨es, ep, t⟩ := D
  refine Calls.call_function_entry kind_sorted plain_sorted entry_sorted (args_sorted1 _) ?_
  unfold Builtin.«sorted»
  refine wpAny_bind (m := checkCount "sorted" 1 1 _) (wpAny_pure ?_)
  refine wpAny_bind (collect_set (A := A.in1) hh ⟨_, at_, rfl, rfl⟩ T.fits few T.ris T.led fun s1 vs k1 hz g1 o1 pm => ?_)
  have from_ : ∀ v ∈ vs, ∃ e ∈ es.toList, v = e.2 := fun v hv => by
    obtain ⟨e, he, q⟩ := List.mem_map.mp (pm.mem_iff.mp hv)
    exact ⟨e, he, q.symm⟩
  obtain ⟨bs, eb⟩ := each_of (R := fun v b => R v b ∧ ∃ e ∈ es.toList, v = e.2) vs fun v hv => by
    obtain ⟨e, he, rfl⟩ := from_ v hv
    obtain ⟨b, hb⟩ := ms e he
    exact ⟨b, hb, e, he, rfl⟩
  have one' : ∀ v b b', (R v b ∧ ∃ e ∈ es.toList, v = e.2) → (R v b' ∧ ∃ e ∈ es.toList, v = e.2) → b = b' := fun v b b' h h' => one v b b' h.1 h'.1
  have lv : vs.length = es.size := by rw [pm.length_eq, List.length_map, Array.length_toList]
  have lb := PySem.W.EachIs.length eb
  have sl : vs.length ≤ sizeLine := by
    rw [lv, sizeLine_eq]
    unfold scanBound at few
    dsimp only at few
    omega
  have mem : ∀ b, b ∈ bs ↔ ∃ e ∈ es.toList, R e.2 b := fun b => by
    rw [each_mem_iff one' eb b]
    constructor
    · rintro ⟨v, _, r, e, he, rfl⟩
      exact ⟨e, he, r⟩
    · rintro ⟨e, he, r⟩
      exact ⟨e.2, pm.mem_iff.mpr (List.mem_map.mpr ⟨e, he, rfl⟩), r, e, he, rfl⟩
  refine wpAny_bind (wpAny_newList ?_ sl)
  have new : (s1.heap.push (seqObj "list" vs.toArray 0)).get? s1.heap.objs.size = some (seqObj "list" vs.toArray 0) := Heap.get?_push_size _ rfl
  have more : ∀ c o, s.heap.get? c = some o → (s1.heap.push (seqObj "list" vs.toArray 0)).get? c = some o := fun c o e => Heap.get?_push_of_some _ (k1 c o e)
  have all : PySem.W.AllAlike (bs.map enc) := PySem.W.AllAlike.of al
  refine wpAny_bind (wpAny_holding (PySem.W.list_sort_data (s := { s1 with heap := s1.heap.push (seqObj "list" vs.toArray 0) }) new eb (eb.mono fun v b ⟨r, e, he, z⟩ => ⟨[], by rw [z] at r ⊢; exact rd e he b _ r more, by simp⟩) all (so bs) (by rw [← lb]; exact sl) (fun b _ => ?_) fun out lo eo => ?_))
  · have := dp b
    have e1 : A.in1.units = A.units + 1 := Around.in1_units A
    omega
  · obtain ⟨c, hc⟩ := sortedHeap_at (vs := vs) (out := out.toArray) new
    refine wpAny_pure ⟨_, rfl, hQ _ s1.heap.objs.size out c bs (fun b u e => ?_) g1 o1 hz hc (eo.mono fun _ _ z => z.1) (fun v hv => ?_) mem (fun pw => each_nodup one' eb ?_) (by rw [← lb, lv])⟩
    · have q := k1 b u e
      have lt := Heap.lt_size q
      exact (sortedHeap_old (Nat.ne_of_lt lt) (by rw [size_push']; exact Nat.lt_succ_of_lt lt)).trans (Heap.get?_push_of_some _ q)
    · obtain ⟨b, _, z⟩ := PySem.W.EachIs.left eo v hv
      exact z.2
    · refine (pm.pairwise_iff fun x b z => x b z.symm).mpr (List.pairwise_map.mpr ?_)
      exact pw.imp fun x b z => x b ⟨z.1.1, z.2.1⟩
end
end ZS
end
section
set_option maxHeartbeats 2000000
/-! set(texts), sorted(a set of texts) as words -/
namespace ZS
open PySem PySem.Spec PyProof.Rows L2
/-- a call that leaves all as it was beside a new list -/
theorem inv_list {X : Cx} {pins : List (Addr × Obj)} {σ : L2.St} {H : Hp} {s s' : Shared} (I : L2.Inv X pins σ H s) {p : Addr} {out : List Value} {c : Nat} {ys : List V} (k : ∀ b o, s.heap.get? b = some o → s'.heap.get? b = some o) (g : s'.gens = s.gens) (o : s'.os = s.os)
    (hp : s.heap.objs.size ≤ p) (hg : s'.heap.get? p = some (seqObj "list" out.toArray c)) (r : Vals ys out) (hz : ys.length ≤ sizeLine) : H p = none ∧ L2.Inv X pins σ (upd H p (.lst ys)) s' := by
  have free : H p = none := I.hok.fresh hp
  exact ⟨free, I.call' (ch := []) o (Un.laid k hp free) (I.hok.laid k hp (show ObjOk X.prog X.w _ s'.heap p (.lst ys) from ⟨hz, out, c, r, hg⟩)) (g ▸ I.bare) (fun _ z => nomatch z)⟩
end ZS
namespace SX
open PySem PySem.Spec PyProof.Rows L2 ZS
/-- the set at a holds just the texts ks -/
def SetO (w : World) (a : Addr) (ks : List Str) : HO := .ext fun h => ∃ P : Program, ScanAt (strKind P w) h a ks
theorem setO_new {P : Program} {w : World} {H : Hp} {h : Heap} {a : Addr} {ks : List Str} (R : ScanAt (strKind P w) h a ks) : ObjOk P w H h a (SetO w a ks) :=
  ⟨⟨P, R⟩, let ⟨_, e, _⟩ := R; ⟨_, e⟩, fun _ _ ⟨P', D, e, S⟩ k => ⟨P', D, k _ e, S⟩⟩
theorem each_strs {P : Program} {w : World} : ∀ {ks : List Str} {us : List Value}, Vals (ks.map V.str) us → PySem.W.EachIs (fun v k => (strKind P w).is k v = true ∧ v.scannable = true) us ks
  | [], _, .nil => .nil
  | k :: ks, _, .cons ⟨t, e⟩ rs => .cons (by subst e; exact ⟨strKind_is P w k t, rfl⟩) (each_strs rs)
theorem strs_each : ∀ {ks : List Str} {us : List Value}, PySem.W.EachIs (fun v k => ∃ t, v = Value.str k t) us ks → Vals (ks.map V.str) us
  | _, _, .nil => .nil
  | _, _, .cons h hs => .cons h (strs_each hs)
theorem rising_of : ∀ (p : Str) (l : List Str), (p :: l).Pairwise (fun a b => a.cps.toList ≤ b.cps.toList) → risingS p l = true
  | _, [], _ => rfl
  | p, x :: l, h => by
    obtain ⟨h1, h2⟩ := List.pairwise_cons.mp h
    show (!PySem.Spec.ltCps x.cps.toList p.cps.toList && risingS x l) = true
    rw [rising_of x l h2, ltCps_eq, decide_eq_false (List.not_lt.mpr (h1 x List.mem_cons_self))]
    rfl
theorem sorted_of_le : ∀ (l : List Str), l.Pairwise (fun a b => a.cps.toList ≤ b.cps.toList) → sortedS l = true
  | [], _ => rfl
  | x :: l, h => rising_of x l h
section
variable {X : Cx}
def rSet (K : PySem.W.Frag) (w : World) : List V → Hp → VK → Prop := fun xs H Q => ∃ (l : Addr) (ks : List Str), xs = [V.ref l] ∧ (SqL K H l (ks.map V.str) ∨ SqT K H l (ks.map V.str)) ∧ ks.length < 4000 ∧ ∀ a, H a = none → Q (.ref a) (upd H a (SetO w a ks))
theorem cr_set (hc : X.calm = true) : CallR X (.type "set") (rSet X.K X.w) := by
  rintro pins s σ H _ us Q I r ⟨l, ks, rfl, hl, few, q⟩
  rw [Vals.ref1 r]
  have src : ∃ its, Vals (ks.map V.str) its ∧ (s.heap.IsList l its.toArray ∨ s.heap.IsTuple l its.toArray) := by
    rcases hl with hl | hl
    · obtain ⟨its, rv, pl, _⟩ := I.list hl
      exact ⟨its, rv, .inl pl.isList⟩
    · obtain ⟨its, rv, pt, _⟩ := I.tuple hl
      exact ⟨its, rv, .inr pt⟩
  obtain ⟨its, rv, src⟩ := src
  refine call_scan (knd := strKind X.prog X.w) (L := ks) src (I.ok.hd hc) (by unfold scanBound; omega) (by simpa using each_strs rv) fun h' tk R k => ?_
  exact ⟨.ref s.heap.objs.size, _, I.laid (t' := tk) k (Nat.le_refl _) (setO_new R), rfl, q _ (I.hok.fresh (Nat.le_refl _))⟩
def rSorted (w : World) : List V → Hp → VK → Prop := fun vs H Q => ∃ (a : Addr) (ks : List Str), vs = [V.ref a] ∧ H a = some (SetO w a ks) ∧ ks.length < 4000 ∧
  ∀ (ys : List Str) (p : Addr), sortedS ys = true → ys.Nodup → (∀ k, k ∈ ys ↔ k ∈ ks) → H p = none → Q (.ref p) (upd H p (.lst (ys.map V.str)))
theorem cr_sorted (hc : X.calm = true) (hu : X.A.units + 64 < cLine) : CallR X (.builtin "sorted") (rSorted X.w) := by
  rintro pins s σ H _ us Q I r ⟨a, ks, rfl, ha, few, q⟩
  rw [Vals.ref1 r]
  obtain ⟨P, D, e, S⟩ := (I.hok a _ ha).1
  have lt : D.1.size < scanBound := by
    have := S.few
    unfold scanBound
    omega
  have shape : ∀ e ∈ D.1.toList, ∃ k t, e.2 = Value.str k t ∧ ∀ k', (strKind P X.w).is k' e.2 = true ↔ k' = k := fun e he => by
    obtain ⟨⟨k, hk, _⟩, _⟩ := S.el e he
    obtain ⟨t, ht⟩ := Value.isStrOf_shape (show Value.isStrOf k e.2 = true from hk)
    exact ⟨k, t, ht, fun k' => is_one hk⟩
  have same : ∀ e ∈ D.1.toList, ∀ k, (∃ t, e.2 = Value.str k t) ↔ (strKind P X.w).is k e.2 = true := fun e he k => by
    obtain ⟨k1, t1, e1, i1⟩ := shape e he
    rw [i1 k, e1]
    exact ⟨fun ⟨t, z⟩ => by cases z; rfl, fun z => ⟨t1, by rw [z]⟩⟩
  refine sorted_of (R := fun v k => ∃ t, v = Value.str k t) PyData.str e S.tab lt (I.ok.hd hc) ?_ ?_ ?_ (fun _ _ => rfl) (fun bs => PySem.W.Sortable.others fun b => ⟨(fun z => nomatch z), (fun _ z => nomatch z)⟩) (fun _ => Nat.zero_le _) (by omega) ?_
  · rintro v b b' ⟨t, rfl⟩ ⟨t', z⟩
    cases z
    rfl
  · intro e he
    obtain ⟨k, t, h, _⟩ := shape e he
    exact ⟨k, t, h⟩
  · rintro e he b h' ⟨t, z⟩ _
    rw [z]
    exact .str b t
  · intro s' p out c bs k g o hp hg er _ mem nd len
    have pm := List.mergeSort_perm bs (PySem.W.dataLe false PyData.str)
    have ln : ((bs.mergeSort (PySem.W.dataLe false PyData.str)).map V.str).length ≤ sizeLine := by
      rw [List.length_map, pm.length_eq, len, sizeLine_eq]
      unfold scanBound at lt
      omega
    obtain ⟨free, J⟩ := inv_list I k g o hp hg (strs_each er) ln
    refine ⟨.ref p, _, J, rfl, q _ p (sorted_of_le _ ?_) (pm.nodup_iff.mpr (nd (S.ap.imp_of_mem fun ha hb z b y => z b ⟨(same _ ha b).mp y.1, (same _ hb b).mp y.2⟩))) (fun b => ?_) free⟩
    · have le := PySem.W.dataLe_str (k := fun b : Str => b)
      rw [show (PySem.W.dataLe false PyData.str) = fun a b : Str => decide (a.cps.toList ≤ b.cps.toList) from le]
      refine (List.pairwise_mergeSort (fun a b c h1 h2 => ?_) (fun a b => ?_) bs).imp fun h => of_decide_eq_true h
      · exact decide_eq_true (List.le_trans (of_decide_eq_true h1) (of_decide_eq_true h2))
      · rw [Bool.or_eq_true, decide_eq_true_eq, decide_eq_true_eq]
        exact List.le_total _ _
    · rw [pm.mem_iff, mem b, S.mem b]
      exact exists_congr fun e => and_congr_right fun he => same e he b
end
end SX
end
section
set_option maxHeartbeats 2000000
/-! set(ints), sorted(a set of ints), sorted(lists of ints), a class at hand -/
namespace SI
open PySem PySem.Spec PyProof.Rows L2 ZS
/-- the set at a holds just the ints ns -/
def SetN (w : World) (a : Addr) (ns : List Int) : HO := .ext fun h => ∃ P : Program, ScanAt (intKind P w) h a ns
theorem setN_new {P : Program} {w : World} {H : Hp} {h : Heap} {a : Addr} {ns : List Int} (R : ScanAt (intKind P w) h a ns) : ObjOk P w H h a (SetN w a ns) :=
  ⟨⟨P, R⟩, let ⟨_, e, _⟩ := R; ⟨_, e⟩, fun _ _ ⟨P', D, e, S⟩ k => ⟨P', D, k _ e, S⟩⟩
theorem each_nums {P : Program} {w : World} : ∀ {ns : List Int} {us : List Value}, Vals (ns.map V.int) us → PySem.W.EachIs (fun v k => (intKind P w).is k v = true ∧ v.scannable = true) us ns
  | [], _, .nil => .nil
  | n :: ns, _, .cons ⟨t, e⟩ rs => .cons (by subst e; exact ⟨intKind_is P w n t, rfl⟩) (each_nums rs)
theorem nums_each : ∀ {ns : List Int} {us : List Value}, PySem.W.EachIs (fun v k => ∃ t, v = Value.int k t) us ns → Vals (ns.map V.int) us
  | _, _, .nil => .nil
  | _, _, .cons h hs => .cons h (nums_each hs)
section
variable {X : Cx}
def rSetI (K : PySem.W.Frag) (w : World) : List V → Hp → VK → Prop := fun xs H Q => ∃ (l : Addr) (ns : List Int), xs = [V.ref l] ∧ SqL K H l (ns.map V.int) ∧ ns.length < 4000 ∧ ∀ a, H a = none → Q (.ref a) (upd H a (SetN w a ns))
theorem cr_setI (hc : X.calm = true) : CallR X (.type "set") (rSetI X.K X.w) := by
  rintro pins s σ H _ us Q I r ⟨l, ns, rfl, hl, few, q⟩
  rw [Vals.ref1 r]
  obtain ⟨its, rv, pl, _⟩ := I.list hl
  refine call_scan (knd := intKind X.prog X.w) (L := ns) (.inl pl.isList) (I.ok.hd hc) (by unfold scanBound; omega) (by simpa using each_nums rv) fun h' tk R k => ?_
  exact ⟨.ref s.heap.objs.size, _, I.laid (t' := tk) k (Nat.le_refl _) (setN_new R), rfl, q _ (I.hok.fresh (Nat.le_refl _))⟩
def rSortedN (w : World) : List V → Hp → VK → Prop := fun vs H Q => ∃ (a : Addr) (ns : List Int), vs = [V.ref a] ∧ H a = some (SetN w a ns) ∧ ns.length < 4000 ∧
  ∀ (ys : List Int) (p : Addr), ys.Pairwise (· < ·) → (∀ k, k ∈ ys ↔ k ∈ ns) → H p = none → Q (.ref p) (upd H p (.lst (ys.map V.int)))
theorem cr_sortedN (hc : X.calm = true) (hu : X.A.units + 64 < cLine) : CallR X (.builtin "sorted") (rSortedN X.w) := by
  rintro pins s σ H _ us Q I r ⟨a, ns, rfl, ha, few, q⟩
  rw [Vals.ref1 r]
  obtain ⟨P, D, e, S⟩ := (I.hok a _ ha).1
  have lt : D.1.size < scanBound := by
    have := S.few
    unfold scanBound
    omega
  have same : ∀ e ∈ D.1.toList, (∃ k t, e.2 = Value.int k t) ∧ ∀ k, (∃ t, e.2 = Value.int k t) ↔ (intKind P X.w).is k e.2 = true := fun e he => by
    obtain ⟨⟨k, hk, _⟩, _⟩ := S.el e he
    obtain ⟨t, ht⟩ := Value.isInt_shape (show Value.isInt k e.2 = true from hk)
    refine ⟨⟨k, t, ht⟩, fun k' => ?_⟩
    rw [is_one hk, ht]
    exact ⟨fun ⟨_, z⟩ => by cases z; rfl, fun z => ⟨t, by rw [z]⟩⟩
  refine sorted_of (R := fun v k => ∃ t, v = Value.int k t) PyData.int e S.tab lt (I.ok.hd hc) ?_ (fun e he => (same e he).1) ?_ (fun _ _ => rfl) (fun bs => PySem.W.Sortable.others fun b => ⟨(fun z => nomatch z), (fun _ z => nomatch z)⟩) (fun _ => Nat.zero_le _) (by omega) ?_
  · rintro v b b' ⟨t, rfl⟩ ⟨t', z⟩
    cases z
    rfl
  · rintro e he b h' ⟨t, z⟩ _
    rw [z]
    exact .int b t
  · intro s' p out c bs k g o hp hg er _ mem nd len
    have pm := List.mergeSort_perm bs (PySem.W.dataLe false PyData.int)
    have ln : ((bs.mergeSort (PySem.W.dataLe false PyData.int)).map V.int).length ≤ sizeLine := by
      rw [List.length_map, pm.length_eq, len, sizeLine_eq]
      unfold scanBound at lt
      omega
    obtain ⟨free, J⟩ := inv_list I k g o hp hg (nums_each er) ln
    have nd' := pm.nodup_iff.mpr (nd (S.ap.imp_of_mem fun ha hb z b y => z b ⟨((same _ ha).2 b).mp y.1, ((same _ hb).2 b).mp y.2⟩))
    refine ⟨.ref p, _, J, rfl, q _ p ?_ (fun b => ?_) free⟩
    · have le := PySem.W.dataLe_int (k := fun b : Int => b)
      have up : (bs.mergeSort (PySem.W.dataLe false PyData.int)).Pairwise (· ≤ ·) := by
        rw [show (PySem.W.dataLe false PyData.int) = fun a b : Int => decide (a ≤ b) from le]
        refine (List.pairwise_mergeSort (fun a b c h1 h2 => ?_) (fun a b => ?_) bs).imp fun h => of_decide_eq_true h
        · exact decide_eq_true (Int.le_trans (of_decide_eq_true h1) (of_decide_eq_true h2))
        · rw [Bool.or_eq_true, decide_eq_true_eq, decide_eq_true_eq]
          exact Int.le_total _ _
      exact up.imp₂ (fun _ _ h1 h2 => Int.lt_iff_le_and_ne.mpr ⟨h1, h2⟩) nd'
    · rw [pm.mem_iff, mem b, S.mem b]
      exact exists_congr fun e => and_congr_right fun he => (same e he).2 b
end
/-- a list of ints -/
def RowR (K : PySem.W.Frag) (H : Hp) (v : V) (row : List Int) : Prop := ∃ t, v = .ref t ∧ SqL K H t (row.map V.int)
abbrev RowsR (K : PySem.W.Frag) (H : Hp) : List V → List (List Int) → Prop := PySem.W.EachIs (RowR K H)
theorem dpAll_ints' {K : PySem.W.Frag} {H : Hp} : ∀ (ns : List Int), DpAll K H (ns.map V.int) (ns.map PyData.int)
  | [] => .nil
  | n :: ns => .cons (.int n) (dpAll_ints' ns)
theorem RowR.dp {K : PySem.W.Frag} {H : Hp} {v : V} {row : List Int} (h : RowR K H v row) : Dp K H v (.list (row.map PyData.int)) := by
  obtain ⟨t, rfl, h⟩ := h
  exact .lst h (dpAll_ints' row)
section
variable {X : Cx} {pins : List (Addr × Obj)} {σ : L2.St} {H : Hp} {s : Shared}
theorem rows_reads (I : Inv X pins σ H s) : ∀ {vs : List V} {us : List Value} {rows : List (List Int)}, RowsR X.K H vs rows → Vals vs us → PySem.W.EachIs (fun u (b : List Int) => ∃ as, Reads s.heap u (PyData.list (b.map PyData.int)) as) us rows ∧ PySem.W.EachIs (fun u (b : List Int) => ∃ t, u = Value.ref t ∧ SqL X.K H t (b.map V.int)) us rows
  | _, _, _, .nil, .nil => ⟨.nil, .nil⟩
  | _, _, _, .cons h hs, .cons r rs => by
    obtain ⟨e1, e2⟩ := rows_reads I hs rs
    refine ⟨.cons (Dp.reads I _ _ _ h.dp r) e1, .cons ?_ e2⟩
    obtain ⟨t, rfl, q⟩ := h
    exact ⟨t, r, q⟩
theorem rows_back {K : PySem.W.Frag} : ∀ {us : List Value} {rows : List (List Int)}, PySem.W.EachIs (fun u (b : List Int) => ∃ t, u = Value.ref t ∧ SqL K H t (b.map V.int)) us rows → ∃ ys, Vals ys us ∧ RowsR K H ys rows
  | _, _, .nil => ⟨[], .nil, .nil⟩
  | _, _, .cons h hs => by
    obtain ⟨ys, r, e⟩ := rows_back hs
    obtain ⟨t, rfl, q⟩ := h
    exact ⟨.ref t :: ys, .cons rfl r, .cons ⟨t, rfl, q⟩ e⟩
end
section
variable {X : Cx}
/-- sorted(xs), xs a list of lists of ints -/
def rSortRows (K : PySem.W.Frag) : List V → Hp → VK → Prop := fun xs H Q => ∃ (a : Addr) (vs : List V) (rows : List (List Int)), xs = [V.ref a] ∧ SqL K H a vs ∧ RowsR K H vs rows ∧
  ∀ (ys : List V) (p : Addr), RowsR K H ys (rows.mergeSort fun p q => decide (p ≤ q)) → H p = none → Q (.ref p) (upd H p (.lst ys))
theorem cr_sortRows (hu : X.A.units + 64 < cLine) : CallR X (.builtin "sorted") (rSortRows X.K) := by
  intro pins s σ H xs us Q I r h
  obtain ⟨a, vs, rows, rfl, hs, hr, q⟩ := h
  obtain ⟨its, rv, hl, hz⟩ := I.list hs
  rw [Vals.ref1 r]
  obtain ⟨er, e⟩ := rows_reads I hr rv
  have hlen := PySem.W.EachIs.length hr
  refine PySem.W.sorted_data (enc := fun b : List Int => PyData.list (b.map PyData.int)) hl.isList e er (PySem.W.AllAlike.of fun b b' => by simpa [PySem.W.alike] using PySem.W.alike_ints b b') (PySem.W.Sortable.others fun b => ⟨(fun z => PyData.noConfusion z), (fun xs z => PyData.noConfusion z)⟩) (by rw [← hlen]; exact hz) (fun b _ => ?_) fun out ho he => ?_
  · have : (PyData.list (b.map PyData.int)).depth ≤ 1 := by
      simp only [PyData.depth, PySem.W.depth_ints]
      omega
    omega
  · rw [PySem.W.dataLe_rows (fun b => b)] at he
    obtain ⟨ys, ry, hy⟩ := rows_back he
    obtain ⟨ep, he'⟩ := PyProof.Rows.sortedAll_at s.heap its out.toArray
    have hlen2 : ys.length ≤ sizeLine := by rw [ry.length, ho, ← hlen]; exact hz
    exact ⟨.ref _, upd H (s.heap.objs.size + 1) (.lst ys), I.laid (t' := s.toks) (fun _ _ => PyProof.Rows.sortedAll_old) (Nat.le_succ _) ⟨hlen2, out, ep, ry, he'⟩, rfl, q ys _ hy (I.hok.fresh (Nat.le_succ _))⟩
end
/-! ### a class at hand, not named -/
section
variable {X : Cx} {CX : CXT} {k : Nat} {f C : Addr} {fd : FuncData} {ps : List Str} {sp : Sp} {dvs : List V} {ds : List Value} {E : XK} {pos : Pos} {fe e : Expr} {es : List Expr} {tf : TE} {t : TA}
def tMakeV (C : Addr) (sp : Sp) (dvs : List V) (E : XK) (tf : TE) (t : TA) : TE := fun σ H Q => tf σ H fun y H1 => y = .ref C ∧ tMake C sp dvs E t σ H1 Q
theorem pe_makeV (M : Mk X.K C f) (F : FnOk X.prog X.w X.K X.mg X.base CX k f fd ps sp) (hr : Room (k + 1) X.A) (hf : PE X fe tf) (hb : Binds X.K fd ps ds) (hd : Vals dvs ds) (hx : Passes CX X E) (ha : PA X (e :: es) t)
    (ht : eval (.Call fe (e :: es) [] pos) X.env = (do callWith pos (← eval fe X.env) [] (backTo pos (starEach (e :: es) X.env)) (backToKw pos (keywordEach [] X.env))) := by rfl)
    (he : starEach (e :: es) X.env = (false, eval e X.env) :: starEach es X.env := by rfl) (hpl : (backTo pos (starEach es X.env)).any (·.1) = false := by rfl) : PE X (.Call fe (e :: es) [] pos) (tMakeV C sp dvs E tf t) := by
  refine ⟨fun pins s σ H Q I h => ?_⟩
  refine Call_ (thn (hf.run pins s σ H _ I h) fun u s0 ⟨y, H0, I0, ry, ey, q0⟩ => ?_) ht
  subst ey
  obtain rfl : u = Value.ref C := ry
  refine PySem.W.callWith_K (h₀ := X.base) I0.ok.mod.kin M.kp (thn (ha.run pos pins s0 σ H0 _ I0 q0) fun us s1 ⟨vs, H1, I1, r, q⟩ => ⟨I1.kIn, ?_⟩) he hpl
  exact run_make M F hr hb hd hx I1 r q
end
end SI
end
section
set_option maxHeartbeats 4000000
namespace K15
open PySem L2 Evl G TM
theorem eqvAll_ints : ∀ ns ms : List Int, PyData.eqvAll (ns.map PyData.int) (ms.map PyData.int) = decide (ns = ms)
  | [], [] => by simp [PyData.eqvAll]
  | [], m :: ms => by simp [PyData.eqvAll]
  | n :: ns, [] => by simp [PyData.eqvAll]
  | n :: ns, m :: ms => by
    simp only [List.map_cons, PyData.eqvAll, PyData.eqv, eqvAll_ints ns ms]
    by_cases h : n = m <;> by_cases h2 : ns = ms <;> simp [h, h2]
theorem eqv_dInts (ns ms : List Int) : PyData.eqv (dInts ns) (dInts ms) = decide (ns = ms) := by unfold dInts; simp only [PyData.eqv]; exact eqvAll_ints ns ms
abbrev lcm2 (ns ms : List Int) : Nat := Nat.lcm ns.length ms.length
def RetT (C : Addr) (ns : List Int) (H : Hp) (Q : VK) : Prop := ∀ p H2, H p = none → Ex H H2 → TabN C H H2 p ns → Q (.ref p) H2
/-- the days asked for that are served on themselves -/
def fixL (ns : List Int) : List Int := ((List.range ns.length).filter fun (i : Nat) => decide (V.int (i : Int) = V.int (ns.getD i 0))).map fun (i : Nat) => (i : Int)
def repB (ns : List Int) (n : Int) : Bool := ((List.range ns.length).map fun (i : Nat) => decide (onL ns ((i : Int) + n) = ns.getD i 0 + n)).all id
theorem repB_iff {ns : List Int} (g : Good ns) {n : Int} : repB ns n = true ↔ Per (onL ns) n := by
  unfold repB
  rw [List.all_map, List.all_eq_true]
  constructor
  · exact fun h => per_of_first g fun i hi => of_decide_eq_true (h i (List.mem_range.mpr hi))
  · exact fun h i hi => decide_eq_true (first_of_per g h (List.mem_range.mp hi))
structure Cme (P : Program) (w : World) (K : PySem.W.Frag) (mg : Str → Option Value) (base : Heap) (C : Addr) (m : Str) (f : Addr) (fd : FuncData) (ps : List Str) (k : Nat) (sp : Sp) : Prop where
  ok : FnOk P w K mg base CX0 k f fd ps sp
  rd : ∃ x : Value × Addr, ClX.CRead K C x.1 ∧ ClX.CMet K C x.1 m x.2 f
  bd : Binds K fd ps []
abbrev mBe : List Int → List Int → Int → Int := fun ns ms x => onL ns (onL ms x)
/-! ### the promises -/
def sp_common (K : PySem.W.Frag) (C : Addr) : Sp := fun vs H Q _ => ∃ (a b : Addr) (ns ms : List Int), vs = [.ref a, .ref b] ∧ Tab K C H a ns ∧ Tab K C H b ms ∧ Good ns ∧ Good ms ∧ lcm2 ns ms ≤ 600 ∧ RetV (.int (lcm2 ns ms : Int)) H Q
def sp_behind (K : PySem.W.Frag) (C : Addr) : Sp := fun vs H Q _ => ∃ (a b : Addr) (ns ms : List Int), vs = [.ref a, .ref b] ∧ Tab K C H a ns ∧ Tab K C H b ms ∧ Good ns ∧ Good ms ∧ lcm2 ns ms ≤ 600 ∧ RetT C (listF (lcm2 ns ms) (mBe ns ms)) H Q
def sp_count : Sp := fun vs H Q _ => ∃ i : Int, vs = [.int i] ∧ 0 ≤ i ∧ RetV .non H Q
def sp_isc : Sp := fun vs H Q _ => ∃ i : Int, vs = [.int i] ∧ 0 ≤ i ∧ RetV (.bl true) H Q
def sp_len : Sp := fun vs H Q _ => ∃ i : Int, vs = [.int i] ∧ 1 ≤ i ∧ RetV .non H Q
def sp_ask : Sp := fun vs H Q _ => ∃ i : Int, vs = [.int i] ∧ 0 ≤ i ∧ i ≤ 1000000 ∧ RetV .non H Q
def sp_fixed (K : PySem.W.Frag) (C : Addr) : Sp := fun vs H Q _ => ∃ (a : Addr) (ns : List Int), vs = [.ref a] ∧ Tab K C H a ns ∧ Good ns ∧ RetL ((fixL ns).map V.int) H Q
def sp_moved (K : PySem.W.Frag) (C : Addr) : Sp := fun vs H Q _ => ∃ (a : Addr) (ns : List Int) (d : Int), vs = [.ref a, .int d] ∧ Tab K C H a ns ∧ Good ns ∧ RetT C (listF ns.length fun x => onL ns x + d) H Q
def sp_later (K : PySem.W.Frag) (C : Addr) : Sp := fun vs H Q _ => ∃ (a : Addr) (ns : List Int) (d : Int), vs = [.ref a, .int d] ∧ Tab K C H a ns ∧ Good ns ∧ RetT C (listF ns.length fun x => onL ns (x + d)) H Q
def sp_str (K : PySem.W.Frag) (C : Addr) : Sp := fun vs H Q _ => ∃ (a : Addr) (ns : List Int) (n : Nat), vs = [.ref a, .int (n : Int)] ∧ Tab K C H a ns ∧ Good ns ∧ 1 ≤ n ∧ n * ns.length ≤ 600 ∧ RetT C (listF (n * ns.length) (onL ns)) H Q
def sp_plain (C : Addr) : Sp := fun vs H Q _ => ∃ n : Nat, vs = [.ref C, .int (n : Int)] ∧ 1 ≤ n ∧ n ≤ 600 ∧ RetT C (listF n fun x => x) H Q

def sp_eq (K : PySem.W.Frag) (C : Addr) : Sp := fun vs H Q _ => ∃ (a b : Addr) (ns ms : List Int), vs = [.ref a, .ref b] ∧ Tab K C H a ns ∧ Tab K C H b ms ∧ RetV (.bl (decide (ns = ms))) H Q
def sp_repeats (K : PySem.W.Frag) (C : Addr) : Sp := fun vs H Q _ => ∃ (a : Addr) (ns : List Int) (n : Int), vs = [.ref a, .int n] ∧ Tab K C H a ns ∧ Good ns ∧ RetV (.bl (repB ns n)) H Q
def sp_shortest (K : PySem.W.Frag) (C : Addr) : Sp := fun vs H Q _ => ∃ (a : Addr) (ns : List Int) (d : Nat), vs = [.ref a] ∧ Tab K C H a ns ∧ Good ns ∧ Least ns d ∧ RetT C (listF d (onL ns)) H Q
section
variable {K : PySem.W.Frag} {σ : L2.St} {H : Hp} {a b C CT p : Addr} {i j n : Nat} {tA : TA} {te tl ta tb : TE} {tu : TS} {Q : VK} {E E' : XK} {D : Ends} {tz : TS} {ns ms : List Int} {g : TG} {vs : List Nat} {t : TT} {m : Int} {M : List Int → List Int → Int → Int} {Mf : List Int → List Int → Nat → Bool} {c : Bool}
theorem spv_eq (h1 : Tab K C H a ns) (h2 : Tab K C H b ms) : SpV (sp_eq K C) ([.ref a, .ref b] ++ []) H (.bl (decide (ns = ms))) := fun H1 e Q q E => ⟨a, b, ns, ms, rfl, h1.mono e, h2.mono e, q⟩
theorem spv_repeats (h : Tab K C H a ns) (g : Good ns) : SpV (sp_repeats K C) ([.ref a, .int m] ++ []) H (.bl (repB ns m)) := fun H1 e Q q E => ⟨a, ns, m, rfl, h.mono e, g, q⟩
theorem spv_common (h1 : Tab K C H a ns) (h2 : Tab K C H b ms) (g : Good ns) (g2 : Good ms) (hl : lcm2 ns ms ≤ 600) : SpV (sp_common K C) ([.ref a, .ref b] ++ []) H (.int (lcm2 ns ms : Int)) := fun H1 e Q q E => ⟨a, b, ns, ms, rfl, h1.mono e, h2.mono e, g, g2, hl, q⟩
theorem spm_behind (h1 : Tab K C H a ns) (h2 : Tab K C H b ms) (g : Good ns) (g2 : Good ms) (hl : lcm2 ns ms ≤ 600) : SpM (sp_behind K C) ([.ref a, .ref b] ++ []) H (fun H2 p => TabN C H H2 p (listF (lcm2 ns ms) (mBe ns ms))) := fun H1 e Q q E =>
  ⟨a, b, ns, ms, rfl, h1.mono e, h2.mono e, g, g2, hl, fun p H2 hp e2 t => q p H2 hp e2 (t.back e)⟩
theorem spv_count (h : 0 ≤ m) : SpV sp_count ([.int m] ++ []) H .non := fun H1 _ Q q E => ⟨m, rfl, h, q⟩
theorem spv_isc (h : 0 ≤ m) : SpV sp_isc ([.int m] ++ []) H (.bl true) := fun H1 _ Q q E => ⟨m, rfl, h, q⟩
theorem spv_len (h : 1 ≤ m) : SpV sp_len ([.int m] ++ []) H .non := fun H1 _ Q q E => ⟨m, rfl, h, q⟩
theorem spv_ask (h : 0 ≤ m) (h2 : m ≤ 1000000) : SpV sp_ask ([.int m] ++ []) H .non := fun H1 _ Q q E => ⟨m, rfl, h, h2, q⟩
theorem spl_fixed (h : Tab K C H a ns) (g : Good ns) : SpL (sp_fixed K C) [.ref a] H ((fixL ns).map V.int) := fun H1 e Q q E => ⟨a, ns, rfl, h.mono e, g, q⟩
theorem spm_moved (h : Tab K C H a ns) (g : Good ns) : SpM (sp_moved K C) [.ref a, .int m] H (fun H2 p => TabN C H H2 p (listF ns.length fun x => onL ns x + m)) := fun H1 e Q q E => ⟨a, ns, m, rfl, h.mono e, g, fun p H2 hp e2 t => q p H2 hp e2 (t.back e)⟩
theorem spm_later (h : Tab K C H a ns) (g : Good ns) : SpM (sp_later K C) [.ref a, .int m] H (fun H2 p => TabN C H H2 p (listF ns.length fun x => onL ns (x + m))) := fun H1 e Q q E => ⟨a, ns, m, rfl, h.mono e, g, fun p H2 hp e2 t => q p H2 hp e2 (t.back e)⟩
theorem spm_str {n : Nat} (h : Tab K C H a ns) (g : Good ns) (h1 : 1 ≤ n) (h2 : n * ns.length ≤ 600) : SpM (sp_str K C) [.ref a, .int (n : Int)] H (fun H2 p => TabN C H H2 p (listF (n * ns.length) (onL ns))) := fun H1 e Q q E => ⟨a, ns, n, rfl, h.mono e, g, h1, h2, fun p H2 hp e2 t => q p H2 hp e2 (t.back e)⟩
theorem q_rng {x : Int} (h : Ev te σ H (.int x)) (k : ∀ p H1, H p = none → Ex H H1 → H1 p = some (.rng 0 x) → tz D (σ.set i (some (.ref p))) H1) : tSeq (tAsg (tCB (fun vs H Q => ∃ j, vs = [V.int j] ∧ ∀ p, H p = none → Q (.ref p) (upd H p (.rng 0 j))) (tCons te tNil)) (gName i)) tz D σ H :=
  h H (Ex.refl H) _ fun H1 e1 => ⟨_, rfl, fun p hp => k p _ (fresh_back e1 hp) (e1.trans (Ex.new hp)) upd_same⟩
theorem spm_shortest {d : Nat} (h1 : Tab K C H a ns) (g : Good ns) (hd : Least ns d) : SpM (sp_shortest K C) [.ref a] H (fun H2 p => TabN C H H2 p (listF d (onL ns))) := fun H1 e Q q E => ⟨a, ns, d, rfl, h1.mono e, g, hd, fun p H2 hp e2 t => q p H2 hp e2 (t.back e)⟩
theorem evm_meth {m : Str} {sp : Sp} {dx : Addr} {fs : List (Str × V)} {dvs ws : List V} {MM : Hp → Addr → Prop} (h : Ev ta σ H (.ref p)) (ho : H p = some (.ins C dx fs)) (hl : fs.lookup m = none) (ha : EvA tA σ H ws) (hs : SpM sp (.ref p :: (ws ++ dvs)) H MM) : EvM (tMeth C m sp dvs E ta tA) σ H MM := fun H1 e Q q =>
  h H1 e _ fun H2 e2 => ⟨p, dx, fs, rfl, (e.trans e2) p _ ho, hl, ha H2 (e.trans e2) _ fun H3 e3 => hs H3 ((e.trans e2).trans e3) Q (fun q' H4 n4 e4 h4 => q q' H4 (fresh_back (e2.trans e3) n4) ((e2.trans e3).trans e4) h4) E⟩
theorem listF_map {n : Nat} {f : Int → Int} : (listF n f).map V.int = (List.range n).map fun (i : Nat) => V.int (f (i : Int)) := by unfold listF; rw [List.map_map]; rfl
theorem evm_makeL (ha : EvL ta σ H (ns.map V.int)) (g : Good ns) : EvM (tMake C (sp_init K C) [] E (tCons ta tNil)) σ H (fun H2 p => TabN C H H2 p ns) := fun H1 e Q q =>
  ha H1 e _ fun s H2 hs e2 h2 => make_tab (σ := σ) (ta := tC (.ref s)) ev_c (.inl h2) g fun x l dx H3 hx hl e3 h3 h4 => q x H3 (fresh_back e2 hx) (e2.trans e3) ⟨dx, l, fresh_back (e.trans e2) hl, h3, h4⟩
theorem el_lcR2 {lo hi : Int} (f : Nat → Bool) (v : Nat → V) (h : EvA tA σ H [.int lo, .int hi]) (hn : -100000 ≤ lo ∧ lo ≤ hi ∧ hi ≤ 40000 ∧ hi - lo ≤ 40000) (hw : ∀ x, wipe ((wipe σ vs).set j (some x)) vs = wipe σ vs)
    (ht : ∀ (i : Nat) H1, Ex H H1 → lo + (i : Int) < hi → EvT t ((wipe σ vs).set j (some (.int (lo + (i : Int))))) H1 (f i)) (he : ∀ (i : Nat) H1, Ex H H1 → lo + (i : Int) < hi → f i = true → Ev te ((wipe σ vs).set j (some (.int (lo + (i : Int))))) H1 (v i)) :
    EvL (tLc (iRng2 tA) (gName j) t te vs) σ H (given (hi - lo).toNat f v) := fun H0 e Q q => h H0 e _ fun H1 e1 => ⟨lo, hi, rfl, ⟨by omega, by omega, by omega, by omega⟩, fun Dl hD =>
  lc_range (lo := lo) (n := (hi - lo).toNat) (Cw H1 f v Dl) ⟨hD, Ex.new hD, upd_same⟩ (fun i H' hi p => ⟨hw _, cw_turn p (by omega) (ht i H1 (e.trans e1) (by omega)) (fun hf => he i H1 (e.trans e1) (by omega) hf)⟩) (fun H' p => q Dl H' (fresh_back e1 p.1) (e1.trans p.2.1) p.2.2)⟩
end
section
variable {P : Program} {w : World} {K : PySem.W.Frag} {mg : Str → Option Value} {base : Heap} {C : Addr}
theorem ok_eq {f : Addr} {fd : FuncData} (F : Fun K "__eq__" "Table.__eq__" s_Table___eq__ f fd) (T : Txt K mg C) : FnOk P w K mg base CX0 1 f fd ["self", "other"] (sp_eq K C) := by
  refine F.ok sc_Table___eq__ (fun vs H Q E h => ?_) (fun cdv A outer s H vs Q E hr h => ?_)
  · obtain ⟨a, b, ns, ms, rfl, _⟩ := h
    rfl
  · obtain ⟨a, b, ns, ms, rfl, ⟨dx, l, a1, a2⟩, ⟨dy, m, b1, b2⟩, k⟩ := h
    refine ⟨_, (pss_one (ps_ret (pe_and (pe_callB call_isi (by rfl) T.b_isinstance (by decide +kernel) (pa_cons (pv 1) (pa_cons (pe_glob (v := .ref C) rfl T.mg_Table rfl) pa_nil))) (pe_one (pe_cmpR (eqD (K := K) rfl hr.units) (pe_fldK (K := K) rfl (pv 0) rfl) (pe_fldK (K := K) rfl (pv 1) rfl) (nomark _)))))), ?_⟩
    have sh : ∀ ns : List Int, SeqAt.shaped (dInts ns) = true := fun ns => shaped_small (smallD_of ns) (by have := depth_ints ns; omega)
    refine s_ret (ev_is (ev_andV (a := true) (ev_cb (ea_cons (ev_var rfl) (ea_cons ev_c ea_nil)) (rc_isi (.own C) (fun H1 e => .base (T.tyC H1 b dy _ (e b _ b1))) (by unfold PySem.W.kitOne; rw [if_pos (by simp)]))) fun _ => evd_eqD (evd_ref (ev_fld (ev_var rfl) a1 T.cl T.nD lk_days) (dp_ints a2)) (evd_ref (ev_fld (ev_var rfl) b1 T.cl T.nD lk_days) (dp_ints b2)) (sh ns) (sh ms)) (by rw [eqv_dInts]; rfl)) k
theorem ok_common {f f2 p2 : Addr} {fd fd2 : FuncData} (F : Fun K "_common_length" "_common_length" s__common_length f fd) (T : Txt K mg C) (m_length : Prp P w K mg base C "length" p2 f2 fd2 ["self"] 1 (sp_length K C)) : FnOk P w K mg base CX0 3 f fd ["table", "other_table"] (sp_common K C) := by
  refine F.ok sc__common_length (fun vs H Q E h => ?_) (fun cdv A outer s H vs Q E hr h => ?_)
  · obtain ⟨a, b, ns, ms, rfl, _⟩ := h
    rfl
  · obtain ⟨a, b, ns, ms, rfl, ta, tb, g, g2, hl, k⟩ := h
    obtain ⟨mc, tkq, rd, cv⟩ := T.cM
    obtain ⟨dx, l, a1, a2⟩ := id ta
    obtain ⟨dy, m, b1, b2⟩ := id tb
    have hgm := g.most
    have hgm2 := g2.most
    refine ⟨_, (pss_cons (ps_set (i := 2) sc__common_length.nd rfl (Or.inl rfl) (pe_callBfun cr_lcm (by rfl) T.b_lcm (pa_cons (pe_prop (pv 0) T.cl m_length.pr m_length.ok (hr.mono (by decide)) m_length.bd .nil pass0 (by rfl)) (pa_cons (pe_prop (pv 1) T.cl m_length.pr m_length.ok (hr.mono (by decide)) m_length.bd .nil pass0 (by rfl)) pa_nil)))) (pss_cons (ps_if (pt_cmpR op_gt (pv 2) (ClX.pe_cval (pe_glob (v := .ref C) rfl T.mg_Table rfl)) (nomark _)) (pss_one ps_never) pss_nil) (pss_one (ps_ret (pv 2))))), ?_⟩
    refine q_asg (v := .int (lcm2 ns ms : Int)) (ev_is (ev_cb (ea_cons (ev_prop (ev_var rfl) a1 (spv_length ta)) (ea_cons (ev_prop (ev_var rfl) b1 (spv_length tb)) ea_nil)) (rc_lcm (by omega) (by omega))) (by rw [Int.natAbs_natCast, Int.natAbs_natCast])) fun H1 e1 => ?_
    refine q_when (b := false) (et_test (ev_op (ev_var rfl) (ev_const ev_glob rd cv) (rv_res rv_I0 (by simp; omega)))) (fun q => nomatch q) fun _ H2 e2 => ?_
    exact s_ret (ev_var rfl) fun H3 e3 => k H3 ((e1.trans e2).trans e3)
theorem ok_isc {f f1 : Addr} {fd fd1 : FuncData} (F : Fun K "is_count" "is_count" s_is_count f fd) (T : Txt K mg C) (c_is_day : Cal P w K mg base "is_day" f1 fd1 ["value"] 1 sp_is_day) : FnOk P w K mg base CX0 2 f fd ["value"] sp_isc := by
  refine F.ok sc_is_count (fun vs H Q E h => ?_) (fun cdv A outer s H vs Q E hr h => ?_)
  · obtain ⟨i, rfl, _⟩ := h
    rfl
  · obtain ⟨i, rfl, hi, k⟩ := h
    refine ⟨_, (pss_one (ps_ret (pe_and (pe_call c_is_day.ok (hr.mono (by decide)) (by rfl) c_is_day.mgx c_is_day.kp c_is_day.bd .nil pass0 (pa_cons (pv 0) pa_nil)) (pe_one (pe_cmpR op_ge (pv 0) pe_int (nomark _)))))), ?_⟩
    exact s_ret (ev_is (ev_andV (a := true) (ev_call (ea_cons (ev_var rfl) ea_nil) spv_is_day) fun _ => ev_op (ev_var rfl) ev_c rv_I0) (congrArg V.bl (decide_eq_true hi))) fun H1 e => k H1 e
theorem ok_need_count {f f1 : Addr} {fd fd1 : FuncData} (F : Fun K "need_count" "need_count" s_need_count f fd) (T : Txt K mg C) (c_is_count : Cal P w K mg base "is_count" f1 fd1 ["value"] 2 sp_isc) : FnOk P w K mg base CX0 3 f fd ["value"] sp_count := by
  refine F.ok sc_need_count (fun vs H Q E h => ?_) (fun cdv A outer s H vs Q E hr h => ?_)
  · obtain ⟨i, rfl, _⟩ := h
    rfl
  · obtain ⟨i, rfl, hi, k⟩ := h
    refine ⟨_, (pss_one (ps_if (pt_not (pt_val (pe_call c_is_count.ok (hr.mono (by decide)) (by rfl) c_is_count.mgx c_is_count.kp c_is_count.bd .nil pass0 (pa_cons (pv 0) pa_nil)))) (pss_one ps_never) pss_nil)), ?_⟩
    exact s_when (et_not (et_B (ev_call (ea_cons (ev_var rfl) ea_nil) (spv_isc hi)))) (fun h => by cases h) fun _ H1 e => k H1 e
theorem ok_need_length {f f1 : Addr} {fd fd1 : FuncData} (F : Fun K "need_length" "need_length" s_need_length f fd) (T : Txt K mg C) (c_is_count : Cal P w K mg base "is_count" f1 fd1 ["value"] 2 sp_isc) : FnOk P w K mg base CX0 3 f fd ["value"] sp_len := by
  refine F.ok sc_need_length (fun vs H Q E h => ?_) (fun cdv A outer s H vs Q E hr h => ?_)
  · obtain ⟨i, rfl, _⟩ := h
    rfl
  · obtain ⟨i, rfl, hi, k⟩ := h
    have hne : ¬ V.int i = V.int 0 := fun z => by injection z with z; omega
    refine ⟨_, (pss_one (ps_if (PW.pt (pw_or (pt_not (pt_val (pe_call c_is_count.ok (hr.mono (by decide)) (by rfl) c_is_count.mgx c_is_count.kp c_is_count.bd .nil pass0 (pa_cons (pv 0) pa_nil)))) (pw_or1 (pt_cmpR op_eq (pv 0) pe_int (nomark _))))) (pss_one ps_never) pss_nil)), ?_⟩
    exact s_when (b := false) (et_or (a := false) (b := false) (et_not (a := true) (et_B (ev_call (ea_cons (ev_var rfl) ea_nil) (spv_isc (by omega))))) fun _ => et_test (ev_op (ev_var rfl) ev_c (rv_res (rv_eq rfl) (congrArg V.bl (decide_eq_false hne))))) (fun h => by cases h) fun _ H1 e => k H1 e
theorem ok_ask {f f1 : Addr} {fd fd1 : FuncData} (F : Fun K "_need_askings" "_need_askings" s__need_askings f fd) (T : Txt K mg C) (c_need_count : Cal P w K mg base "need_count" f1 fd1 ["value"] 3 sp_count) : FnOk P w K mg base CX0 4 f fd ["count"] sp_ask := by
  refine F.ok sc__need_askings (fun vs H Q E h => ?_) (fun cdv A outer s H vs Q E hr h => ?_)
  · obtain ⟨i, rfl, _⟩ := h
    rfl
  · obtain ⟨i, rfl, hi, hi2, k⟩ := h
    refine ⟨_, (pss_cons (ps_expr (pe_call c_need_count.ok (hr.mono (by decide)) (by rfl) c_need_count.mgx c_need_count.kp c_need_count.bd .nil pass0 (pa_cons (pv 0) pa_nil))) (pss_one (ps_if (pt_cmpR op_gt (pv 0) (pe_glob (v := .int 1000000) rfl T.mg_MOST_ASKINGS.choose_spec ⟨_, rfl⟩) (nomark _)) (pss_one ps_never) pss_nil))), ?_⟩
    refine q_drop (ev_call (ea_cons (ev_var rfl) ea_nil) (spv_count hi)) fun H1 e1 => ?_
    exact s_when (b := false) (et_test (ev_op (ev_var rfl) ev_glob (rv_res rv_I0 (congrArg V.bl (decide_eq_false (by omega)))))) (fun h => by cases h) fun _ H2 e => k H2 (e1.trans e)
end
end K15
end
section
set_option maxHeartbeats 4000000
namespace K15
open PySem L2 Evl G TM
theorem moved_rule {ns : List Int} (g : Good ns) {d : Int} : Rule ns.length (fun x => onL ns x + d) := ⟨g.pos, g.most, fun x y h => by have := onL_mono g x y h; show onL ns x + d ≤ onL ns y + d; omega, fun x => by show onL ns (x + ns.length) + d = onL ns x + d + ns.length; rw [onL_per g]; omega⟩
theorem later_on_rule {ns : List Int} (g : Good ns) {d : Int} : Rule ns.length (fun x => onL ns (x + d)) := ⟨g.pos, g.most, fun x y h => onL_mono g _ _ (by omega), fun x => by show onL ns (x + ns.length + d) = onL ns (x + d) + ns.length; rw [← onL_per g]; congr 1; omega⟩
theorem str_rule {ns : List Int} (g : Good ns) {n : Nat} (h1 : 1 ≤ n) (h2 : n * ns.length ≤ 600) : Rule (n * ns.length) (onL ns) := ⟨Nat.le_trans g.pos (Nat.le_mul_of_pos_left _ h1), h2, onL_mono g, per_dvd (onL_per g) (Nat.dvd_mul_left _ _)⟩
theorem plain_rule {n : Nat} (h1 : 1 ≤ n) (h2 : n ≤ 600) : Rule n (fun x => x) := ⟨h1, h2, fun x y h => h, fun x => rfl⟩
theorem on_first {ns : List Int} (g : Good ns) {i : Nat} (h : i < ns.length) : onL ns (i : Int) = ns.getD i 0 := by
  have := on_at g (t := 0) h
  simpa using this
section
variable {K : PySem.W.Frag} {σ : L2.St} {H : Hp} {te : TE} {n : Int}
theorem el_lstRg1 (h : Ev te σ H (.int n)) (hr : RgOk 0 n) : EvL (tLstRg (tRg1 te)) σ H (rgV 0 n) := fun H1 e Q q =>
  h H1 e _ fun H2 e2 => ⟨n, rfl, hr, fun p hp => q p _ (fresh_back e2 hp) (e2.trans (Ex.new hp)) upd_same⟩
end
theorem list_map_on {ns : List Int} (g : Good ns) : ns = listF ns.length (onL ns) := (list_on g).symm
theorem mxI_eq {l : List Int} (h : l ≠ []) {m : Int} (h1 : m ∈ l) (h2 : ∀ y, y ∈ l → y ≤ m) : mxI l = m := by
  have := mxI_is h
  exact Int.le_antisymm (h2 _ this.1) (this.2 _ h1)
theorem cut_take {xs : List V} {d : Nat} (h : d ≤ xs.length) : cutV xs none (some (d : Int)) = xs.take d := by
  unfold cutV
  simp [HT.sIx, h]
  rw [if_neg (by omega)]
  omega
theorem given_if {n : Nat} {f : Nat → Bool} {v : Nat → Int} : given n f (fun i => V.int (v i)) = (((List.range n).filter f).map v).map V.int := by unfold given; rw [List.map_map]; rfl
/-- the lengths that divide -/
def lens (L : Nat) : List Int := ((List.range L).filter fun (i : Nat) => decide (V.int (((L : Int)).fmod (1 + (i : Int))) = V.int 0)).map fun (i : Nat) => 1 + (i : Int)
theorem lens_given (L : Nat) : (lens L).map V.int = given ((L : Int) + 1 - 1).toNat (fun i => decide (V.int (((L : Int)).fmod (1 + (i : Int))) = V.int 0)) (fun i => V.int (1 + (i : Int))) := by
  rw [show ((L : Int) + 1 - 1).toNat = L by omega, given_if]; rfl
theorem mem_lens {L : Nat} {y : Int} : y ∈ lens L ↔ ∃ e : Nat, 1 ≤ e ∧ e ≤ L ∧ e ∣ L ∧ y = (e : Int) := by
  unfold lens
  rw [List.mem_map]
  constructor
  · rintro ⟨i, hi, rfl⟩
    rw [List.mem_filter, List.mem_range] at hi
    refine ⟨1 + i, by omega, by omega, ?_, by omega⟩
    have h := of_decide_eq_true hi.2
    injection h with h
    rw [Int.fmod_eq_emod_of_nonneg _ (by omega)] at h
    exact Nat.dvd_of_mod_eq_zero (by exact_mod_cast h)
  · rintro ⟨e, h1, h2, h3, rfl⟩
    refine ⟨e - 1, ?_, by omega⟩
    rw [List.mem_filter, List.mem_range]
    refine ⟨by omega, decide_eq_true ?_⟩
    congr 1
    rw [Int.fmod_eq_emod_of_nonneg _ (by omega), show 1 + ((e - 1 : Nat) : Int) = (e : Int) by omega]
    have := Nat.mod_eq_zero_of_dvd h3
    omega
section
variable {K : PySem.W.Frag} {σ : L2.St} {H : Hp} {te : TE} {D : Ends} {M : Hp → Addr → Prop} {xs ys : List V}
theorem s_retM (h : EvM te σ H M) (k : ∀ p H1, H p = none → Ex H H1 → M H1 p → D.rt (.ref p) H1) : tRet te D σ H := h H (Ex.refl H) _ k
theorem el_is (h : EvL te σ H xs) (e : xs = ys) : EvL te σ H ys := e ▸ h
end
section
variable {P : Program} {w : World} {K : PySem.W.Frag} {mg : Str → Option Value} {base : Heap} {C : Addr}
theorem ok_repeats {f f1 f2 : Addr} {fd fd1 fd2 : FuncData} (F : Fun K "_repeats" "_repeats" s__repeats f fd) (T : Txt K mg C) (m_on : Met P w K mg base C "on" f1 fd1 ["self", "day"] 3 (sp_on K C)) (m_asked_rows : Met P w K mg base C "asked_rows" f2 fd2 ["self"] 1 (sp_rows K C)) :
    FnOk P w K mg base CX0 4 f fd ["table", "length"] (sp_repeats K C) := by
  refine F.ok sc__repeats (fun vs H Q E h => ?_) (fun cdv A outer s H vs Q E hr h => ?_)
  · obtain ⟨a, ns, n, rfl, _⟩ := h
    rfl
  · obtain ⟨a, ns, n, rfl, t, g, k⟩ := h
    obtain ⟨dx, l, h1, h2⟩ := id t
    have hgm := g.most
    have e0 : (ns.map V.int).length = ns.length := List.length_map ..
    refine ⟨_, (pss_one (ps_ret (pe_callB (allL (K := K) rfl rfl) (by rfl) T.b_all (by decide +kernel) (pa_cons (pe_lc (own := [("asked", 2), ("served", 3)]) (g := (gTup K 2 (gCons (gName 2) (gCons (gName 3) gNil)))) (by rfl) sc__repeats.nd (piL (K := K) rfl (pe_meth0 (pv 0) T.cl m_asked_rows.me m_asked_rows.ok (hr.mono (by decide)) m_asked_rows.bd .nil pass0)) (blkOk_by (own := [("asked", 2), ("served", 3)]) (N := ["table", "length", "asked", "served"]) (sc := defScope s__repeats) (by decide +kernel)) (fun _ _ _ _ _ => (pg_tup (by rfl) (pgs_cons (pg_name (i := 2) sc__repeats.nd rfl (Or.inl rfl)) (pgs_cons (pg_name (i := 3) sc__repeats.nd rfl (Or.inl rfl)) pgs_nil)))) (fun _ _ _ _ _ => pts_nil) (fun _ _ _ _ _ => (pe_cmpR op_eq (pe_meth (pv 0) T.cl m_on.me m_on.ok (hr.mono (by decide)) m_on.bd .nil pass0 (pa_cons (pe_op op_add (pv 2) (pv 1)) pa_nil)) (pe_op op_add (pv 3) (pv 1)) (nomark _)))) pa_nil)))), ?_⟩
    refine s_ret (ev_cbL (el_lcR (fun _ => true) (fun i => V.bl (decide (onL ns ((i : Int) + n) = ns.getD i 0 + n))) (evr_meth (ev_var rfl) h1 rfl ea_nil (spr_rows t)) (by omega) (fun _ _ => rfl) (fun _ _ _ _ _ => lc_yes) (fun i x H1 e1 hx _ => ?_)) fun p H1 e1 hp => ?_) k
    · have hi : i < ns.length := by have := (List.getElem?_eq_some_iff.mp hx).1; omega
      have e2 : x = .int (ns.getD i 0) := by have := getI hi; rw [hx] at this; exact Option.some.inj this
      subst e2
      exact ev_is (ev_op (ev_meth (ev_var rfl) (e1 a _ h1) rfl (ea_cons (ev_op (ev_var rfl) (ev_var rfl) rv_I0) ea_nil) (spv_on (t.mono e1) g)) (ev_op (ev_var rfl) (ev_var rfl) rv_I0) (rv_eq rfl)) (congrArg V.bl (by simp))
    · have := rc_all (K := K) (H := H1) (p := p) (bs := (List.range ns.length).map fun (i : Nat) => decide (onL ns ((i : Int) + n) = ns.getD i 0 + n)) (sq_of (by rw [hp, given_all, e0, List.map_map]; rfl))
      exact this
theorem ok_shortest {f f1 f2 f3 p1 : Addr} {fd fd1 fd2 fd3 : FuncData} (F : Fun K "shortest" "Table.shortest" s_Table_shortest f fd) (T : Txt K mg C) (mkI : Mk K C f3) (m_length : Prp P w K mg base C "length" p1 f1 fd1 ["self"] 1 (sp_length K C)) (c__repeats : Cal P w K mg base "_repeats" f2 fd2 ["table", "length"] 4 (sp_repeats K C)) (m_init : Ini P w K mg base C f3 fd3) :
    FnOk P w K mg base CX0 5 f fd ["self"] (sp_shortest K C) := by
  refine F.ok sc_Table_shortest (fun vs H Q E h => ?_) (fun cdv A outer s H vs Q E hr h => ?_)
  · obtain ⟨a, ns, d, rfl, _⟩ := h
    rfl
  · obtain ⟨a, ns, d, rfl, t, g, hd, k⟩ := h
    obtain ⟨dx, l, h1, h2⟩ := id t
    have hgm := g.most
    have hgp := g.pos
    have hdr := hd.rule g
    have hdL : d ≤ ns.length := Nat.le_of_dvd (by omega) hd.dvd
    refine ⟨_, (pss_cons (ps_setLc (i := 1) (own := [("length", 2)]) (g := (gName 2)) (by rfl) sc_Table_shortest.nd rfl rfl (sw_true rfl rfl rfl (by decide +kernel)) (pi_range2 (by rfl) T.b_range (pa_cons pe_int (pa_cons (pe_op op_add (pe_prop (pv 0) T.cl m_length.pr m_length.ok (hr.mono (by decide)) m_length.bd .nil pass0 (by rfl)) pe_int) pa_nil))) (blkOk_by (own := [("length", 2)]) (N := ["self", "lengths", "length"]) (sc := defScope s_Table_shortest) (by decide +kernel)) (fun _ _ _ _ _ => (pg_name (i := 2) sc_Table_shortest.nd rfl (Or.inl rfl))) (fun _ _ _ _ _ => (pts_one (pt_cmpR op_eq (pe_op op_modN (pe_prop (pv 0) T.cl m_length.pr m_length.ok (hr.mono (by decide)) m_length.bd .nil pass0 (by rfl)) (pv 2)) pe_int (nomark _)))) (fun _ _ _ _ _ => (pv 2))) (pss_one (ps_ret (pe_make mkI m_init.ok (hr.mono (by decide)) (by rfl) T.mg_Table m_init.bd .nil pass0 (pa_cons (pe_slice sl_list (pe_fldK (K := K) rfl (pv 0) rfl) po_none (po_some (pe_callB (minL (K := K) rfl rfl) (by rfl) T.b_min (by decide +kernel) (pa_cons (pe_lc (own := [("length", 2)]) (g := (gName 2)) (by rfl) sc_Table_shortest.nd (piL (K := K) rfl (pv 1)) (blkOk_by (own := [("length", 2)]) (N := ["self", "lengths", "length"]) (sc := defScope s_Table_shortest) (by decide +kernel)) (fun _ _ _ _ _ => (pg_name (i := 2) sc_Table_shortest.nd rfl (Or.inl rfl))) (fun _ _ _ _ _ => (pts_one (pt_val (pe_call c__repeats.ok (hr.mono (by decide)) (by rfl) c__repeats.mgx c__repeats.kp c__repeats.bd .nil pass0 (pa_cons (pv 0) (pa_cons (pv 2) pa_nil)))))) (fun _ _ _ _ _ => (pv 2))) pa_nil)))) pa_nil))))), ?_⟩
    refine q_asgL (xs := (lens ns.length).map V.int) (by
      rw [lens_given]
      exact el_lcR2 (fun i => decide (V.int (((ns.length : Int)).fmod (1 + (i : Int))) = V.int 0)) (fun i => V.int (1 + (i : Int))) (ea_cons ev_c (ea_cons (ev_op (ev_prop (ev_var rfl) h1 (spv_length t)) ev_c rv_I0) ea_nil)) (by omega) (fun _ => rfl)
        (fun i H1 e1 hi => et_test (ev_op (ev_op (ev_prop (ev_var rfl) (e1 a _ h1) (spv_length (t.mono e1))) (ev_var rfl) (rv_I (by omega))) ev_c (rv_eq rfl))) (fun i H1 e1 hi _ => ev_var rfl)) fun q H1 hq e1 hql => ?_
    have e0 : ((lens ns.length).map V.int).length = (lens ns.length).length := List.length_map ..
    have hl600 : (lens ns.length).length ≤ 600 := by
      unfold lens
      rw [List.length_map]
      have := List.length_filter_le (fun (i : Nat) => decide (V.int (((ns.length : Int)).fmod (1 + (i : Int))) = V.int 0)) (List.range ns.length)
      rw [List.length_range] at this
      omega
    have t1 := t.mono e1
    have hcut : cutV (ns.map V.int) none (some (d : Int)) = (listF d (onL ns)).map V.int := by
      rw [cut_take (by rw [List.length_map]; exact hdL), ← List.map_take]
      conv => lhs; rw [list_map_on g]
      rw [listF_take hdL]
    refine s_retM (evm_makeL (el_is (el_sl (ev_fld (ev_var rfl) (e1 a _ h1) T.cl T.nD lk_days) eo_none (eo_some (ev_cbL (el_lcL (fun i => repB ns ((lens ns.length).getD i 0)) (fun i => V.int ((lens ns.length).getD i 0)) (ev_var rfl) (sq_of hql) (by omega) (fun _ => rfl) (fun i x H2 e2 hx => ?_) (fun i x H2 e2 hx _ => ?_)) (fun p H2 e2 hp => ?_))) (ex_l e1 h2)) hcut) hdr.good) fun p H2 hp e2 t2 => k p H2 (fresh_back e1 hp) (e1.trans e2) (t2.back e1)
    · have hi : i < (lens ns.length).length := by have := (List.getElem?_eq_some_iff.mp hx).1; omega
      have e3 : x = .int ((lens ns.length).getD i 0) := by have := getI hi; rw [hx] at this; exact Option.some.inj this
      subst e3
      exact et_test (ev_call (ea_cons (ev_var rfl) (ea_cons (ev_var rfl) ea_nil)) (spv_repeats (t1.mono e2) g))
    · have hi : i < (lens ns.length).length := by have := (List.getElem?_eq_some_iff.mp hx).1; omega
      have e3 : x = .int ((lens ns.length).getD i 0) := by have := getI hi; rw [hx] at this; exact Option.some.inj this
      subst e3
      exact ev_var rfl
    · rw [e0, given_if] at hp
      refine rc_min (sq_of hp) ?_ ?_
      · obtain ⟨i, hi, hv⟩ := List.mem_iff_getElem.mp (mem_lens.mpr ⟨d, hd.pos, hdL, hd.dvd, rfl⟩)
        have hv2 : (lens ns.length).getD i 0 = (d : Int) := by rw [List.getD_eq_getElem?_getD, List.getElem?_eq_getElem hi]; exact hv
        exact List.mem_map.mpr ⟨i, List.mem_filter.mpr ⟨List.mem_range.mpr hi, by rw [hv2]; exact (repB_iff g).mpr hd.per⟩, hv2⟩
      · intro y hy
        obtain ⟨i, hi, rfl⟩ := List.mem_map.mp hy
        rw [List.mem_filter, List.mem_range] at hi
        have hm : (lens ns.length).getD i 0 ∈ lens ns.length := by rw [List.getD_eq_getElem?_getD, List.getElem?_eq_getElem hi.1]; exact List.getElem_mem hi.1
        obtain ⟨e, p1, p2, p3, p4⟩ := mem_lens.mp hm
        have := hi.2
        rw [p4] at this ⊢
        have := hd.min e p1 p3 ((repB_iff g).mp this)
        omega
theorem ok_behind {f f1 f2 f3 : Addr} {fd fd1 fd2 fd3 : FuncData} (F : Fun K "behind" "behind" s_behind f fd) (T : Txt K mg C) (mkI : Mk K C f3) (c__common_length : Cal P w K mg base "_common_length" f1 fd1 ["table", "other_table"] 3 (sp_common K C)) (m_on : Met P w K mg base C "on" f2 fd2 ["self", "day"] 3 (sp_on K C)) (m_init : Ini P w K mg base C f3 fd3) :
    FnOk P w K mg base CX0 6 f fd ["table", "other_table"] (sp_behind K C) := by
  refine F.ok sc_behind (fun vs H Q E h => ?_) (fun cdv A outer s H vs Q E hr h => ?_)
  · obtain ⟨a, b, ns, ms, rfl, _⟩ := h
    rfl
  · obtain ⟨a, b, ns, ms, rfl, ta, tb, g, g2, hle, k⟩ := h
    refine ⟨_, (pss_cons (ps_set (i := 2) sc_behind.nd rfl (Or.inl rfl) (pe_callTy cr_range1 (by rfl) T.b_range (by decide +kernel) (pa_cons (pe_call c__common_length.ok (hr.mono (by decide)) (by rfl) c__common_length.mgx c__common_length.kp c__common_length.bd .nil pass0 (pa_cons (pv 0) (pa_cons (pv 1) pa_nil))) pa_nil))) (pss_one (ps_ret (pe_make mkI m_init.ok (hr.mono (by decide)) (by rfl) T.mg_Table m_init.bd .nil pass0 (pa_cons (pe_lc (own := [("day", 3)]) (g := (gName 3)) (by rfl) sc_behind.nd (pi_rgV (pv 2)) (blkOk_by (own := [("day", 3)]) (N := ["table", "other_table", "days", "day"]) (sc := defScope s_behind) (by decide +kernel)) (fun _ _ _ _ _ => (pg_name (i := 3) sc_behind.nd rfl (Or.inl rfl))) (fun _ _ _ _ _ => pts_nil) (fun _ _ _ _ _ => (pe_meth (pv 0) T.cl m_on.me m_on.ok (hr.mono (by decide)) m_on.bd .nil pass0 (pa_cons (pe_meth (pv 1) T.cl m_on.me m_on.ok (hr.mono (by decide)) m_on.bd .nil pass0 (pa_cons (pv 3) pa_nil)) pa_nil)))) pa_nil))))), ?_⟩
    refine q_rng (ev_call (ea_cons (ev_var rfl) (ea_cons (ev_var rfl) ea_nil)) (spv_common ta tb g g2 hle)) fun q H1 hq e1 hr1 => ?_
    have t1 := ta.mono e1
    have t2 := tb.mono e1
    obtain ⟨dx, l, a1, a2⟩ := id t1
    obtain ⟨dy, m, b1, b2⟩ := id t2
    have hpos : 1 ≤ lcm2 ns ms := Nat.lcm_pos g.pos g2.pos
    exact (evm_makeL (K := K) (C := C) (by rw [listF_map]; exact el_lcRV _ (ev_var rfl) hr1 (by omega) (fun _ => rfl) (fun i H2 e2 hi => ev_meth (ev_var rfl) (e2 a _ a1) rfl (ea_cons (ev_meth (ev_var rfl) (e2 b _ b1) rfl (ea_cons (ev_var rfl) ea_nil) (spv_on (t2.mono e2) g2)) ea_nil) (spv_on (t1.mono e2) g))) (behind_rule g g2 hpos hle (Nat.dvd_lcm_left _ _) (Nat.dvd_lcm_right _ _)).good) H1 (Ex.refl _) _ fun p H2 hp e2 t => k p H2 (fresh_back e1 hp) (e1.trans e2) (t.back e1)
theorem ok_fixed {f f1 : Addr} {fd fd1 : FuncData} (F : Fun K "fixed_days" "Table.fixed_days" s_Table_fixed_days f fd) (T : Txt K mg C) (m_asked_rows : Met P w K mg base C "asked_rows" f1 fd1 ["self"] 1 (sp_rows K C)) :
    FnOk P w K mg base CX0 2 f fd ["self"] (sp_fixed K C) := by
  refine F.ok sc_Table_fixed_days (fun vs H Q E h => ?_) (fun cdv A outer s H vs Q E hr h => ?_)
  · obtain ⟨a, ns, rfl, _⟩ := h
    rfl
  · obtain ⟨a, ns, rfl, t, g, k⟩ := h
    obtain ⟨dx, l, h1, h2⟩ := id t
    have hgm := g.most
    have e0 : (ns.map V.int).length = ns.length := List.length_map ..
    refine ⟨_, (pss_one (ps_ret (pe_lc (own := [("asked", 1), ("served", 2)]) (g := (gTup K 2 (gCons (gName 1) (gCons (gName 2) gNil)))) (by rfl) sc_Table_fixed_days.nd (piL (K := K) rfl (pe_meth0 (pv 0) T.cl m_asked_rows.me m_asked_rows.ok (hr.mono (by decide)) m_asked_rows.bd .nil pass0)) (blkOk_by (own := [("asked", 1), ("served", 2)]) (N := ["self", "asked", "served"]) (sc := defScope s_Table_fixed_days) (by decide +kernel)) (fun _ _ _ _ _ => (pg_tup (by rfl) (pgs_cons (pg_name (i := 1) sc_Table_fixed_days.nd rfl (Or.inl rfl)) (pgs_cons (pg_name (i := 2) sc_Table_fixed_days.nd rfl (Or.inl rfl)) pgs_nil)))) (fun _ _ _ _ _ => (pts_one (pt_cmpR op_eq (pv 1) (pv 2) (nomark _)))) (fun _ _ _ _ _ => (pv 1))))), ?_⟩
    have e3 : ∀ {i : Nat} {x : V}, (ns.map V.int)[i]? = some x → i < ns.length ∧ x = .int (ns.getD i 0) := fun {i x} hx => by
      have hi : i < ns.length := by have := (List.getElem?_eq_some_iff.mp hx).1; omega
      refine ⟨hi, ?_⟩
      have := getI hi
      rw [hx] at this
      exact Option.some.inj this
    refine s_retL (el_is (el_lcR (fun i => decide (V.int (i : Int) = V.int (ns.getD i 0))) (fun i => V.int (i : Int)) (evr_meth (ev_var rfl) h1 rfl ea_nil (spr_rows t)) (by omega) (fun _ _ => rfl) (fun i x H1 e1 hx => ?_) (fun i x H1 e1 hx _ => ev_var rfl)) (by rw [e0, given_if]; rfl)) k
    obtain ⟨hi, rfl⟩ := e3 hx
    exact et_test (ev_op (ev_var rfl) (ev_var rfl) (rv_eq rfl))
theorem ok_moved {f f2 f3 : Addr} {fd fd2 fd3 : FuncData} (F : Fun K "moved" "Table.moved" s_Table_moved f fd) (T : Txt K mg C) (mkI : Mk K C f3) (c_need_day : Cal P w K mg base "need_day" f2 fd2 ["value"] 2 sp_need_day) (m_init : Ini P w K mg base C f3 fd3) :
    FnOk P w K mg base CX0 5 f fd ["self", "day"] (sp_moved K C) := by
  refine F.ok sc_Table_moved (fun vs H Q E h => ?_) (fun cdv A outer s H vs Q E hr h => ?_)
  · obtain ⟨a, ns, d, rfl, _⟩ := h
    rfl
  · obtain ⟨a, ns, d, rfl, t, g, k⟩ := h
    obtain ⟨dx, l, h1, h2⟩ := id t
    have hgm := g.most
    have e0 : (ns.map V.int).length = ns.length := List.length_map ..
    refine ⟨_, (pss_cons (ps_expr (pe_call c_need_day.ok (hr.mono (by decide)) (by rfl) c_need_day.mgx c_need_day.kp c_need_day.bd .nil pass0 (pa_cons (pv 1) pa_nil))) (pss_one (ps_ret (pe_make mkI m_init.ok (hr.mono (by decide)) (by rfl) T.mg_Table m_init.bd .nil pass0 (pa_cons (pe_lc (own := [("served", 2)]) (g := (gName 2)) (by rfl) sc_Table_moved.nd (piL (K := K) rfl (pe_fldK (K := K) rfl (pv 0) rfl)) (blkOk_by (own := [("served", 2)]) (N := ["self", "day", "served"]) (sc := defScope s_Table_moved) (by decide +kernel)) (fun _ _ _ _ _ => (pg_name (i := 2) sc_Table_moved.nd rfl (Or.inl rfl))) (fun _ _ _ _ _ => pts_nil) (fun _ _ _ _ _ => (pe_op op_add (pv 2) (pv 1)))) pa_nil))))), ?_⟩
    refine q_drop (ev_call (ea_cons (ev_var rfl) ea_nil) spv_need_day) fun H1 e1 => ?_
    refine (evm_makeL (K := K) (C := C) (el_is (el_lcL (fun _ => true) (fun i => V.int (ns.getD i 0 + d)) (ev_fld (ev_var rfl) (e1 a _ h1) T.cl T.nD lk_days) (ex_l e1 h2) (by omega) (fun _ => rfl) (fun _ _ _ _ _ => lc_yes) (fun i x H2 e2 hx _ => ?_)) ?_) (moved_rule g).good) H1 (Ex.refl _) _ fun p H2 hp e2 t2 => k p H2 (fresh_back e1 hp) (e1.trans e2) (t2.back e1)
    · have hi : i < ns.length := by have := (List.getElem?_eq_some_iff.mp hx).1; omega
      have e2 : x = .int (ns.getD i 0) := by have := getI hi; rw [hx] at this; exact Option.some.inj this
      subst e2
      exact ev_op (ev_var rfl) (ev_var rfl) rv_I0
    · rw [e0, given_all, listF_map]
      refine List.map_congr_left fun i hi => ?_
      rw [on_first g (List.mem_range.mp hi)]
theorem ok_later {f f1 f2 f3 p1 fo : Addr} {fd fd1 fd2 fd3 fdo : FuncData} (F : Fun K "asked_later" "Table.asked_later" s_Table_asked_later f fd) (T : Txt K mg C) (mkI : Mk K C f3) (c_need_day : Cal P w K mg base "need_day" f2 fd2 ["value"] 2 sp_need_day) (m_length : Prp P w K mg base C "length" p1 f1 fd1 ["self"] 1 (sp_length K C)) (m_on : Met P w K mg base C "on" fo fdo ["self", "day"] 3 (sp_on K C)) (m_init : Ini P w K mg base C f3 fd3) :
    FnOk P w K mg base CX0 5 f fd ["self", "day"] (sp_later K C) := by
  refine F.ok sc_Table_asked_later (fun vs H Q E h => ?_) (fun cdv A outer s H vs Q E hr h => ?_)
  · obtain ⟨a, ns, d, rfl, _⟩ := h
    rfl
  · obtain ⟨a, ns, d, rfl, t, g, k⟩ := h
    obtain ⟨dx, l, h1, h2⟩ := id t
    have hgm := g.most
    refine ⟨_, (pss_cons (ps_expr (pe_call c_need_day.ok (hr.mono (by decide)) (by rfl) c_need_day.mgx c_need_day.kp c_need_day.bd .nil pass0 (pa_cons (pv 1) pa_nil))) (pss_one (ps_ret (pe_make mkI m_init.ok (hr.mono (by decide)) (by rfl) T.mg_Table m_init.bd .nil pass0 (pa_cons (pe_lc (own := [("asked", 2)]) (g := (gName 2)) (by rfl) sc_Table_asked_later.nd (pi_range1 (by rfl) T.b_range (pa_cons (pe_prop (pv 0) T.cl m_length.pr m_length.ok (hr.mono (by decide)) m_length.bd .nil pass0 (by rfl)) pa_nil)) (blkOk_by (own := [("asked", 2)]) (N := ["self", "day", "asked"]) (sc := defScope s_Table_asked_later) (by decide +kernel)) (fun _ _ _ _ _ => (pg_name (i := 2) sc_Table_asked_later.nd rfl (Or.inl rfl))) (fun _ _ _ _ _ => pts_nil) (fun _ _ _ _ _ => (pe_meth (pv 0) T.cl m_on.me m_on.ok (hr.mono (by decide)) m_on.bd .nil pass0 (pa_cons (pe_op op_add (pv 2) (pv 1)) pa_nil)))) pa_nil))))), ?_⟩
    refine q_drop (ev_call (ea_cons (ev_var rfl) ea_nil) spv_need_day) fun H1 e1 => ?_
    exact (evm_makeL (K := K) (C := C) (by rw [← given_F]; exact el_lcR1 (fun _ => true) (fun i => V.int (onL ns ((i : Int) + d))) (ea_cons (ev_prop (ev_var rfl) (e1 a _ h1) (spv_length (t.mono e1))) ea_nil) (by omega) (fun _ => rfl) (fun _ _ _ _ => lc_yes) (fun i H2 e2 _ _ => ev_meth (ev_var rfl) ((e1.trans e2) a _ h1) rfl (ea_cons (ev_op (ev_var rfl) (ev_var rfl) rv_I0) ea_nil) (spv_on (t.mono (e1.trans e2)) g))) (later_on_rule g).good) H1 (Ex.refl _) _ fun p H2 hp e2 t2 => k p H2 (fresh_back e1 hp) (e1.trans e2) (t2.back e1)
theorem ok_str {f f1 f2 f3 p1 fo : Addr} {fd fd1 fd2 fd3 fdo : FuncData} (F : Fun K "stretched" "Table.stretched" s_Table_stretched f fd) (T : Txt K mg C) (mkI : Mk K C f3) (c_need_length : Cal P w K mg base "need_length" f2 fd2 ["value"] 3 sp_len) (m_length : Prp P w K mg base C "length" p1 f1 fd1 ["self"] 1 (sp_length K C)) (m_on : Met P w K mg base C "on" fo fdo ["self", "day"] 3 (sp_on K C)) (m_init : Ini P w K mg base C f3 fd3) :
    FnOk P w K mg base CX0 5 f fd ["self", "count"] (sp_str K C) := by
  refine F.ok sc_Table_stretched (fun vs H Q E h => ?_) (fun cdv A outer s H vs Q E hr h => ?_)
  · obtain ⟨a, ns, n, rfl, _⟩ := h
    rfl
  · obtain ⟨a, ns, n, rfl, t, g, hn1, hn2, k⟩ := h
    obtain ⟨dx, l, h1, h2⟩ := id t
    obtain ⟨tkc, cL⟩ := T.cL
    have hgm := g.most
    have hgp := g.pos
    have hn6 : n ≤ 600 := Nat.le_trans (Nat.le_mul_of_pos_right n hgp) hn2
    have hmul : (n : Int) * (ns.length : Int) = ((n * ns.length : Nat) : Int) := (Int.natCast_mul _ _).symm
    refine ⟨_, (pss_cons (ps_expr (pe_call c_need_length.ok (hr.mono (by decide)) (by rfl) c_need_length.mgx c_need_length.kp c_need_length.bd .nil pass0 (pa_cons (pv 1) pa_nil))) (pss_cons (ps_if (pt_cmpR op_gt (pe_op op_mul (pv 1) (pe_prop (pv 0) T.cl m_length.pr m_length.ok (hr.mono (by decide)) m_length.bd .nil pass0 (by rfl))) (pe_con (pv 0) (by rfl)) (nomark _)) (pss_one ps_never) pss_nil) (pss_one (ps_ret (pe_make mkI m_init.ok (hr.mono (by decide)) (by rfl) T.mg_Table m_init.bd .nil pass0 (pa_cons (pe_lc (own := [("day", 2)]) (g := (gName 2)) (by rfl) sc_Table_stretched.nd (pi_range1 (by rfl) T.b_range (pa_cons (pe_op op_mul (pv 1) (pe_prop (pv 0) T.cl m_length.pr m_length.ok (hr.mono (by decide)) m_length.bd .nil pass0 (by rfl))) pa_nil)) (blkOk_by (own := [("day", 2)]) (N := ["self", "count", "day"]) (sc := defScope s_Table_stretched) (by decide +kernel)) (fun _ _ _ _ _ => (pg_name (i := 2) sc_Table_stretched.nd rfl (Or.inl rfl))) (fun _ _ _ _ _ => pts_nil) (fun _ _ _ _ _ => (pe_meth (pv 0) T.cl m_on.me m_on.ok (hr.mono (by decide)) m_on.bd .nil pass0 (pa_cons (pv 2) pa_nil)))) pa_nil)))))), ?_⟩
    refine q_drop (ev_call (ea_cons (ev_var rfl) ea_nil) (spv_len (by omega))) fun H1 e1 => ?_
    refine q_when (b := false) (et_test (ev_op (ev_op (ev_var rfl) (ev_prop (ev_var rfl) (e1 a _ h1) (spv_length (t.mono e1))) (rv_I (.inr ⟨by omega, by omega⟩))) (ev_con (ev_var rfl) (e1 a _ h1) T.cl cL rfl) (rv_res rv_I0 (congrArg V.bl (decide_eq_false (by rw [hmul]; omega)))))) (fun q => nomatch q) fun _ H2 e2 => ?_
    have e3 := e1.trans e2
    exact (evm_makeL (K := K) (C := C) (by rw [← given_F, ← hmul]; exact el_lcR1 (fun _ => true) (fun i => V.int (onL ns (i : Int))) (ea_cons (ev_op (ev_var rfl) (ev_prop (ev_var rfl) (e3 a _ h1) (spv_length (t.mono e3))) (rv_I (.inr ⟨by omega, by omega⟩))) ea_nil) (by rw [hmul]; omega) (fun _ => rfl) (fun _ _ _ _ => lc_yes) (fun i H4 e4 _ _ => ev_meth (ev_var rfl) ((e3.trans e4) a _ h1) rfl (ea_cons (ev_var rfl) ea_nil) (spv_on (t.mono (e3.trans e4)) g))) (str_rule g hn1 hn2).good) H2 (Ex.refl _) _ fun p H4 hp e4 t2 => k p H4 (fresh_back e3 hp) (e3.trans e4) (t2.back e3)
theorem ok_plain {f f2 f3 : Addr} {fd fd2 fd3 : FuncData} (F : L2.FunD K "plain" "Table.plain" (defArgs s_Table_plain) (defBody s_Table_plain) (defScope s_Table_plain) [.int 1] [] f fd) (T : Txt K mg C) (mkI : Mk K C f3) (c_need_length : Cal P w K mg base "need_length" f2 fd2 ["value"] 3 sp_len) (m_init : Ini P w K mg base C f3 fd3) :
    FnOk P w K mg base CX0 5 f fd ["cls", "count"] (sp_plain C) := by
  refine F.ok sc_Table_plain (fun vs H Q E h => ?_) (fun cdv A outer s H vs Q E hr h => ?_)
  · obtain ⟨n, rfl, _⟩ := h
    rfl
  · obtain ⟨n, rfl, hn1, hn2, k⟩ := h
    obtain ⟨mc, tkq, rd, cv⟩ := T.cM
    refine ⟨_, ((pss_cons (ps_expr (pe_call c_need_length.ok (hr.mono (by decide)) (by rfl) c_need_length.mgx c_need_length.kp c_need_length.bd .nil pass0 (pa_cons (pv 1) pa_nil))) (pss_cons (ps_if (pt_cmpR op_gt (pv 1) (ClX.pe_cval (pv 0)) (nomark _)) (pss_one ps_never) pss_nil) (pss_one (ps_ret (SI.pe_makeV mkI m_init.ok (hr.mono (by decide)) (pv 0) m_init.bd .nil pass0 (pa_cons (pe_listRg rfl (by rfl) T.b_list (prg_1 (by rfl) T.b_range (pv 1))) pa_nil))))))).nox, ?_⟩
    refine q_drop (ev_call (ea_cons (ev_var rfl) ea_nil) (spv_len (by omega))) fun H1 e1 => ?_
    refine q_when (b := false) (et_test (ev_op (ev_var rfl) (ev_const (ev_var rfl) rd cv) (rv_res rv_I0 (congrArg V.bl (decide_eq_false (by omega)))))) (fun q => nomatch q) fun _ H2 e2 => ?_
    refine ⟨_, rfl, rfl, ?_⟩
    refine (evm_makeL (K := K) (C := C) (ns := listF n fun x => x) (el_is (el_lstRg1 (ev_var rfl) (by unfold RgOk; omega)) ?_) (plain_rule hn1 hn2).good) H2 (Ex.refl _) _ fun p H4 hp e4 t2 => k p H4 (fresh_back (e1.trans e2) hp) ((e1.trans e2).trans e4) (t2.back (e1.trans e2))
    rw [listF_map]
    unfold rgV
    refine List.map_congr_left fun i hi => ?_
    show V.int (0 + (i : Int)) = V.int (i : Int)
    rw [Int.zero_add]
end
end K15
end
section
set_option maxHeartbeats 4000000
namespace K15
open PySem L2 Evl G TM
theorem on_rule {ns : List Int} (g : Good ns) : Rule ns.length (onL ns) := ⟨g.pos, g.most, onL_mono g, onL_per g⟩
theorem be_it {L : Nat} {f : Int → Int} (r : Rule L f) (d e : Nat) : listF (lcm2 (listF L (it f e)) (listF L (it f d))) (mBe (listF L (it f e)) (listF L (it f d))) = listF L (it f (e + d)) := by
  unfold lcm2
  rw [listF_len, listF_len, Nat.lcm_self]
  congr 1
  funext x
  show onL (listF L (it f e)) (onL (listF L (it f d)) x) = _
  rw [(r.it e).on, (r.it d).on, it_add]
/-- what a Table is asked, n times -/
def itL (ns : List Int) (n : Nat) : List Int := listF ns.length (it (onL ns) n)
def sp_times (K : PySem.W.Frag) (C : Addr) : Sp := fun vs H Q _ => ∃ (a : Addr) (ns : List Int) (n : Nat), vs = [.ref a, .int (n : Int)] ∧ Tab K C H a ns ∧ Good ns ∧ n ≤ 1000000 ∧ RetT C (itL ns n) H Q
def sp_run (K : PySem.W.Frag) (C : Addr) : Sp := fun vs H Q _ => ∃ (a : Addr) (ns : List Int) (x : Int) (n : Nat), vs = [.ref a, .int x, .int (n : Int)] ∧ Tab K C H a ns ∧ Good ns ∧ n ≤ 1000000 ∧ RetV (.int (it (onL ns) n x)) H Q
def sp_from (K : PySem.W.Frag) (C : Addr) : Sp := fun vs H Q _ => ∃ (a : Addr) (ns : List Int) (x : Int) (m : Nat), vs = [.ref a, .int x] ∧ Tab K C H a ns ∧ Good ns ∧ Ret ns.length (onL ns) x m ∧ RetL ((lap (onL ns) m x).map V.int) H Q
section
variable {K : PySem.W.Frag} {σ : L2.St} {H : Hp} {a b C p : Addr} {i j n : Nat} {tA : TA} {te tl ta tb : TE} {tu : TS} {Q : VK} {E E' : XK} {D : Ends} {tz : TS} {ns ms : List Int} {x : Int} {sp : Sp} {ws dvs : List V} {M : Hp → Addr → Prop} {v : V}
theorem spm_times (h : Tab K C H a ns) (g : Good ns) (hn : n ≤ 1000000) : SpM (sp_times K C) ([.ref a, .int (n : Int)] ++ []) H (fun H2 p => TabN C H H2 p (itL ns n)) := fun H1 e Q q E => ⟨a, ns, n, rfl, h.mono e, g, hn, fun p H2 hp e2 t => q p H2 hp e2 (t.back e)⟩
theorem spv_run (h : Tab K C H a ns) (g : Good ns) (hn : n ≤ 1000000) : SpV (sp_run K C) ([.ref a, .int x, .int (n : Int)] ++ []) H (.int (it (onL ns) n x)) := fun H1 e Q q E => ⟨a, ns, x, n, rfl, h.mono e, g, hn, q⟩
theorem spl_from {m : Nat} (h : Tab K C H a ns) (g : Good ns) (R : Ret ns.length (onL ns) x m) : SpL (sp_from K C) ([.ref a, .int x] ++ []) H ((lap (onL ns) m x).map V.int) := fun H1 e Q q E => ⟨a, ns, x, m, rfl, h.mono e, g, R, q⟩
theorem evm_cmeth (h : Ev ta σ H (.ref C)) (ha : EvA tA σ H ws) (hs : SpM sp (.ref C :: ws) H M) : EvM (ClX.tCMeth C sp E ta tA) σ H M := fun H1 e Q q =>
  h H1 e _ fun H2 e2 => ⟨rfl, ha H2 (e.trans e2) _ fun H3 e3 => hs H3 ((e.trans e2).trans e3) Q (fun p H4 hp e4 m => q p H4 (fresh_back (e2.trans e3) hp) ((e2.trans e3).trans e4) m) E⟩
/-- a method of a new Table -/
theorem ev_methN (K : PySem.W.Frag) {m : Str} {N : List Int} (h : EvM ta σ H (fun H2 p => TabN C H H2 p N)) (hl : ("_days" : Str) ≠ m) (ha : ∀ (p : Addr) (H1 : Hp), Ex H H1 → EvA tA σ H1 ws) (hs : ∀ (p : Addr) (H1 : Hp), Ex H H1 → Tab K C H1 p N → SpV sp (.ref p :: (ws ++ dvs)) H1 v) : Ev (tMeth C m sp dvs E ta tA) σ H v := fun H1 e Q q =>
  h H1 e _ fun p H2 hp e2 t => by
    obtain ⟨dx, l, n1, t1, t2⟩ := id t
    have hlk : List.lookup m [(("_days" : Str), V.ref l)] = none := by
      rw [List.lookup_cons, show (m == ("_days" : Str)) = false from beq_eq_false_iff_ne.mpr (Ne.symm hl)]
      rfl
    exact ⟨p, dx, _, rfl, t1, hlk, ha p H2 (e.trans e2) H2 (Ex.refl _) _ fun H3 e3 => hs p H3 ((e.trans e2).trans e3) (t.tab.mono e3) H3 (Ex.refl _) Q (fun H4 e4 => q H4 ((e2.trans e3).trans e4)) E⟩
theorem el_methN (K : PySem.W.Frag) {m : Str} {N : List Int} {xs : List V} (h : EvM ta σ H (fun H2 p => TabN C H H2 p N)) (hl : ("_days" : Str) ≠ m) (hs : ∀ (p : Addr) (H1 : Hp), Ex H H1 → Tab K C H1 p N → SpL sp (.ref p :: dvs) H1 xs) : EvL (tMeth C m sp dvs E ta tNil) σ H xs := fun H1 e Q q =>
  h H1 e _ fun p H2 hp e2 t => by
    obtain ⟨dx, l, n1, t1, t2⟩ := id t
    have hlk : List.lookup m [(("_days" : Str), V.ref l)] = none := by
      rw [List.lookup_cons, show (m == ("_days" : Str)) = false from beq_eq_false_iff_ne.mpr (Ne.symm hl)]
      rfl
    exact ⟨p, dx, _, rfl, t1, hlk, hs p H2 (e.trans e2) t.tab H2 (Ex.refl _) Q (fun z H4 hz e4 h4 => q z H4 (fresh_back e2 hz) (e2.trans e4) h4) E⟩
end
section
variable {P : Program} {w : World} {K : PySem.W.Frag} {mg : Str → Option Value} {base : Heap} {C : Addr}
theorem ok_times {f f1 f2 f3 f4 p1 : Addr} {fd fd1 fd2 fd3 fd4 : FuncData} (F : Fun K "times" "times" s_times f fd) (T : Txt K mg C) (c__need_askings : Cal P w K mg base "_need_askings" f2 fd2 ["count"] 4 sp_ask) (m_plain : Cme P w K mg base C "plain" f3 fd3 ["cls", "count"] 5 (sp_plain C)) (m_length : Prp P w K mg base C "length" p1 f1 fd1 ["self"] 1 (sp_length K C)) (c_behind : Cal P w K mg base "behind" f4 fd4 ["table", "other_table"] 6 (sp_behind K C)) :
    FnOk P w K mg base CX0 7 f fd ["table", "count"] (sp_times K C) := by
  refine F.ok sc_times (fun vs H Q E h => ?_) (fun cdv A outer s H vs Q E hr h => ?_)
  · obtain ⟨a, ns, n, rfl, _⟩ := h
    rfl
  · obtain ⟨a, ns, n, rfl, t, g, hn, k⟩ := h
    obtain ⟨dx, l, h1, h2⟩ := id t
    have hgm := g.most
    have hgp := g.pos
    have r := on_rule g
    have e0 : itL ns 0 = listF ns.length fun x => x := rfl
    have e1' : ns = itL ns 1 := by
      unfold itL
      exact list_map_on g
    refine ⟨_, (pss_cons (ps_expr (pe_call c__need_askings.ok (hr.mono (by decide)) (by rfl) c__need_askings.mgx c__need_askings.kp c__need_askings.bd .nil pass0 (pa_cons (pv 1) pa_nil))) (pss_cons (ps_set (i := 2) sc_times.nd rfl (Or.inl rfl) (ClX.pe_cmeth (pe_glob (v := .ref C) rfl T.mg_Table rfl) m_plain.rd.choose_spec.1 m_plain.rd.choose_spec.2 (m_plain.ok.raw m_plain.bd .nil) (hr.mono (by decide)) pass0 (pa_cons (pe_prop (pv 0) T.cl m_length.pr m_length.ok (hr.mono (by decide)) m_length.bd .nil pass0 (by rfl)) pa_nil))) (pss_cons (ps_set (i := 3) sc_times.nd rfl (Or.inl rfl) (pv 0)) (pss_cons (ps_while PassesOwn.never (pt_cmpR op_gt (pv 1) pe_int (nomark _)) (pss_cut (ps_if (pt_cmpR op_eq (pe_op op_modN (pv 1) pe_int) pe_int (nomark _)) (pss_one (ps_set (i := 2) sc_times.nd rfl (Or.inl rfl) (pe_call c_behind.ok (hr.mono (by decide)) (by rfl) c_behind.mgx c_behind.kp c_behind.bd .nil pass0 (pa_cons (pv 3) (pa_cons (pv 2) pa_nil))))) pss_nil) (pss_cons (ps_set (i := 3) sc_times.nd rfl (Or.inl rfl) (pe_call c_behind.ok (hr.mono (by decide)) (by rfl) c_behind.mgx c_behind.kp c_behind.bd .nil pass0 (pa_cons (pv 3) (pa_cons (pv 3) pa_nil)))) (pss_one (ps_set (i := 1) sc_times.nd rfl (Or.inl rfl) (pe_op op_fdivN (pv 1) pe_int)))))) (pss_one (ps_ret (pv 2))))))), ?_⟩
    refine q_drop (ev_call (ea_cons (ev_var rfl) ea_nil) (spv_ask (by omega) (by omega))) fun H1 e1 => ?_
    refine q_asgM (evm_cmeth ev_glob (ea_cons (ev_prop (ev_var rfl) (e1 a _ h1) (spv_length (t.mono e1))) ea_nil) (fun H2 e2 Q2 q2 E2 => ⟨ns.length, rfl, hgp, hgm, fun p H3 hp e3 t3 => q2 p H3 hp e3 (t3.back (e1.trans e2))⟩)) fun p H2 hp e2 tp => ?_
    have hpH : H p = none := fresh_back e1 hp
    refine q_asg (ev_var rfl) fun H3 e3 => ?_
    refine q_while (fun m σ' H' => ∃ (c d e : Nat) (p q : Addr), m = c ∧ c * e + d = n ∧ Ex H H' ∧ H p = none ∧ TabN C H H' p (itL ns d) ∧ Tab K C H' q (itL ns e) ∧ σ' = [some (.ref a), some (.int (c : Int)), some (.ref p), some (.ref q)]) n
      ⟨n, 0, 1, p, a, rfl, by omega, (e1.trans e2).trans e3, hpH, tp.mono e3, by rw [← e1']; exact t.mono ((e1.trans e2).trans e3), rfl⟩ ?_
    rintro c σ' H' ⟨c', d, e, p, q, rfl, hce, eH, hp, tp, tq, rfl⟩
    have gd : Good (itL ns d) := (r.it d).good
    have ge : Good (itL ns e) := (r.it e).good
    have hlcm : ∀ d e : Nat, lcm2 (itL ns e) (itL ns d) ≤ 600 := fun d e => by
      unfold lcm2 itL
      rw [listF_len, listF_len, Nat.lcm_self]
      exact hgm
    refine ⟨decide ((c : Int) > 0), et_test (ev_op (ev_var rfl) ev_c rv_I0), fun ht H4 e4 => ?_, fun ht H4 e4 => ?_⟩
    · have hc : 0 < c := by have := of_decide_eq_true ht; omega
      refine ⟨fun σ2 H3 => ∃ (d e : Nat) (p q : Addr), c / 2 * e + d = n ∧ Ex H H3 ∧ H p = none ∧ TabN C H H3 p (itL ns d) ∧ Tab K C H3 q (itL ns e) ∧ σ2 = [some (.ref a), some (.int ((c / 2 : Nat) : Int)), some (.ref p), some (.ref q)],
        fun σ2 H3 ⟨d, e, p, q, q1, q2, q3, q4, q5, q6⟩ => ⟨c / 2, by omega, c / 2, d, e, p, q, rfl, q1, q2, q3, q4, q5, q6⟩, ?_⟩
      refine q_cut (M := fun σ2 H3 => ∃ (d' : Nat) (p : Addr), c / 2 * (e + e) + d' = n ∧ Ex H H3 ∧ H p = none ∧ TabN C H H3 p (itL ns d') ∧ Tab K C H3 q (itL ns e) ∧ σ2 = [some (.ref a), some (.int (c : Int)), some (.ref p), some (.ref q)]) ?_ ?_
      · refine s_if (et_test (ev_op (ev_op (ev_var rfl) ev_c (rv_I (by decide))) ev_c (rv_eq rfl))) (fun hb H5 e5 => ?_) (fun hb H5 e5 => ?_)
        · have h2 : (c : Int).fmod 2 = 1 := by have := of_decide_eq_true hb; injection this
          rw [Int.fmod_eq_emod_of_nonneg _ (by decide)] at h2
          refine (evm_call (ea_cons (ev_var rfl) (ea_cons (ev_var rfl) ea_nil)) (spm_behind (tq.mono (e4.trans e5)) (tp.mono (e4.trans e5)).tab ge gd (hlcm d e))) H5 (Ex.refl _) _ fun p2 H6 hp2 e6 t2 => ?_
          rw [show listF (lcm2 (itL ns e) (itL ns d)) (mBe (itL ns e) (itL ns d)) = itL ns (e + d) from be_it r d e] at t2
          refine ⟨e + d, p2, ?_, (eH.trans (e4.trans e5)).trans e6, fresh_back (eH.trans (e4.trans e5)) hp2, t2.back (eH.trans (e4.trans e5)), tq.mono ((e4.trans e5).trans e6), rfl⟩
          have hm : c = 2 * (c / 2) + 1 := by omega
          generalize c / 2 = z at hm ⊢
          subst hm
          rw [Nat.add_mul, Nat.one_mul, Nat.mul_assoc] at hce
          rw [Nat.mul_add, ← Nat.two_mul]
          omega
        · have h2 : ¬ (c : Int).fmod 2 = 1 := fun z => of_decide_eq_false hb (by rw [z])
          rw [Int.fmod_eq_emod_of_nonneg _ (by decide)] at h2
          refine ⟨d, p, ?_, eH.trans (e4.trans e5), hp, tp.mono (e4.trans e5), tq.mono (e4.trans e5), rfl⟩
          have hm : c = 2 * (c / 2) := by omega
          generalize c / 2 = z at hm ⊢
          subst hm
          rw [Nat.mul_assoc] at hce
          rw [Nat.mul_add, ← Nat.two_mul]
          omega
      · rintro σ2 H5 ⟨d', p', q1, q2, q3, q4, q5, rfl⟩
        refine q_asgM (evm_call (ea_cons (ev_var rfl) (ea_cons (ev_var rfl) ea_nil)) (spm_behind q5 q5 ge ge (hlcm e e))) fun q' H6 hq' e6 t2 => ?_
        rw [show listF (lcm2 (itL ns e) (itL ns e)) (mBe (itL ns e) (itL ns e)) = itL ns (e + e) from be_it r e e] at t2
        refine s_asg (v := .int ((c / 2 : Nat) : Int)) (ev_is (ev_op (ev_var rfl) ev_c (rv_I ⟨by decide, by decide⟩)) (by rw [Int.fdiv_eq_ediv_of_nonneg _ (by decide)]; congr 1)) fun H7 e7 => ?_
        exact ⟨d', e + e, p', q', q1, (q2.trans e6).trans e7, q3, q4.mono (e6.trans e7), t2.tab.mono e7, rfl⟩
    · have hc : c = 0 := by have := of_decide_eq_false ht; omega
      subst hc
      have hd : d = n := by omega
      subst hd
      exact s_ret (ev_var rfl) fun H5 e5 => k p H5 hp (eH.trans (e4.trans e5)) (tp.mono (e4.trans e5))
theorem ok_run {f f1 f2 f3 : Addr} {fd fd1 fd2 fd3 : FuncData} (F : Fun K "run_end" "run_end" s_run_end f fd) (T : Txt K mg C) (c_need_day : Cal P w K mg base "need_day" f1 fd1 ["value"] 2 sp_need_day) (c_times : Cal P w K mg base "times" f2 fd2 ["table", "count"] 7 (sp_times K C)) (m_on : Met P w K mg base C "on" f3 fd3 ["self", "day"] 3 (sp_on K C)) :
    FnOk P w K mg base CX0 8 f fd ["table", "day", "count"] (sp_run K C) := by
  refine F.ok sc_run_end (fun vs H Q E h => ?_) (fun cdv A outer s H vs Q E hr h => ?_)
  · obtain ⟨a, ns, x, n, rfl, _⟩ := h
    rfl
  · obtain ⟨a, ns, x, n, rfl, t, g, hn, k⟩ := h
    have r := on_rule g
    refine ⟨_, (pss_cons (ps_expr (pe_call c_need_day.ok (hr.mono (by decide)) (by rfl) c_need_day.mgx c_need_day.kp c_need_day.bd .nil pass0 (pa_cons (pv 1) pa_nil))) (pss_one (ps_ret (pe_meth (pe_call c_times.ok (hr.mono (by decide)) (by rfl) c_times.mgx c_times.kp c_times.bd .nil pass0 (pa_cons (pv 0) (pa_cons (pv 2) pa_nil))) T.cl m_on.me m_on.ok (hr.mono (by decide)) m_on.bd .nil pass0 (pa_cons (pv 1) pa_nil))))), ?_⟩
    refine q_drop (ev_call (ea_cons (ev_var rfl) ea_nil) spv_need_day) fun H1 e1 => ?_
    refine s_ret (ev_methN K (evm_call (ea_cons (ev_var rfl) (ea_cons (ev_var rfl) ea_nil)) (spm_times (t.mono e1) g hn)) (by decide) (fun p H2 e2 => ea_cons (ev_var rfl) ea_nil) (fun p H2 e2 t2 => ?_)) fun H2 e2 => k H2 (e1.trans e2)
    have := spv_on (x := x) t2 (r.it n).good
    rw [show onL (itL ns n) x = it (onL ns) n x from (r.it n).on x] at this
    exact this
theorem ok_from {f f1 f3 p1 : Addr} {fd fd1 fd3 : FuncData} (F : Fun K "_round_from" "_round_from" s__round_from f fd) (T : Txt K mg C) (m_on : Met P w K mg base C "on" f3 fd3 ["self", "day"] 3 (sp_on K C)) (m_length : Prp P w K mg base C "length" p1 f1 fd1 ["self"] 1 (sp_length K C)) :
    FnOk P w K mg base CX0 4 f fd ["table", "first"] (sp_from K C) := by
  refine F.ok sc__round_from (fun vs H Q E h => ?_) (fun cdv A outer s H vs Q E hr h => ?_)
  · obtain ⟨a, ns, x, m, rfl, _⟩ := h
    rfl
  · obtain ⟨a, ns, x, m, rfl, t, g, R, k⟩ := h
    have r := on_rule g
    have hgm := g.most
    have hgp := g.pos
    have hm := R.le r
    have hm1 := R.pos
    obtain ⟨dx, l, h1, h2⟩ := id t
    refine ⟨_, (pss_cons (ps_set (i := 2) sc__round_from.nd rfl (Or.inl rfl) (pe_lst (pa_cons (pv 1) pa_nil))) (pss_cons (ps_while PassesOwn.never (pt_cmpR op_ne (pe_op op_modN (pe_op op_sub (pe_meth (pv 0) T.cl m_on.me m_on.ok (hr.mono (by decide)) m_on.bd .nil pass0 (pa_cons (pe_ix (ixL (K := K) rfl) (pv 2) (pe_un un_neg pe_int) (fun _ _ => rfl)) pa_nil)) (pv 1)) (pe_prop (pv 0) T.cl m_length.pr m_length.ok (hr.mono (by decide)) m_length.bd .nil pass0 (by rfl))) pe_int (nomark _)) (pss_one (ps_expr (pe_bm PySem.F.plainAttrs_list PySem.F.slot_list_append PySem.F.type_list_append mt_append (pv 2) (pa_cons (pe_meth (pv 0) T.cl m_on.me m_on.ok (hr.mono (by decide)) m_on.bd .nil pass0 (pa_cons (pe_ix (ixL (K := K) rfl) (pv 2) (pe_un un_neg pe_int) (fun _ _ => rfl)) pa_nil)) pa_nil))))) (pss_one (ps_ret (pv 2))))), ?_⟩
    refine q_asgL (el_lst (ea_cons (ev_var rfl) ea_nil) (by show 1 ≤ 100000; decide)) fun q H1 hq e1 hq1 => ?_
    refine q_while (fun j σ' H' => ∃ i : Nat, j + i = m ∧ 1 ≤ i ∧ Ex H H' ∧ H' q = some (.lst ((lap (onL ns) i x).map V.int)) ∧ σ' = [some (.ref a), some (.int x), some (.ref q)]) (m - 1) ⟨1, by omega, Nat.le_refl _, e1, hq1, rfl⟩ ?_
    rintro j σ' H' ⟨i, hji, hi, eH, hl, rfl⟩
    have hlen : (lap (onL ns) i x).length = i := lap_len
    have t' := t.mono eH
    have hlast : atI ((lap (onL ns) i x).map V.int) (-1) = some (.int (it (onL ns) (i - 1) x)) := by
      rw [atI_m1 (by omega), hlen, lap_last hi]
    have hnext : onL ns (it (onL ns) (i - 1) x) = it (onL ns) i x := by
      obtain ⟨i', rfl⟩ : ∃ i', i = i' + 1 := ⟨i - 1, by omega⟩
      rfl
    have hqH : H q = none := hq
    refine ⟨!decide (V.int ((it (onL ns) i x - x).fmod (ns.length : Int)) = V.int 0), et_test (ev_op (ev_op (ev_op (ev_is (ev_meth (ev_var rfl) (eH a _ h1) rfl (ea_cons (ev_op (ev_var rfl) (ev_un ev_c ru_neg) (rv_ixL (sq_of hl) hlast)) ea_nil) (spv_on t' g)) (by rw [hnext])) (ev_var rfl) rv_I0) (ev_prop (ev_var rfl) (eH a _ h1) (spv_length t')) (rv_I (by omega))) ev_c (rv_ne rfl)), fun hb H2 e2 => ?_, fun hb H2 e2 => ?_⟩
    · have hne : (it (onL ns) i x - x) % (ns.length : Int) ≠ 0 := fun z => by
        rw [Int.fmod_eq_emod_of_nonneg _ (by omega), z] at hb
        simp at hb
      have him : i ≠ m := fun z => hne (by rw [z]; exact R.back)
      refine ⟨fun σ2 H3 => Ex H H3 ∧ H3 q = some (.lst ((lap (onL ns) (i + 1) x).map V.int)) ∧ σ2 = [some (.ref a), some (.int x), some (.ref q)], fun σ2 H3 ⟨q1, q2, q3⟩ => ⟨j - 1, by omega, i + 1, by omega, by omega, q1, q2, q3⟩, ?_⟩
      have e3 := eH.trans e2
      refine s_app (e2 q _ hl) (ev_var rfl) (ev_is (ev_meth (ev_var rfl) (e3 a _ h1) rfl (ea_cons (ev_op (ev_var rfl) (ev_un ev_c ru_neg) (rv_ixL (sq_of (e2 q _ hl)) hlast)) ea_nil) (spv_on (t.mono e3) g)) (by rw [hnext])) (by rw [List.length_map, hlen]; omega) fun H3 e4 => ?_
      refine ⟨fun b o hb => ?_, ?_, rfl⟩
      · rw [upd_ne (ne_of_none hb hqH)]
        exact (e3.trans e4) b o hb
      · rw [upd_same, lap_succ, List.map_append]
        rfl
    · have h0 : (it (onL ns) i x - x) % (ns.length : Int) = 0 := by
        have hb2 : decide (V.int ((it (onL ns) i x - x).fmod (ns.length : Int)) = V.int 0) = true := by
          cases hd : decide (V.int ((it (onL ns) i x - x).fmod (ns.length : Int)) = V.int 0) with
          | true => rfl
          | false => rw [hd] at hb; cases hb
        have hz := of_decide_eq_true hb2
        injection hz with hz
        rwa [Int.fmod_eq_emod_of_nonneg _ (by omega)] at hz
      have him : i = m := by
        by_cases hlt : i < m
        · exact absurd h0 (R.first i hi hlt)
        · omega
      subst him
      exact s_ret (ev_var rfl) fun H3 e3 => k q H3 hqH (eH.trans (e2.trans e3)) ((e2.trans e3) q _ hl)
end
end K15
end
section
namespace TM
theorem asc_extR {α : Type} {R : α → α → Prop} (as : ∀ a b, R a b → ¬ R b a) : ∀ {l m : List α}, l.Pairwise R → m.Pairwise R → (∀ k, k ∈ l ↔ k ∈ m) → l = m
  | [], [], _, _, _ => rfl
  | [], y :: m, _, _, h => absurd ((h y).mpr List.mem_cons_self) (by simp)
  | x :: l, [], _, _, h => absurd ((h x).mp List.mem_cons_self) (by simp)
  | x :: l, y :: m, hl, hm, h => by
    obtain ⟨l1, l2⟩ := List.pairwise_cons.mp hl
    obtain ⟨m1, m2⟩ := List.pairwise_cons.mp hm
    have ir : ∀ a, ¬ R a a := fun a q => as a a q q
    have hx := (h x).mp List.mem_cons_self
    have hy := (h y).mpr List.mem_cons_self
    have e : x = y := by
      rcases List.mem_cons.mp hx with e | hx
      · exact e
      · rcases List.mem_cons.mp hy with e | hy
        · exact e.symm
        · exact absurd (l1 y hy) (as _ _ (m1 x hx))
    subst e
    refine congrArg (x :: ·) (asc_extR as l2 m2 fun k => ?_)
    constructor
    · intro hk
      rcases List.mem_cons.mp ((h k).mp (List.mem_cons_of_mem _ hk)) with e | q
      · subst e; exact absurd (l1 k hk) (ir k)
      · exact q
    · intro hk
      rcases List.mem_cons.mp ((h k).mpr (List.mem_cons_of_mem _ hk)) with e | q
      · subst e; exact absurd (m1 k hk) (ir k)
      · exact q
def LtR (a b : List Int) : Prop := a ≤ b ∧ a ≠ b
theorem ltR_asym (a b : List Int) (h : LtR a b) : ¬ LtR b a := fun k => h.2 (List.le_antisymm h.1 k.1)
theorem sort_nodup {rows : List (List Int)} (h : rows.Nodup) : (rows.mergeSort fun p q => decide (p ≤ q)).Pairwise LtR := by
  have s := List.pairwise_mergeSort (le := fun p q : List Int => decide (p ≤ q)) (fun a b c h1 h2 => decide_eq_true (List.le_trans (of_decide_eq_true h1) (of_decide_eq_true h2))) (fun a b => by
    rcases List.le_total a b with q | q
    · simp [q]
    · simp [q]) rows
  have n := (List.mergeSort_perm rows fun p q => decide (p ≤ q)).nodup_iff.mpr h
  exact (s.and n).imp fun ⟨h1, h2⟩ => ⟨of_decide_eq_true h1, h2⟩
section
variable {f : Int → Int} {n : Nat}
theorem lap_head {m : Nat} {x : Int} (h : 1 ≤ m) : ∃ t, lap f m x = x :: t := by
  obtain ⟨k, rfl⟩ : ∃ k, m = k + 1 := ⟨m - 1, by omega⟩
  refine ⟨(List.range k).map fun j => it f (j + 1) x, ?_⟩
  unfold lap
  rw [List.range_succ_eq_map, List.map_cons, List.map_map]
  rfl
theorem rings_up : (rings n f).Pairwise LtR := by
  unfold rings
  refine List.pairwise_map.mpr ?_
  refine List.Pairwise.imp_of_mem ?_ (reps_up (n := n) (f := f))
  intro p q hp hq hlt
  obtain ⟨m, R⟩ := mem_reps.mp hp
  obtain ⟨k, S⟩ := mem_reps.mp hq
  rw [retN_eq R.ret, retN_eq S.ret]
  obtain ⟨t, ht⟩ := lap_head (f := f) (x := p) R.ret.pos
  obtain ⟨u, hu⟩ := lap_head (f := f) (x := q) S.ret.pos
  rw [ht, hu]
  refine ⟨List.cons_le_cons_iff.mpr (.inl hlt), fun e => ?_⟩
  injection e with e _
  omega
theorem sort_rings {rows : List (List Int)} (h : rows.Nodup) (hm : ∀ row, row ∈ rows ↔ row ∈ rings n f) : (rows.mergeSort fun p q => decide (p ≤ q)) = rings n f :=
  asc_extR ltR_asym (sort_nodup h) rings_up fun k => by rw [(List.mergeSort_perm rows _).mem_iff, hm k]
/-- p is the least place of the round that x runs into, m its length -/
def LowQ (n : Nat) (f : Int → Int) (x p : Int) (m : Nat) : Prop := Rep n f p m ∧ ∃ j, p = it f j (it f n x) % (n : Int)
theorem low_uniq {n : Nat} {f : Int → Int} (r : Rule n f) {y p q : Int} {m k i j m0 : Nat} (R : Ret n f y m0) (A : Rep n f p m) (hA : p = it f i y % (n : Int)) (B : Rep n f q k) (hB : q = it f j y % (n : Int)) : p = q := by
  have hk : m0 * j - j + j = m0 * j := by
    have : j ≤ m0 * j := Nat.le_mul_of_pos_left j R.pos
    omega
  obtain ⟨t, ht⟩ := R.many r j
  obtain ⟨s, hs⟩ := mod_as n (it f j y)
  refine A.uniq r B (j := m0 * j - j + i) ?_
  rw [hA, hB, hs, it_shift r, mod_shift, ← it_add, show m0 * j - j + i + j = i + m0 * j by omega, it_add, ht, it_shift r, mod_shift]
theorem lowQ_ex (r : Rule n f) (x : Int) : ∃ p m, LowQ n f x p m := by
  obtain ⟨m, R⟩ := ret_run r x
  obtain ⟨j, p, hj, hp, Rp, hm⟩ := rep_ex r R
  exact ⟨p, m, Rp, j, hp⟩
theorem lowQ_uniq (r : Rule n f) {x p q : Int} {m k : Nat} (h : LowQ n f x p m) (h' : LowQ n f x q k) : p = q ∧ m = k := by
  obtain ⟨m0, R⟩ := ret_run r x
  obtain ⟨A, i, hA⟩ := h
  obtain ⟨B, j, hB⟩ := h'
  have e := low_uniq r R A hA B hB
  subst e
  exact ⟨rfl, A.ret.uniq B.ret⟩
/-- there and back, from the day reached as from the least place -/
theorem lowQ_ret (r : Rule n f) {x p : Int} {m : Nat} (h : LowQ n f x p m) : Ret n f (it f n x) m ∧ ∀ a, it f m p = p + a → it f m (it f n x) = it f n x + a := by
  obtain ⟨m0, R⟩ := ret_run r x
  obtain ⟨A, j, hp⟩ := h
  have S := (R.next r j).place r
  rw [← hp] at S
  have e := S.uniq A.ret
  subst e
  refine ⟨R, fun a ha => ?_⟩
  obtain ⟨s, hs⟩ := R.adv
  obtain ⟨t, ht⟩ := mod_as n (it f j (it f n x))
  rw [hp, ht, it_shift r, it_comm, hs, it_shift r] at ha
  rw [hs]
  omega
/-- the least place's own round -/
theorem Rep.low (r : Rule n f) {p : Int} {m : Nat} (R : Rep n f p m) : LowQ n f p p m := by
  refine ⟨R, m * n - n, ?_⟩
  have hk : m * n - n + n = m * n := by
    have : n ≤ m * n := Nat.le_mul_of_pos_left n R.ret.pos
    omega
  obtain ⟨t, ht⟩ := R.ret.many r n
  rw [← it_add, hk, ht, mod_shift, R.mod]
open Classical in
/-- the round that x runs into -/
noncomputable def rnd (n : Nat) (f : Int → Int) (x : Int) : List Int := if h : ∃ p : Int × Nat, LowQ n f x p.1 p.2 then lap f h.choose.2 h.choose.1 else []
theorem rnd_eq (r : Rule n f) {x p : Int} {m : Nat} (h : LowQ n f x p m) : rnd n f x = lap f m p := by
  unfold rnd
  have hx : ∃ p : Int × Nat, LowQ n f x p.1 p.2 := ⟨(p, m), h⟩
  rw [dif_pos hx]
  obtain ⟨e1, e2⟩ := lowQ_uniq r hx.choose_spec h
  rw [e1, e2]
theorem rnd_mem (r : Rule n f) (x : Int) : rnd n f x ∈ rings n f := by
  obtain ⟨p, m, h⟩ := lowQ_ex r x
  rw [rnd_eq r h]
  exact h.1.ring
theorem rings_rnd (r : Rule n f) {row : List Int} : row ∈ rings n f ↔ ∃ j : Nat, j < n ∧ row = rnd n f (j : Int) := by
  constructor
  · intro h
    obtain ⟨p, m, R, rfl⟩ := mem_rings.mp h
    have := R.lo
    have := R.hi
    refine ⟨p.toNat, by omega, ?_⟩
    rw [show ((p.toNat : Nat) : Int) = p by omega, rnd_eq r (R.low r)]
  · rintro ⟨j, _, rfl⟩
    exact rnd_mem r _
end
end TM
end
section
set_option maxHeartbeats 4000000
namespace K15
open PySem L2 Evl G TM
abbrev LowP (ns : List Int) (x p : Int) (m : Nat) : Prop := LowQ ns.length (onL ns) x p m
/-- a days in m askings, there and back -/
def Pc (ns : List Int) (a : Int) (m : Nat) : Prop := 1 ≤ m ∧ (∃ t : Int, a = t * (ns.length : Int)) ∧ ∃ y, it (onL ns) m y = y + a
theorem lowP_ex {ns : List Int} (g : Good ns) (x : Int) : ∃ p m, LowP ns x p m := by
  have r := on_rule g
  obtain ⟨m, R⟩ := ret_run r x
  obtain ⟨j, p, hj, hp, Rp, hm⟩ := rep_ex r R
  exact ⟨p, m, Rp, j, hp⟩
theorem rep_pc {ns : List Int} {p : Int} {m : Nat} (R : Rep ns.length (onL ns) p m) {a : Int} (h : it (onL ns) m p = p + a) : Pc ns a m := by
  obtain ⟨t, ht⟩ := R.ret.adv
  exact ⟨R.ret.pos, ⟨t, by omega⟩, p, h⟩
theorem pc_ex {ns : List Int} (g : Good ns) : ∃ a m, Pc ns a m := by
  obtain ⟨p, m, R, _⟩ := lowP_ex g 0
  obtain ⟨t, ht⟩ := R.ret.adv
  exact ⟨_, m, rep_pc R ht⟩
theorem pc_low {ns : List Int} (g : Good ns) {a c : Int} {m k : Nat} (h : Pc ns a m) (h' : Pc ns c k) : lowA a m = lowA c k ∧ lowB a m = lowB c k := by
  obtain ⟨m1, ha, y, hy⟩ := h
  obtain ⟨k1, hc, x, hx⟩ := h'
  exact low_eq m1 k1 (rate_eq (on_rule g) hc ha hx hy)
def sp_rof (K : PySem.W.Frag) (C : Addr) : Sp := fun vs H Q _ => ∃ (a : Addr) (ns : List Int) (x p : Int) (m : Nat), vs = [.ref a, .int x] ∧ Tab K C H a ns ∧ Good ns ∧ LowP ns x p m ∧ RetL ((lap (onL ns) m p).map V.int) H Q
def sp_pace (K : PySem.W.Frag) (C : Addr) : Sp := fun vs H Q _ => ∃ (a : Addr) (ns : List Int) (d : Int) (m : Nat), vs = [.ref a] ∧ Tab K C H a ns ∧ Good ns ∧ Pc ns d m ∧ RetU [.int (lowA d m), .int (lowB d m : Int)] H Q
section
variable {K : PySem.W.Frag} {H : Hp} {a C : Addr} {ns : List Int} {x p d : Int} {m : Nat}
theorem spl_rof (h : Tab K C H a ns) (g : Good ns) (l : LowP ns x p m) : SpL (sp_rof K C) ([.ref a, .int x] ++ []) H ((lap (onL ns) m p).map V.int) := fun H1 e Q q E => ⟨a, ns, x, p, m, rfl, h.mono e, g, l, q⟩
theorem spu_pace (h : Tab K C H a ns) (g : Good ns) (l : Pc ns d m) : SpU (sp_pace K C) ([.ref a] ++ []) H [.int (lowA d m), .int (lowB d m : Int)] := fun H1 e Q q E => ⟨a, ns, d, m, rfl, h.mono e, g, l, q⟩
end
section
variable {σ : L2.St} {H : Hp} {tA : TA} {D : Ends} {xs : List V} {te : TE}
theorem eu_tup (h : EvA tA σ H xs) (hz : xs.length ≤ 100000) : EvU (tTup tA) σ H xs := fun H1 e Q q => h H1 e _ fun H2 e2 => ⟨sz_of hz, fun p hp => q p _ (fresh_back e2 hp) (e2.trans (Ex.new hp)) upd_same⟩
theorem s_retU (h : EvU te σ H xs) (k : ∀ p H1, H p = none → Ex H H1 → H1 p = some (.tup xs) → D.rt (.ref p) H1) : tRet te D σ H := h H (Ex.refl H) _ k
end
section
variable {P : Program} {w : World} {K : PySem.W.Frag} {mg : Str → Option Value} {base : Heap} {C : Addr}
theorem ok_rof {f f1 f2 f3 p1 : Addr} {fd fd1 fd2 fd3 fd4 : FuncData} {f4 : Addr} (F : Fun K "round_of" "round_of" s_round_of f fd) (T : Txt K mg C) (c_need_day : Cal P w K mg base "need_day" f2 fd2 ["value"] 2 sp_need_day) (c_run_end : Cal P w K mg base "run_end" f3 fd3 ["table", "day", "count"] 8 (sp_run K C)) (m_length : Prp P w K mg base C "length" p1 f1 fd1 ["self"] 1 (sp_length K C)) (c__round_from : Cal P w K mg base "_round_from" f4 fd4 ["table", "first"] 4 (sp_from K C)) :
    FnOk P w K mg base CX0 9 f fd ["table", "day"] (sp_rof K C) := by
  refine F.ok sc_round_of (fun vs H Q E h => ?_) (fun cdv A outer s H vs Q E hr h => ?_)
  · obtain ⟨a, ns, x, p, m, rfl, _⟩ := h
    rfl
  · obtain ⟨a, ns, x, p, m, rfl, t, g, ⟨Rp, j0, hj0⟩, k⟩ := h
    have r := on_rule g
    have hgm := g.most
    have hgp := g.pos
    obtain ⟨dx, l, h1, h2⟩ := id t
    obtain ⟨m0, R⟩ := ret_run r x
    generalize hy : it (onL ns) ns.length x = y at hj0 R
    obtain ⟨j, p', hj, hp', Rp', hmin⟩ := rep_ex r R
    have epp := low_uniq r R Rp hj0 Rp' hp'
    subst epp
    have hm0 := R.le r
    refine ⟨_, (pss_cons (ps_expr (pe_call c_need_day.ok (hr.mono (by decide)) (by rfl) c_need_day.mgx c_need_day.kp c_need_day.bd .nil pass0 (pa_cons (pv 1) pa_nil))) (pss_cons (ps_set (i := 2) sc_round_of.nd rfl (Or.inl rfl) (pe_call c__round_from.ok (hr.mono (by decide)) (by rfl) c__round_from.mgx c__round_from.kp c__round_from.bd .nil pass0 (pa_cons (pv 0) (pa_cons (pe_call c_run_end.ok (hr.mono (by decide)) (by rfl) c_run_end.mgx c_run_end.kp c_run_end.bd .nil pass0 (pa_cons (pv 0) (pa_cons (pv 1) (pa_cons (pe_prop (pv 0) T.cl m_length.pr m_length.ok (hr.mono (by decide)) m_length.bd .nil pass0 (by rfl)) pa_nil)))) pa_nil)))) (pss_one (ps_ret (pe_call c__round_from.ok (hr.mono (by decide)) (by rfl) c__round_from.mgx c__round_from.kp c__round_from.bd .nil pass0 (pa_cons (pv 0) (pa_cons (pe_callB (minL (K := K) rfl rfl) (by rfl) T.b_min (by decide +kernel) (pa_cons (pe_lc (own := [("day", 1)]) (g := (gName 1)) (by rfl) sc_round_of.nd (piL (K := K) rfl (pv 2)) (blkOk_by (own := [("day", 1)]) (N := ["table", "day", "days"]) (sc := defScope s_round_of) (by decide +kernel)) (fun _ _ _ _ _ => (pg_name (i := 1) sc_round_of.nd rfl (Or.inl rfl))) (fun _ _ _ _ _ => pts_nil) (fun _ _ _ _ _ => (pe_op op_modN (pv 1) (pe_prop (pv 0) T.cl m_length.pr m_length.ok (hr.mono (by decide)) m_length.bd .nil pass0 (by rfl))))) pa_nil)) pa_nil))))))), ?_⟩
    refine q_drop (ev_call (ea_cons (ev_var rfl) ea_nil) spv_need_day) fun H1 e1 => ?_
    refine q_asgL (el_call (ea_cons (ev_var rfl) (ea_cons (ev_is (ev_call (ea_cons (ev_var rfl) (ea_cons (ev_var rfl) (ea_cons (ev_prop (ev_var rfl) (e1 a _ h1) (spv_length (t.mono e1))) ea_nil))) (spv_run (t.mono e1) g (by omega))) (congrArg V.int hy)) ea_nil)) (spl_from (t.mono e1) g R)) fun q H2 hq e2 hql => ?_
    have e3 := e1.trans e2
    have hll : ((lap (onL ns) m0 y).map V.int).length = m0 := by rw [List.length_map, lap_len]
    refine s_retL (el_call (ea_cons (ev_var rfl) (ea_cons (ev_cbL (el_lcL (fun _ => true) (fun i => V.int ((it (onL ns) i y).fmod (ns.length : Int))) (ev_var rfl) (sq_of hql) (by omega) (fun _ => rfl) (fun _ _ _ _ _ => lc_yes) (fun i z H3 e4 hz _ => ?_)) (fun u H3 e4 hu => ?_)) ea_nil)) (spl_from (t.mono e3) g Rp.ret)) fun u H3 hu e4 hul => k u H3 (fresh_back e3 hu) (e3.trans e4) hul
    · have hi : i < m0 := by have := (List.getElem?_eq_some_iff.mp hz).1; omega
      have ez : z = .int (it (onL ns) i y) := by
        have := getI (ns := lap (onL ns) m0 y) (i := i) (by rw [lap_len]; exact hi)
        rw [hz, lap_get hi] at this
        exact Option.some.inj this
      subst ez
      exact ev_op (ev_var rfl) (ev_prop (ev_var rfl) ((e3.trans e4) a _ h1) (spv_length (t.mono (e3.trans e4)))) (rv_I (by omega))
    · rw [hll, given_if] at hu
      refine rc_min (sq_of hu) ?_ ?_
      · rw [List.filter_eq_self.mpr (fun _ _ => rfl)]
        refine List.mem_map.mpr ⟨j, List.mem_range.mpr hj, ?_⟩
        rw [Int.fmod_eq_emod_of_nonneg _ (by omega)]
        exact hp'.symm
      · intro z hz
        rw [List.filter_eq_self.mpr (fun _ _ => rfl)] at hz
        obtain ⟨i, hi, rfl⟩ := List.mem_map.mp hz
        rw [Int.fmod_eq_emod_of_nonneg _ (by omega)]
        exact hmin i (List.mem_range.mp hi)
theorem ok_pace {f f1 f2 : Addr} {fd fd1 fd2 : FuncData} (F : Fun K "pace" "pace" s_pace f fd) (T : Txt K mg C) (c_round_of : Cal P w K mg base "round_of" f1 fd1 ["table", "day"] 9 (sp_rof K C)) (m_on : Met P w K mg base C "on" f2 fd2 ["self", "day"] 3 (sp_on K C)) :
    FnOk P w K mg base CX0 10 f fd ["table"] (sp_pace K C) := by
  refine F.ok sc_pace (fun vs H Q E h => ?_) (fun cdv A outer s H vs Q E hr h => ?_)
  · obtain ⟨a, ns, d, m, rfl, _⟩ := h
    rfl
  · obtain ⟨a, ns, d, m, rfl, t, g, hpc, k⟩ := h
    have r := on_rule g
    have hgm := g.most
    obtain ⟨dx, l, h1, h2⟩ := id t
    obtain ⟨p, m', lo⟩ := lowP_ex g 0
    have Rp := lo.1
    obtain ⟨c, hc⟩ : ∃ c, it (onL ns) m' p = p + c := ⟨it (onL ns) m' p - p, by omega⟩
    have hlow := pc_low g hpc (rep_pc Rp hc)
    have hm1 := Rp.ret.pos
    have hml := Rp.ret.le r
    have hll : (lap (onL ns) m' p).length = m' := lap_len
    have hlast : atI ((lap (onL ns) m' p).map V.int) (-1) = some (.int (it (onL ns) (m' - 1) p)) := by rw [atI_m1 (by omega), hll, lap_last hm1]
    have hfirst : atI ((lap (onL ns) m' p).map V.int) 0 = some (.int p) := by
      rw [atI_int (by decide) (by rw [hll]; omega)]
      show some (V.int ((lap (onL ns) m' p).getD 0 0)) = _
      rw [lap_get (by omega)]
      rfl
    have hnext : onL ns (it (onL ns) (m' - 1) p) = it (onL ns) m' p := by
      obtain ⟨i, rfl⟩ : ∃ i, m' = i + 1 := ⟨m' - 1, by omega⟩
      rfl
    obtain ⟨gg, g1, ge, ea, em, _⟩ := low_spec c hm1
    refine ⟨_, (pss_cons (ps_set (i := 1) sc_pace.nd rfl (Or.inl rfl) (pe_call c_round_of.ok (hr.mono (by decide)) (by rfl) c_round_of.mgx c_round_of.kp c_round_of.bd .nil pass0 (pa_cons (pv 0) (pa_cons pe_int pa_nil)))) (pss_cons (ps_set (i := 2) sc_pace.nd rfl (Or.inl rfl) (pe_op op_sub (pe_meth (pv 0) T.cl m_on.me m_on.ok (hr.mono (by decide)) m_on.bd .nil pass0 (pa_cons (pe_ix (ixL (K := K) rfl) (pv 1) (pe_un un_neg pe_int) (fun _ _ => rfl)) pa_nil)) (pe_ix (ixL (K := K) rfl) (pv 1) pe_int (fun _ _ => rfl)))) (pss_cons (ps_set (i := 3) sc_pace.nd rfl (Or.inl rfl) (pe_callBfun cr_gcd (by rfl) T.b_gcd (pa_cons (pv 2) (pa_cons (pe_callB (lenS (K := K) rfl) (by rfl) T.b_len (by decide +kernel) (pa_cons (pv 1) pa_nil)) pa_nil)))) (pss_one (ps_ret (pe_tup (pa_cons (pe_op op_fdivN (pv 2) (pv 3)) (pa_cons (pe_op op_fdivN (pe_callB (lenS (K := K) rfl) (by rfl) T.b_len (by decide +kernel) (pa_cons (pv 1) pa_nil)) (pv 3)) pa_nil)))))))), ?_⟩
    refine q_asgL (el_call (ea_cons (ev_var rfl) (ea_cons ev_c ea_nil)) (spl_rof t g lo)) fun q H1 hq e1 hql => ?_
    refine q_asg (v := .int c) (ev_is (ev_op (ev_meth (ev_var rfl) (e1 a _ h1) rfl (ea_cons (ev_op (ev_var rfl) (ev_un ev_c ru_neg) (rv_ixL (sq_of hql) hlast)) ea_nil) (spv_on (t.mono e1) g)) (ev_op (ev_var rfl) ev_c (rv_ixL (sq_of hql) hfirst)) rv_I0) (by rw [hnext, hc]; congr 1; omega)) fun H2 e2 => ?_
    refine q_asg (v := .int (gg : Int)) (ev_is (ev_cb (ea_cons (ev_var rfl) (ea_cons (ev_cb (ea_cons (ev_var rfl) ea_nil) (rc_len (.inl (sq_of (e2 q _ hql))) (by rw [List.length_map, hll]))) ea_nil)) rc_gcd) (by rw [Int.natAbs_natCast, ge])) fun H3 e3 => ?_
    have hgl : gg ≤ m' := by rw [ge]; exact Nat.le_of_dvd (by omega) (Nat.gcd_dvd_right _ _)
    rw [hlow.1, hlow.2] at k
    refine s_retU (eu_tup (ea_cons (ev_is (ev_op (ev_var rfl) (ev_var rfl) (rv_I ⟨by omega, by omega⟩)) ?_) (ea_cons (ev_is (ev_op (ev_cb (ea_cons (ev_var rfl) ea_nil) (rc_len (.inl (sq_of ((e2.trans e3) q _ hql))) (by rw [List.length_map, hll]))) (ev_var rfl) (rv_I ⟨by omega, by omega⟩)) ?_) ea_nil)) (by show 2 ≤ 100000; decide)) fun u H4 hu e4 hul => k u H4 (fresh_back ((e1.trans e2).trans e3) hu) (((e1.trans e2).trans e3).trans e4) hul
    · rw [Int.fdiv_eq_ediv_of_nonneg _ (by omega)]
      unfold lowA
      rw [← ge]
    · rw [Int.fdiv_eq_ediv_of_nonneg _ (by omega)]
      unfold lowB
      rw [← ge]
      rfl
end
end K15
end
section
set_option maxHeartbeats 4000000
namespace K15
open PySem L2 Evl G TM
section
variable {X : Cx} {o i value : Expr} {pos pos' : Pos} {td ty tv : TE}
theorem ps_dputR (hu : X.A.units + 64 < cLine) (ho : PE X o td) (hi : PE X i ty) (hv : PE X value tv) (hs : swapsWith value (some (.Subscript o i pos')) pos.line X.env = pure false) :
    PS X (.Assign [.Subscript o i pos'] value pos) (sDPut td ty tv) := ps_dput (by omega) ho hi hv hs
theorem pc_dniR (hu : X.A.units + 64 < cLine) (hi : PE X i ty) (ho : PE X o td) : PC X .NotIn i o (tDNotIn ty td) := pc_dnotin (by omega) hi ho
end
/-- the dict of what is seen -/
def sn (zs : List Int) : List (Key × V) := zs.map fun z => (Sum.inl z, V.bl true)
theorem sn_len {zs : List Int} : (sn zs).length = zs.length := List.length_map ..
theorem valV_sn : ∀ {zs : List Int} {z : Int}, valV (sn zs) (Sum.inl z) = if z ∈ zs then some (V.bl true) else none
  | [], z => by simp [sn, valV]
  | y :: zs, z => by
    by_cases h : y = z
    · subst h
      rw [if_pos List.mem_cons_self]
      exact valV_pos (p := (Sum.inl y, V.bl true)) (r := sn zs) rfl
    · have e : ¬ ((Sum.inl y, V.bl true) : Key × V).1 = Sum.inl z := fun q => h (Sum.inl.inj q)
      show valV ((Sum.inl y, V.bl true) :: sn zs) (Sum.inl z) = _
      rw [valV_neg e, valV_sn]
      simp [Ne.symm (show y ≠ z from h)]
theorem putK_sn {zs : List Int} {z : Int} : putK (sn zs) (Sum.inl z) (V.bl true) = sn (if z ∈ zs then zs else zs ++ [z]) := by
  by_cases h : z ∈ zs
  · rw [if_pos h]
    unfold putK
    rw [valV_any, valV_sn, if_pos h]
    simp only [Option.isSome_some, if_true]
    unfold sn
    rw [List.map_map]
    refine List.map_congr_left fun y hy => ?_
    show (if (Sum.inl y : Key) = Sum.inl z then ((Sum.inl y : Key), V.bl true) else (Sum.inl y, V.bl true)) = _
    split <;> rfl
  · rw [if_neg h, putK_new _ (by rw [valV_sn, if_neg h])]
    unfold sn
    rw [List.map_append]
    rfl
theorem add_nodup {zs : List Int} {z : Int} (h : zs.Nodup) : (if z ∈ zs then zs else zs ++ [z]).Nodup := by
  split
  · exact h
  · rename_i hz
    refine List.nodup_append.mpr ⟨h, by simp, fun a ha b hb => ?_⟩
    rw [List.mem_singleton] at hb
    subst hb
    exact fun e => hz (e ▸ ha)
theorem mem_add {zs : List Int} {z y : Int} : y ∈ (if z ∈ zs then zs else zs ++ [z]) ↔ y ∈ zs ∨ y = z := by
  split
  · rename_i h
    constructor
    · exact .inl
    · rintro (h' | rfl)
      · exact h'
      · exact h
  · simp
theorem seen_few {L : Nat} {zs : List Int} (h : zs.Nodup) (hr : ∀ z ∈ zs, 0 ≤ z ∧ z < (L : Int)) : zs.length ≤ L := by
  have := TM.nodup_len h (m := (List.range L).map fun (i : Nat) => (i : Int)) fun z hz => by
    have := hr z hz
    exact List.mem_map.mpr ⟨z.toNat, List.mem_range.mpr (by omega), by omega⟩
  rwa [List.length_map, List.length_range] at this
/-- new lists of the rows -/
abbrev NewRows (H H' : Hp) (p : Addr) (ts : List Addr) (rows : List (List Int)) : Prop := PySem.W.EachIs (fun t row => (H t = none ∧ t ≠ p) ∧ H' t = some (.lst (row.map V.int))) ts rows
def RetRows (rows : List (List Int)) (H : Hp) (Q : VK) : Prop := ∀ p ts H2, H p = none → Ex H H2 → H2 p = some (.lst (ts.map V.ref)) → NewRows H H2 p ts rows → Q (.ref p) H2
theorem each_mono {α β : Type} {R R' : α → β → Prop} : ∀ {as : List α} {bs : List β}, PySem.W.EachIs R as bs → (∀ a b, R a b → R' a b) → PySem.W.EachIs R' as bs
  | _, _, .nil, _ => .nil
  | _, _, .cons h hs, k => .cons (k _ _ h) (each_mono hs k)
theorem each_snoc {α β : Type} {R : α → β → Prop} {a : α} {b : β} : ∀ {as : List α} {bs : List β}, PySem.W.EachIs R as bs → R a b → PySem.W.EachIs R (as ++ [a]) (bs ++ [b])
  | _, _, .nil, h => .cons h .nil
  | _, _, .cons h hs, k => .cons h (each_snoc hs k)
noncomputable def ringsL (ns : List Int) : List (List Int) := rings ns.length (onL ns)
def sp_rounds (K : PySem.W.Frag) (C : Addr) : Sp := fun vs H Q _ => ∃ (a : Addr) (ns : List Int), vs = [.ref a] ∧ Tab K C H a ns ∧ Good ns ∧ RetRows (ringsL ns) H Q
section
variable {K : PySem.W.Frag} {w : World} {σ : L2.St} {H : Hp} {F : Addr} {te td ty tv : TE} {i : Nat} {D : Ends} {tz : TS}
theorem el_sortedSetI {ks cs : List Int} (h : EvL te σ H (ks.map V.int)) (hz : ks.length < 4000) (hc : cs.Pairwise (· < ·)) (hm : ∀ k, k ∈ cs ↔ k ∈ ks) : EvL (tCB (SI.rSortedN w) (tCons (tCB (SI.rSetI K w) (tCons te tNil)) tNil)) σ H (cs.map V.int) := fun H1 e Q q =>
  h H1 e _ fun l H2 hl e2 h2 => ⟨l, ks, rfl, sq_of h2, hz, fun s hs => ⟨s, ks, rfl, upd_same, hz, fun ys p hy hym hp => by
    have := asc_ext hy hc fun k => (hym k).trans (hm k).symm
    subst this
    have e3 : Ex H1 (upd H2 s (SI.SetN w s ks)) := e2.trans (Ex.new hs)
    exact q p _ (fresh_back e3 hp) (e3.trans (Ex.new hp)) upd_same⟩⟩
theorem dput_endI {x : Int} {v : V} {kvs : List (Key × V)} (hv : Ev tv σ H v) (hd : Ev td σ H (.ref F)) (hy : Ev ty σ H (.int x)) (hF : H F = some (.dK kvs)) (hz : kvs.length < 100000) (k : ∀ H1, Ex H H1 → D.nx σ (upd H1 F (.dK (putK kvs (Sum.inl x) v)))) : sDPut td ty tv D σ H :=
  hv H (Ex.refl H) _ fun H0 e0 => hd H0 e0 _ fun H1 e1 => hy H1 (e0.trans e1) _ fun H2 e2 => ⟨F, _, rfl, DPut.k (k := Sum.inl x) (((e0.trans e1).trans e2) F _ hF) (sz_lt hz), k H2 ((e0.trans e1).trans e2)⟩
theorem dnew_k (h : ∀ F, H F = none → tz D (σ.set i (some (.ref F))) (upd H F (.dK []))) : tSeq (tAsg tDNewK (gName i)) tz D σ H := h
theorem ev_dni {a : Addr} {ta tb : TE} {k : Key} {kvs : List (Key × V)} (hk : Ev ta σ H (kV k)) (h : Ev tb σ H (.ref a)) (hd : H a = some (.dK kvs)) : Ev (tDNotIn ta tb) σ H (.bl (!(valV kvs k).isSome)) := fun H1 e Q q =>
  hk H1 e _ fun H2 e2 => h H2 (e.trans e2) _ fun H3 e3 => ⟨a, _, rfl, DGet.k (((e.trans e2).trans e3) a _ hd), q H3 (e2.trans e3)⟩
end
section
variable {P : Program} {w : World} {K : PySem.W.Frag} {mg : Str → Option Value} {base : Heap} {C : Addr}
theorem ok_rounds {f f1 f2 f3 p1 : Addr} {fd fd1 fd2 fd3 fd4 : FuncData} {f4 : Addr} (F : Fun K "rounds" "rounds" s_rounds f fd) (T : Txt K mg C) (c_times : Cal P w K mg base "times" f2 fd2 ["table", "count"] 7 (sp_times K C)) (m_days : Met P w K mg base C "days" f3 fd3 ["self"] 1 (sp_days K C)) (m_length : Prp P w K mg base C "length" p1 f1 fd1 ["self"] 1 (sp_length K C)) (c__round_from : Cal P w K mg base "_round_from" f4 fd4 ["table", "first"] 4 (sp_from K C)) :
    FnOk P w K mg base CX0 8 f fd ["table"] (sp_rounds K C) := by
  refine F.ok sc_rounds (fun vs H Q E h => ?_) (fun cdv A outer s H vs Q E hr h => ?_)
  · obtain ⟨a, ns, rfl, _⟩ := h
    rfl
  · obtain ⟨a, ns, rfl, t, g, k⟩ := h
    have r := on_rule g
    have hgm := g.most
    have hgp := g.pos
    obtain ⟨dx, l, h1, h2⟩ := id t
    refine ⟨_, (pss_cons (ps_set (i := 1) sc_rounds.nd rfl (Or.inl rfl) pe_dnewK) (pss_cons (ps_set (i := 2) sc_rounds.nd rfl (Or.inl rfl) (pe_lst pa_nil)) (pss_cons (ps_for PassesOwn.never rfl (piL (K := K) rfl (pe_callB (SI.cr_sortedN rfl hr.units) (by rfl) T.b_sorted (by decide +kernel) (pa_cons (pe_callTy (SI.cr_setI rfl) (by rfl) T.b_set (by decide +kernel) (pa_cons (pe_lc (own := [("day", 5)]) (g := (gName 5)) (by rfl) sc_rounds.nd (piL (K := K) rfl (pe_meth0 (pe_call c_times.ok (hr.mono (by decide)) (by rfl) c_times.mgx c_times.kp c_times.bd .nil pass0 (pa_cons (pv 0) (pa_cons (pe_prop (pv 0) T.cl m_length.pr m_length.ok (hr.mono (by decide)) m_length.bd .nil pass0 (by rfl)) pa_nil))) T.cl m_days.me m_days.ok (hr.mono (by decide)) m_days.bd .nil pass0)) (blkOk_by (own := [("day", 5)]) (N := ["table", "seen", "found", "first", "days", "day"]) (sc := defScope s_rounds) (by decide +kernel)) (fun _ _ _ _ _ => (pg_name (i := 5) sc_rounds.nd rfl (Or.inl rfl))) (fun _ _ _ _ _ => pts_nil) (fun _ _ _ _ _ => (pe_op op_modN (pv 5) (pe_prop (pv 0) T.cl m_length.pr m_length.ok (hr.mono (by decide)) m_length.bd .nil pass0 (by rfl))))) pa_nil)) pa_nil))) (pg_name (i := 3) sc_rounds.nd rfl (Or.inl rfl)) (pss_one (ps_if (pt_cmp (pc_dniR hr.units (pv 3) (pv 1))) (pss_cons (ps_set (i := 4) sc_rounds.nd rfl (Or.inl rfl) (pe_call c__round_from.ok (hr.mono (by decide)) (by rfl) c__round_from.mgx c__round_from.kp c__round_from.bd .nil pass0 (pa_cons (pv 0) (pa_cons (pv 3) pa_nil)))) (pss_cons (ps_expr (pe_bm PySem.F.plainAttrs_list PySem.F.slot_list_append PySem.F.type_list_append mt_append (pv 2) (pa_cons (pv 4) pa_nil))) (pss_one (ps_for PassesOwn.never rfl (piL (K := K) rfl (pv 4)) (pg_name (i := 5) sc_rounds.nd rfl (Or.inl rfl)) (pss_one (ps_dputR hr.units (pv 1) (pe_op op_modN (pv 5) (pe_prop (pv 0) T.cl m_length.pr m_length.ok (hr.mono (by decide)) m_length.bd .nil pass0 (by rfl))) pe_bl (by rfl))))))) pss_nil))) (pss_one (ps_ret (pv 2)))))), ?_⟩
    refine dnew_k fun sd hsd => ?_
    have e1 : Ex H (upd H sd (.dK [])) := Ex.new hsd
    refine q_asgL (el_lst ea_nil (by show 0 ≤ 100000; decide)) fun fl H2 hfl e2 hfl2 => ?_
    have e3 := e1.trans e2
    have hflH : H fl = none := fresh_back e1 hfl
    have hsd2 : H2 sd = some (.dK []) := e2 sd _ upd_same
    have hlenI : (itL ns ns.length).length = ns.length := by unfold itL; rw [listF_len]
    have hgI : Good (itL ns ns.length) := (r.it _).good
    refine q_forNLn (xs := (stay ns.length (onL ns)).map V.int) (el_sortedSetI (ks := (List.range ns.length).map fun (i : Nat) => it (onL ns) ns.length (i : Int) % (ns.length : Int)) (el_is (el_lcNL (fun _ => true) (fun i => V.int (it (onL ns) ns.length (i : Int) % (ns.length : Int))) (el_methN K (evm_call (ea_cons (ev_var rfl) (ea_cons (ev_prop (ev_var rfl) (e3 a _ h1) (spv_length (t.mono e3))) ea_nil)) (spm_times (t.mono e3) g (by omega))) (by decide) (fun p H3 e4 t3 => spl_days t3)) (by rw [List.length_map]; omega) (fun _ => rfl) (fun _ _ _ _ _ => lc_yes) (fun i z H3 e4 hz _ => ?_)) ?_) (by rw [List.length_map, List.length_range]; omega) stay_up (fun z => ?_))
      (fun qa i σ' H' => ∃ (zs : List Int) (ts : List Addr) (o3 o4 o5 : Option V), Ex H H' ∧ qa ≠ fl ∧ H' qa = some (.lst ((stay ns.length (onL ns)).map V.int)) ∧ H' sd = some (.dK (sn zs)) ∧ H' fl = some (.lst (ts.map V.ref)) ∧ zs.Nodup ∧ (∀ z ∈ zs, 0 ≤ z ∧ z < (ns.length : Int)) ∧ (∀ z, z ∈ zs ↔ Seen ns.length (onL ns) i z) ∧ NewRows H H' fl ts (ringsTo ns.length (onL ns) i) ∧ σ' = [some (.ref a), some (.ref sd), some (.ref fl), o3, o4, o5]) (fun qa H3 hq e4 hq3 => ?_) (fun qa i σ' H' _ ⟨zs, ts, o3, o4, o5, _, _, h, _⟩ => sq_of h) (fun qa i x σ' H' hx hP => ?_) (fun qa σ' H' hP => ?_)
    · have hi : i < ns.length := by have := (List.getElem?_eq_some_iff.mp hz).1; rw [List.length_map, hlenI] at this; exact this
      have ez : z = .int (it (onL ns) ns.length (i : Int)) := by
        have := getI (ns := itL ns ns.length) (i := i) (by omega)
        rw [hz] at this
        rw [Option.some.inj this, ← on_first hgI (by omega)]
        congr 1
        exact (r.it ns.length).on _
      subst ez
      exact ev_is (ev_op (ev_var rfl) (ev_prop (ev_var rfl) ((e3.trans e4) a _ h1) (spv_length (t.mono (e3.trans e4)))) (rv_I (by omega))) (by rw [Int.fmod_eq_emod_of_nonneg _ (by omega)])
    · rw [List.length_map, hlenI, given_all, List.map_map]
      rfl
    · rw [mem_stay r, List.mem_map]
      constructor
      · rintro ⟨i, hi, hz⟩
        exact ⟨i, List.mem_range.mpr hi, hz.symm⟩
      · rintro ⟨i, hi, hz⟩
        exact ⟨i, List.mem_range.mp hi, hz.symm⟩
    · exact ⟨[], [], _, _, _, e3.trans e4, (ne_of_none hfl2 hq).symm, hq3, e4 sd _ hsd2, e4 fl _ hfl2, by simp, by simp, fun z => by simpa using seen_zero, by unfold ringsTo; simpa using PySem.W.EachIs.nil, rfl⟩
    · obtain ⟨zs, ts, o3, o4, o5, eH, hqf, hqa, hsd', hfl', hnd, hrg, hseen, hrows, rfl⟩ := hP
      rw [List.getElem?_map] at hx
      obtain ⟨p, hp, rfl⟩ := Option.map_eq_some_iff.mp hx
      have hzl := seen_few hnd hrg
      have htl : ts.length ≤ ns.length := by rw [PySem.W.EachIs.length hrows]; exact ringsTo_len
      refine s_when (b := !(valV (sn zs) (Sum.inl p)).isSome) (et_test (ev_dni (k := Sum.inl p) (ev_var rfl) (ev_var rfl) hsd')) (fun hb H3 e5 => ?_) (fun hb H3 e5 => ?_)
      · have hns : ¬ Seen ns.length (onL ns) i p := fun z => by
          rw [valV_sn, if_pos ((hseen p).mpr z)] at hb
          cases hb
        obtain ⟨m, R⟩ := rep_new r hp hns
        have hml := R.ret.le r
        refine q_asgL (el_call (ea_cons (ev_var rfl) (ea_cons (ev_var rfl) ea_nil)) (spl_from (t.mono (eH.trans e5)) g R.ret)) fun ta H4 hta e6 hta4 => ?_
        have e7 := eH.trans (e5.trans e6)
        have htaH : H ta = none := fresh_back (eH.trans e5) hta
        refine q_app ((e5.trans e6) fl _ hfl') (ev_var rfl) (ev_var rfl) (by rw [List.length_map]; omega) fun H5 e8 => ?_
        have hne1 : ta ≠ fl := (ne_of_none (e5 fl _ hfl') hta).symm
        have hne2 : sd ≠ fl := ne_of hsd' hfl' (fun z => by cases z)
        have hne3 : ta ≠ sd := (ne_of_none (e5 sd _ hsd') hta).symm
        have hne4 : qa ≠ sd := ne_of hqa hsd' (fun z => by cases z)
        have e9 : Ex H (upd H5 fl (.lst (ts.map V.ref ++ [V.ref ta]))) := fun b o hb => by
          rw [upd_ne (ne_of_none hb hflH)]
          exact (e7.trans e8) b o hb
        have hrow5 : NewRows H (upd H5 fl (.lst (ts.map V.ref ++ [V.ref ta]))) fl (ts ++ [ta]) (ringsTo ns.length (onL ns) (i + 1)) := by
          rw [rings_new hp R]
          refine each_snoc (each_mono hrows fun u row ⟨hu, hu2⟩ => ⟨hu, ?_⟩) ⟨⟨htaH, hne1⟩, ?_⟩
          · rw [upd_ne hu.2]
            exact ((e5.trans e6).trans e8) u _ hu2
          · rw [upd_ne hne1]
            exact e8 ta _ hta4
        refine s_forLn (a := ta) (xs := (lap (onL ns) m p).map V.int) (ev_var rfl) (sq_of (by rw [upd_ne hne1]; exact e8 ta _ hta4))
          (fun j σ' H' => ∃ (zs' : List Int) (o5 : Option V), Ex H H' ∧ H' ta = some (.lst ((lap (onL ns) m p).map V.int)) ∧ H' qa = some (.lst ((stay ns.length (onL ns)).map V.int)) ∧ H' sd = some (.dK (sn zs')) ∧ H' fl = some (.lst ((ts ++ [ta]).map V.ref)) ∧ zs'.Nodup ∧ (∀ z ∈ zs', 0 ≤ z ∧ z < (ns.length : Int)) ∧ (∀ z, z ∈ zs' ↔ z ∈ zs ∨ ∃ j', j' < j ∧ z = it (onL ns) j' p % (ns.length : Int)) ∧ NewRows H H' fl (ts ++ [ta]) (ringsTo ns.length (onL ns) (i + 1)) ∧ σ' = [some (.ref a), some (.ref sd), some (.ref fl), some (.int p), some (.ref ta), o5])
          (fun H6 e10 => ?_) (fun j σ' H' _ ⟨zs', o5, _, h, _⟩ => sq_of h) (fun j x σ' H' hx hP => ?_) (fun σ' H' hP => ?_)
        · refine ⟨zs, _, e9.trans e10, e10 ta _ (by rw [upd_ne hne1]; exact e8 ta _ hta4), e10 qa _ (by rw [upd_ne hqf]; exact ((e5.trans e6).trans e8) qa _ hqa), e10 sd _ (by rw [upd_ne hne2]; exact ((e5.trans e6).trans e8) sd _ hsd'), e10 fl _ (by rw [upd_same, List.map_append]; rfl), hnd, hrg, fun z => by simp, each_mono hrow5 fun u row ⟨hu, hu2⟩ => ⟨hu, e10 u _ hu2⟩, rfl⟩
        · obtain ⟨zs', o5, eH', hta', hqa', hsd2', hfl2', hnd', hrg', hm', hrow', rfl⟩ := hP
          have hj : j < m := by have := (List.getElem?_eq_some_iff.mp hx).1; rw [List.length_map, lap_len] at this; exact this
          have ex : x = .int (it (onL ns) j p) := by
            have := getI (ns := lap (onL ns) m p) (i := j) (by rw [lap_len]; exact hj)
            rw [hx, lap_get hj] at this
            exact Option.some.inj this
          subst ex
          have hz' := seen_few hnd' hrg'
          have hpl := place_lt r (it (onL ns) j p)
          refine dput_endI (F := sd) (x := it (onL ns) j p % (ns.length : Int)) (v := .bl true) ev_c (ev_var rfl) (ev_is (ev_op (ev_var rfl) (ev_prop (ev_var rfl) (eH' a _ h1) (spv_length (t.mono eH'))) (rv_I (by omega))) (by rw [Int.fmod_eq_emod_of_nonneg _ (by omega)])) hsd2' (by rw [sn_len]; omega) fun H6 e10 => ?_
          rw [putK_sn]
          have hu : ∀ {b : Addr} {xs : List V}, H' b = some (.lst xs) → upd H6 sd (.dK (sn (if it (onL ns) j p % (ns.length : Int) ∈ zs' then zs' else zs' ++ [it (onL ns) j p % (ns.length : Int)]))) b = some (.lst xs) := fun {b xs} hb => by
            rw [upd_ne (ne_of hb hsd2' (fun z => by cases z))]
            exact e10 b _ hb
          refine ⟨_, _, fun b o hb => ?_, hu hta', hu hqa', upd_same, hu hfl2', add_nodup hnd', fun z hz => ?_, fun z => ?_, each_mono hrow' fun u row ⟨q1, q2⟩ => ⟨q1, hu q2⟩, rfl⟩
          · rw [upd_ne (ne_of_none hb hsd)]
            exact (eH'.trans e10) b o hb
          · rcases mem_add.mp hz with hz | rfl
            · exact hrg' z hz
            · exact hpl
          · rw [mem_add, hm' z]
            constructor
            · rintro ((h | ⟨j', h1, h2⟩) | h)
              · exact .inl h
              · exact .inr ⟨j', by omega, h2⟩
              · exact .inr ⟨j, by omega, h⟩
            · rintro (h | ⟨j', h1, h2⟩)
              · exact .inl (.inl h)
              · by_cases e : j' = j
                · subst e; exact .inr h2
                · exact .inl (.inr ⟨j', by omega, h2⟩)
        · obtain ⟨zs', o5, eH', hta', hqa', hsd2', hfl2', hnd', hrg', hm', hrow', rfl⟩ := hP
          rw [List.length_map, lap_len] at hm'
          exact ⟨zs', ts ++ [ta], _, _, _, eH', hqf, hqa', hsd2', hfl2', hnd', hrg', fun z => by rw [hm' z, seen_new r hp R, hseen z], hrow', rfl⟩
      · have hin : Seen ns.length (onL ns) i p := by
          refine (hseen p).mp (Classical.byContradiction fun z => ?_)
          rw [valV_sn, if_neg z] at hb
          cases hb
        have hnr := rep_old r hp hin
        exact ⟨zs, ts, _, _, _, eH.trans e5, hqf, e5 qa _ hqa, e5 sd _ hsd', e5 fl _ hfl', hnd, hrg, fun z => by rw [hseen z, seen_old hp hnr], by rw [rings_old hp hnr]; exact each_mono hrows fun u row ⟨hu, hu2⟩ => ⟨hu, e5 u _ hu2⟩, rfl⟩
    · obtain ⟨zs, ts, o3, o4, o5, eH, hqf, hqa, hsd', hfl', hnd, hrg, hseen, hrows, rfl⟩ := hP
      rw [List.length_map, ringsTo_all r] at hrows
      exact s_ret (ev_var rfl) fun H3 e5 => k fl ts H3 hflH (eH.trans e5) (e5 fl _ hfl') (each_mono hrows fun u row ⟨hu, hu2⟩ => ⟨hu, e5 u _ hu2⟩)
end
end K15
end
section
set_option maxHeartbeats 4000000
namespace K15
open PySem L2 Evl G TM
section
variable {σ : L2.St} {H : Hp} {tA : TA} {D : Ends} {vs : List V} {r : List V → Hp → VK → Prop}
theorem u65 {k : Nat} {A : Around} (r : Room k A) : A.units + 65 < cLine := by have := r.un; omega
theorem inDK {X : Cx} {K : PySem.W.Frag} (hK : X.K = K) (hu : X.A.units + 65 < cLine) : OpR X (compareOp .In) (rInD K) := hK ▸ op_inD hu
theorem niDK {X : Cx} {K : PySem.W.Frag} (hK : X.K = K) (hu : X.A.units + 65 < cLine) : OpR X (compareOp .NotIn) (rNotInD K) := hK ▸ op_notInD hu
theorem ret_cb (h : EvA tA σ H vs) (k : ∀ H1, Ex H H1 → r vs H1 D.rt) : tRet (tCB r tA) D σ H := h H (Ex.refl _) _ k
end
def sp_low : Sp := fun vs H Q _ => ∃ (a : Int) (m : Nat), vs = [.int a, .int (m : Int)] ∧ 1 ≤ m ∧ m ≤ 100000 ∧ RetU [.int (lowA a m), .int (lowB a m : Int)] H Q
def sp_place (K : PySem.W.Frag) : Sp := fun vs H Q _ => ∃ (l : Addr) (ns : List Int) (x : Int), vs = [.ref l, .int x] ∧ SqL K H l (ns.map V.int) ∧ Good ns ∧ RetV (.int (x % (ns.length : Int))) H Q
def sp_lround (K : PySem.W.Frag) : Sp := fun vs H Q _ => ∃ (l : Addr) (ns : List Int) (x p a : Int) (m : Nat), vs = [.ref l, .int x] ∧ SqL K H l (ns.map V.int) ∧ Good ns ∧ LowP ns x p m ∧ it (onL ns) m p = p + a ∧
  ∀ u q H2, H u = none → H q = none → Ex H H2 → H2 u = some (.tup [.ref q, .int a]) → H2 q = some (.lst ((lap (onL ns) m p).map V.int)) → Q (.ref u) H2
/-- a new list of lists of ints, these old or new -/
def RetRs (K : PySem.W.Frag) (rows : List (List Int)) (H : Hp) (Q : VK) : Prop := ∀ p ys H2, H p = none → Ex H H2 → H2 p = some (.lst ys) → SI.RowsR K H2 ys rows → Q (.ref p) H2
theorem rowsR_mono {K : PySem.W.Frag} {H H' : Hp} (e : Ex H H') {ys : List V} {rows : List (List Int)} (h : SI.RowsR K H ys rows) : SI.RowsR K H' ys rows := each_mono h fun v row ⟨t, q1, q2⟩ => ⟨t, q1, ex_l e q2⟩
theorem rowsR_of {K : PySem.W.Frag} {H : Hp} {R : Addr → List Int → Prop} : ∀ {ts : List Addr} {rows : List (List Int)}, PySem.W.EachIs R ts rows → (∀ t row, R t row → SqL K H t (row.map V.int)) → SI.RowsR K H (ts.map V.ref) rows
  | _, _, .nil, _ => .nil
  | _, _, .cons h hs, k => .cons ⟨_, rfl, k _ _ h⟩ (rowsR_of hs k)
def sp_lrounds (K : PySem.W.Frag) : Sp := fun vs H Q _ => ∃ (l : Addr) (ns : List Int), vs = [.ref l] ∧ SqL K H l (ns.map V.int) ∧ Good ns ∧ RetRs K (ringsL ns) H Q
section
variable {K : PySem.W.Frag} {σ : L2.St} {H : Hp} {l C : Addr} {ns : List Int} {x p a : Int} {m : Nat} {tA : TA} {E : XK} {ti : TE}
theorem spu_low (h : 1 ≤ m) (h2 : m ≤ 100000) : SpU sp_low ([.int a, .int (m : Int)] ++ []) H [.int (lowA a m), .int (lowB a m : Int)] := fun H1 e Q q E => ⟨a, m, rfl, h, h2, q⟩
theorem spv_place (h : SqL K H l (ns.map V.int)) (g : Good ns) : SpV (sp_place K) ([.ref l, .int x] ++ []) H (.int (x % (ns.length : Int))) := fun H1 e Q q E => ⟨l, ns, x, rfl, ex_l e h, g, q⟩
theorem el_round0 (ha : EvA tA σ H [.ref l, .int x]) (h : SqL K H l (ns.map V.int)) (g : Good ns) (lo : LowP ns x p m) : EvL (tOp (rIxT K) (tCall (sp_lround K) [] E tA) (tC (.int 0))) σ H ((lap (onL ns) m p).map V.int) := fun H1 e Q q =>
  ha H1 e _ fun H2 e2 => ⟨l, ns, x, p, it (onL ns) m p - p, m, rfl, ex_l (e.trans e2) h, g, lo, by omega, fun u z H3 hu hz e3 hu3 hz3 => rv_ixT (K := K) (v := .ref z) (i := 0) (st_of hu3) rfl H3 (Ex.refl _) Q fun H4 e4 => q z H4 (fresh_back e2 hz) ((e2.trans e3).trans e4) (e4 z _ hz3)⟩
theorem ev_round1 (ha : EvA tA σ H [.ref l, .int x]) (h : SqL K H l (ns.map V.int)) (g : Good ns) (lo : LowP ns x p m) (hp : it (onL ns) m p = p + a) : Ev (tOp (rIxT K) (tCall (sp_lround K) [] E tA) (tC (.int 1))) σ H (.int a) := fun H1 e Q q =>
  ha H1 e _ fun H2 e2 => ⟨l, ns, x, p, a, m, rfl, ex_l (e.trans e2) h, g, lo, hp, fun u z H3 hu hz e3 hu3 hz3 => rv_ixT (K := K) (v := .int a) (i := 1) (st_of hu3) rfl H3 (Ex.refl _) Q fun H4 e4 => q H4 ((e2.trans e3).trans e4)⟩
end
/-- the places passed -/
def plc (ns : List Int) (m : Nat) (x : Int) : List Int := (List.range m).map fun j => it (onL ns) j x % (ns.length : Int)
theorem plc_len {ns : List Int} {m : Nat} {x : Int} : (plc ns m x).length = m := by unfold plc; rw [List.length_map, List.length_range]
theorem plc_succ {ns : List Int} {m : Nat} {x : Int} : plc ns (m + 1) x = plc ns m x ++ [it (onL ns) m x % (ns.length : Int)] := by unfold plc; rw [List.range_succ, List.map_append]; rfl
theorem plc_get {ns : List Int} {m j : Nat} {x : Int} (h : j < m) : (plc ns m x).getD j 0 = it (onL ns) j x % (ns.length : Int) := by
  unfold plc
  rw [List.getD_eq_getElem?_getD, List.getElem?_map, List.getElem?_range h]
  rfl
theorem dp_rows {K : PySem.W.Frag} {H : Hp} {R : Addr → List Int → Prop} : ∀ {ts : List Addr} {rows : List (List Int)}, PySem.W.EachIs R ts rows → (∀ t row, R t row → SqL K H t (row.map V.int)) → DpAll K H (ts.map V.ref) (rows.map dInts)
  | _, _, .nil, _ => .nil
  | _, _, .cons h hs, k => .cons (dp_ints (k _ _ h)) (dp_rows hs k)
theorem rows_in {rows : List (List Int)} {row : List Int} : ((rows.map dInts).any fun z => PyData.eqv z (dInts row)) = decide (row ∈ rows) := by
  induction rows with
  | nil => simp
  | cons r rows ih =>
    rw [List.map_cons, List.any_cons, ih, eqv_dInts]
    by_cases h : r = row
    · subst h; simp
    · simp [h, Ne.symm h]
theorem plain_ints (ns : List Int) : plainD (dInts ns) = true := by unfold dInts; simp only [plainD]; exact plainAll_map (fun _ => rfl) ns
theorem plain_rows (rows : List (List Int)) : plainD (.list (rows.map dInts)) = true := by simp only [plainD]; exact plainAll_map plain_ints rows
theorem depth_rows (rows : List (List Int)) : (PyData.list (rows.map dInts)).depth ≤ 2 := by
  simp only [PyData.depth]
  have := depth_all (ds := rows.map dInts) (k := 1) fun d hd => by
    obtain ⟨n, _, rfl⟩ := List.mem_map.mp hd
    exact depth_ints n
  omega
section
variable {K : PySem.W.Frag} {σ : L2.St} {H : Hp} {ta tb : TE} {x y : V} {row : List Int} {rows : List (List Int)}
theorem ev_rowNot (h : Ev ta σ H x) (h2 : Ev tb σ H y) (hx : Dp K H x (dInts row)) (hy : Dp K H y (.list (rows.map dInts))) : Ev (tOp (rNotInD K) ta tb) σ H (.bl (!decide (row ∈ rows))) := fun H1 e Q q =>
  h H1 e _ fun H2 e2 => h2 H2 (e.trans e2) _ fun H3 e3 => ⟨_, _, dp_mono ((e.trans e2).trans e3) hx, dp_mono ((e.trans e2).trans e3) hy, shaped_small (plain_ints row) (by have := depth_ints row; omega), shaped_small (plain_rows rows) (by have := depth_rows rows; omega), by
    rw [rows_in]
    exact q H3 (e2.trans e3)⟩
end
section
variable {P : Program} {w : World} {K : PySem.W.Frag} {mg : Str → Option Value} {base : Heap} {C : Addr}
theorem ok_low {f : Addr} {fd : FuncData} (F : Fun K "_law_low" "_law_low" s__law_low f fd) (T : Txt K mg C) : FnOk P w K mg base CX0 1 f fd ["_law_above", "_law_below"] sp_low := by
  refine F.ok sc__law_low (fun vs H Q E h => ?_) (fun cdv A outer s H vs Q E hr h => ?_)
  · obtain ⟨a, m, rfl, _⟩ := h
    rfl
  · obtain ⟨a, m, rfl, h1, h2, k⟩ := h
    obtain ⟨gg, g1, ge, ea, em, _⟩ := low_spec a h1
    have hgl : gg ≤ m := by rw [ge]; exact Nat.le_of_dvd (by omega) (Nat.gcd_dvd_right _ _)
    refine ⟨_, (pss_cons (ps_par (i := 2) (j := 3) (by rfl) sc__law_low.nd rfl rfl (by decide) rfl rfl (pa_cons (pe_callB call_abs (by rfl) T.b_abs (by decide +kernel) (pa_cons (pv 0) pa_nil)) (pa_cons (pe_callB call_abs (by rfl) T.b_abs (by decide +kernel) (pa_cons (pv 1) pa_nil)) pa_nil)) (by rfl)) (pss_cons (ps_while PassesOwn.never (pt_cmpR op_gt (pv 3) pe_int (nomark _)) (pss_one (ps_par (i := 2) (j := 3) (by rfl) sc__law_low.nd rfl rfl (by decide) rfl rfl (pa_cons (pv 3) (pa_cons (pe_op op_modN (pe_callTy call_int1 (by rfl) T.b_int (by decide +kernel) (pa_cons (pv 2) pa_nil)) (pv 3)) pa_nil)) (by rfl)))) (pss_one (ps_ret (pe_tup (pa_cons (pe_op op_fdivN (pv 0) (pv 2)) (pa_cons (pe_op op_fdivN (pv 1) (pv 2)) pa_nil))))))), ?_⟩
    refine q_par (v := .int (a.natAbs : Int)) (w := .int (m : Int)) (ea_cons (ev_is (ev_cb (ea_cons (ev_var rfl) ea_nil) rc_abs) (by congr 1; split <;> omega)) (ea_cons (ev_is (ev_cb (ea_cons (ev_var rfl) ea_nil) rc_abs) (by rw [if_neg (by omega)])) ea_nil)) fun H1 e1 => ?_
    refine q_while (fun j σ' H' => ∃ y z : Nat, j = z ∧ z ≤ m ∧ Nat.gcd y z = gg ∧ Ex H H' ∧ σ' = [some (.int a), some (.int (m : Int)), some (.int (y : Int)), some (.int (z : Int))]) m ⟨a.natAbs, m, rfl, Nat.le_refl _, ge.symm, e1, rfl⟩ ?_
    rintro j σ' H' ⟨y, z, rfl, hz, hg, eH, rfl⟩
    refine ⟨decide ((j : Int) > 0), et_test (ev_op (ev_var rfl) ev_c rv_I0), fun ht H2 e2 => ?_, fun ht H2 e2 => ?_⟩
    · have hj : 0 < j := by have := of_decide_eq_true ht; omega
      refine ⟨fun σ2 H3 => Ex H H3 ∧ σ2 = [some (.int a), some (.int (m : Int)), some (.int (j : Int)), some (.int ((y % j : Nat) : Int))], fun σ2 H3 ⟨q1, q2⟩ => ⟨y % j, Nat.mod_lt _ hj, j, y % j, rfl, Nat.le_trans (Nat.le_of_lt (Nat.mod_lt _ hj)) hz, by rw [Nat.gcd_comm, ← Nat.gcd_rec, Nat.gcd_comm]; exact hg, q1, q2⟩, ?_⟩
      exact s_par (ea_cons (ev_var rfl) (ea_cons (ev_is (ev_op (ev_cb (ea_cons (ev_var rfl) ea_nil) rc_int1) (ev_var rfl) (rv_I (by omega))) (by rw [Int.fmod_eq_emod_of_nonneg _ (by omega)]; congr 1)) ea_nil)) fun H3 e3 => ⟨(eH.trans e2).trans e3, rfl⟩
    · have hj : j = 0 := by have := of_decide_eq_false ht; omega
      subst hj
      rw [Nat.gcd_zero_right] at hg
      subst hg
      refine s_retU (eu_tup (ea_cons (ev_is (ev_op (ev_var rfl) (ev_var rfl) (rv_I ⟨by omega, by omega⟩)) ?_) (ea_cons (ev_is (ev_op (ev_var rfl) (ev_var rfl) (rv_I ⟨by omega, by omega⟩)) ?_) ea_nil)) (by show 2 ≤ 100000; decide)) fun u H4 hu e4 hul => k u H4 (fresh_back (eH.trans e2) hu) ((eH.trans e2).trans e4) hul
      · rw [Int.fdiv_eq_ediv_of_nonneg _ (by omega)]
        unfold lowA
        rw [← ge]
      · rw [Int.fdiv_eq_ediv_of_nonneg _ (by omega)]
        unfold lowB
        rw [← ge]
        rfl
theorem ok_place {f : Addr} {fd : FuncData} (F : Fun K "_law_place" "_law_place" s__law_place f fd) (T : Txt K mg C) : FnOk P w K mg base CX0 1 f fd ["_law_days_here", "_law_day"] (sp_place K) := by
  refine F.ok sc__law_place (fun vs H Q E h => ?_) (fun cdv A outer s H vs Q E hr h => ?_)
  · obtain ⟨l, ns, x, rfl, _⟩ := h
    rfl
  · obtain ⟨l, ns, x, rfl, hl, g, k⟩ := h
    have hgm := g.most
    have hgp := g.pos
    have hlen : ∀ H1, Ex H H1 → Ev (tCB (fun xs H Q => ∃ p ys, xs = [.ref p] ∧ (SqL K H p ys ∨ SqT K H p ys) ∧ Q (.int (ys.length : Int)) H) (tCons (tVar 0) tNil)) (start ["_law_days_here", "_law_day"] [.ref l, .int x]) H1 (.int (ns.length : Int)) := fun H1 e1 => ev_cb (ea_cons (ev_var rfl) ea_nil) (rc_len (.inl (ex_l e1 hl)) (by rw [List.length_map]))
    refine ⟨_, (pss_one (ps_ret (pe_op op_sub (pv 1) (pe_op op_mul (pe_op op_fdivN (pv 1) (pe_callB (lenS (K := K) rfl) (by rfl) T.b_len (by decide +kernel) (pa_cons (pv 0) pa_nil))) (pe_callB (lenS (K := K) rfl) (by rfl) T.b_len (by decide +kernel) (pa_cons (pv 0) pa_nil)))))), ?_⟩
    refine s_ret (ev_is (ev_op (ev_var rfl) (ev_op (ev_op (ev_var rfl) (hlen H (Ex.refl H)) (rv_I ⟨by omega, by omega⟩)) (hlen H (Ex.refl H)) (rv_I (.inr ⟨by omega, by omega⟩))) rv_I0) ?_) k
    rw [Int.fdiv_eq_ediv_of_nonneg _ (by omega), Int.emod_def, Int.mul_comm]
theorem ok_lround {f f1 f2 : Addr} {fd fd1 fd2 : FuncData} (F : Fun K "_law_round" "_law_round" s__law_round f fd) (T : Txt K mg C) (c__law_on : Cal P w K mg base "_law_on" f1 fd1 ["_law_days_here", "_law_day"] 1 (sp_lon K)) (c__law_place : Cal P w K mg base "_law_place" f2 fd2 ["_law_days_here", "_law_day"] 1 (sp_place K)) : FnOk P w K mg base CX0 2 f fd ["_law_days_here", "_law_day"] (sp_lround K) := by
  refine F.ok sc__law_round (fun vs H Q E h => ?_) (fun cdv A outer s H vs Q E hr h => ?_)
  · obtain ⟨l, ns, x, p, a, m, rfl, _⟩ := h
    rfl
  · obtain ⟨l, ns, x, p, a, m, rfl, hl, g, lo, hpa, k⟩ := h
    have r := on_rule g
    have hgm := g.most
    have hgp := g.pos
    obtain ⟨R, hadv⟩ := lowQ_ret r lo
    have hya := hadv a hpa
    have hml := R.le r
    have hm1 := R.pos
    obtain ⟨jm, p', hj, hp', Rp', hmin⟩ := rep_ex r R
    have epp : p = p' := low_uniq r R lo.1 lo.2.choose_spec Rp' hp'
    subst epp
    generalize hy : it (onL ns) ns.length x = y at R hya hp' hmin
    refine ⟨_, (pss_cons (ps_set (i := 2) sc__law_round.nd rfl (Or.inl rfl) (pv 1)) (pss_cons (ps_for PassesOwn.never rfl (pi_range1 (by rfl) T.b_range (pa_cons (pe_callB (lenS (K := K) rfl) (by rfl) T.b_len (by decide +kernel) (pa_cons (pv 0) pa_nil)) pa_nil)) (pg_name (i := 3) sc__law_round.nd rfl (Or.inl rfl)) (pss_one (ps_set (i := 2) sc__law_round.nd rfl (Or.inl rfl) (pe_call c__law_on.ok (hr.mono (by decide)) (by rfl) c__law_on.mgx c__law_on.kp c__law_on.bd .nil pass0 (pa_cons (pv 0) (pa_cons (pv 2) pa_nil)))))) (pss_cons (ps_par (i := 4) (j := 5) (by rfl) sc__law_round.nd rfl rfl (by decide) rfl rfl (pa_cons (pe_lst (pa_cons (pe_call c__law_place.ok (hr.mono (by decide)) (by rfl) c__law_place.mgx c__law_place.kp c__law_place.bd .nil pass0 (pa_cons (pv 0) (pa_cons (pv 2) pa_nil))) pa_nil)) (pa_cons (pv 2) pa_nil)) (by rfl)) (pss_cons (ps_set (i := 2) sc__law_round.nd rfl (Or.inl rfl) (pe_call c__law_on.ok (hr.mono (by decide)) (by rfl) c__law_on.mgx c__law_on.kp c__law_on.bd .nil pass0 (pa_cons (pv 0) (pa_cons (pv 2) pa_nil)))) (pss_cons (ps_while PassesOwn.never (pt_cmpR op_ne (pe_call c__law_place.ok (hr.mono (by decide)) (by rfl) c__law_place.mgx c__law_place.kp c__law_place.bd .nil pass0 (pa_cons (pv 0) (pa_cons (pv 2) pa_nil))) (pe_ix (ixL (K := K) rfl) (pv 4) pe_int (fun _ _ => rfl)) (nomark _)) (pss_cons (ps_expr (pe_bm PySem.F.plainAttrs_list PySem.F.slot_list_append PySem.F.type_list_append mt_append (pv 4) (pa_cons (pe_call c__law_place.ok (hr.mono (by decide)) (by rfl) c__law_place.mgx c__law_place.kp c__law_place.bd .nil pass0 (pa_cons (pv 0) (pa_cons (pv 2) pa_nil))) pa_nil))) (pss_one (ps_set (i := 2) sc__law_round.nd rfl (Or.inl rfl) (pe_call c__law_on.ok (hr.mono (by decide)) (by rfl) c__law_on.mgx c__law_on.kp c__law_on.bd .nil pass0 (pa_cons (pv 0) (pa_cons (pv 2) pa_nil))))))) (pss_cons (ps_set (i := 6) sc__law_round.nd rfl (Or.inl rfl) (pe_lst (pa_cons (pe_callB (minL (K := K) rfl rfl) (by rfl) T.b_min (by decide +kernel) (pa_cons (pv 4) pa_nil)) pa_nil))) (pss_cons (ps_for PassesOwn.never rfl (pi_range1 (by rfl) T.b_range (pa_cons (pe_op op_sub (pe_callB (lenS (K := K) rfl) (by rfl) T.b_len (by decide +kernel) (pa_cons (pv 4) pa_nil)) pe_int) pa_nil)) (pg_name (i := 3) sc__law_round.nd rfl (Or.inl rfl)) (pss_one (ps_expr (pe_bm PySem.F.plainAttrs_list PySem.F.slot_list_append PySem.F.type_list_append mt_append (pv 6) (pa_cons (pe_call c__law_on.ok (hr.mono (by decide)) (by rfl) c__law_on.mgx c__law_on.kp c__law_on.bd .nil pass0 (pa_cons (pv 0) (pa_cons (pe_ix (ixL (K := K) rfl) (pv 6) (pe_un un_neg pe_int) (fun _ _ => rfl)) pa_nil))) pa_nil))))) (pss_one (ps_ret (pe_tup (pa_cons (pv 6) (pa_cons (pe_op op_sub (pv 2) (pv 5)) pa_nil)))))))))))), ?_⟩
    refine q_asg (ev_var rfl) fun H1 e1 => ?_
    refine q_forR1 (n := (ns.length : Int)) (ea_cons (ev_cb (ea_cons (ev_var rfl) ea_nil) (rc_len (.inl (ex_l e1 hl)) (by rw [List.length_map]))) ea_nil) (by omega) (fun i σ' H' => Ex H H' ∧ ∃ o : Option V, σ' = [some (.ref l), some (.int x), some (.int (it (onL ns) i x)), o, none, none, none]) (fun H2 e2 => ⟨e1.trans e2, _, rfl⟩) (fun i σ' H' hi hP => ?_) (fun σ' H' hP => ?_)
    · obtain ⟨eH, o, rfl⟩ := hP
      exact s_asg (ev_call (ea_cons (ev_var rfl) (ea_cons (ev_var rfl) ea_nil)) (spv_lon (ex_l eH hl) g)) fun H2 e2 => ⟨eH.trans e2, _, rfl⟩
    · obtain ⟨eH, o, rfl⟩ := hP
      rw [Int.toNat_natCast, hy]
      refine q_parL (xs := (plc ns 1 y).map V.int) (el_lst (ea_cons (ev_call (ea_cons (ev_var rfl) (ea_cons (ev_var rfl) ea_nil)) (spv_place (ex_l eH hl) g)) ea_nil) (by show 1 ≤ 100000; decide)) (fun H2 e2 => ev_var rfl) fun q H2 hq e2 hq2 => ?_
      have e3 := eH.trans e2
      refine q_asg (v := .int (it (onL ns) 1 y)) (ev_call (ea_cons (ev_var rfl) (ea_cons (ev_var rfl) ea_nil)) (spv_lon (ex_l e3 hl) g)) fun H3 e4 => ?_
      have hqH : H q = none := fresh_back eH hq
      refine q_while (fun j σ' H' => ∃ i : Nat, j + i = m ∧ 1 ≤ i ∧ Ex H H' ∧ H' q = some (.lst ((plc ns i y).map V.int)) ∧ σ' = [some (.ref l), some (.int x), some (.int (it (onL ns) i y)), o, some (.ref q), some (.int y), none]) (m - 1) ⟨1, by omega, Nat.le_refl _, e3.trans e4, e4 q _ hq2, rfl⟩ ?_
      rintro j σ' H' ⟨i, hji, hi, eH', hq', rfl⟩
      have h0 : atI ((plc ns i y).map V.int) 0 = some (.int (y % (ns.length : Int))) := by
        rw [atI_int (by decide) (by rw [plc_len]; omega)]
        show some (V.int ((plc ns i y).getD 0 0)) = _
        rw [plc_get (by omega)]
        rfl
      refine ⟨!decide (V.int (it (onL ns) i y % (ns.length : Int)) = V.int (y % (ns.length : Int))), et_test (ev_op (ev_call (ea_cons (ev_var rfl) (ea_cons (ev_var rfl) ea_nil)) (spv_place (ex_l eH' hl) g)) (ev_op (ev_var rfl) ev_c (rv_ixL (sq_of hq') h0)) (rv_ne rfl)), fun hb H4 e5 => ?_, fun hb H4 e5 => ?_⟩
      · have hne : i ≠ m := fun z => by
          have := mod_eq.mpr R.back
          rw [← z] at this
          rw [this] at hb
          simp at hb
        refine ⟨fun σ2 H5 => Ex H H5 ∧ H5 q = some (.lst ((plc ns (i + 1) y).map V.int)) ∧ σ2 = [some (.ref l), some (.int x), some (.int (it (onL ns) (i + 1) y)), o, some (.ref q), some (.int y), none], fun σ2 H5 ⟨q1, q2, q3⟩ => ⟨j - 1, by omega, i + 1, by omega, by omega, q1, q2, q3⟩, ?_⟩
        have e6 := eH'.trans e5
        refine q_app (e5 q _ hq') (ev_var rfl) (ev_call (ea_cons (ev_var rfl) (ea_cons (ev_var rfl) ea_nil)) (spv_place (ex_l e6 hl) g)) (by rw [List.length_map, plc_len]; omega) fun H5 e7 => ?_
        have e8 : Ex H (upd H5 q (.lst ((plc ns i y).map V.int ++ [.int (it (onL ns) i y % (ns.length : Int))]))) := fun b o' hb' => by
          rw [upd_ne (ne_of_none hb' hqH)]
          exact (e6.trans e7) b o' hb'
        exact s_asg (v := .int (it (onL ns) (i + 1) y)) (ev_call (ea_cons (ev_var rfl) (ea_cons (ev_var rfl) ea_nil)) (spv_lon (ex_l e8 hl) g)) fun H6 e9 => ⟨e8.trans e9, e9 q _ (by rw [upd_same, plc_succ, List.map_append]; rfl), rfl⟩
      · have hback : it (onL ns) i y % (ns.length : Int) = y % (ns.length : Int) := by
          cases hd : decide (V.int (it (onL ns) i y % (ns.length : Int)) = V.int (y % (ns.length : Int))) with
          | false => rw [hd] at hb; cases hb
          | true => have := of_decide_eq_true hd; injection this
        have him : i = m := by
          by_cases hlt : i < m
          · exact absurd (mod_eq.mp hback) (R.first i hi hlt)
          · omega
        subst him
        have e6 := eH'.trans e5
        refine q_asgL (xs := (lap (onL ns) 1 p).map V.int) (el_lst (ea_cons (ev_cb (ea_cons (ev_var rfl) ea_nil) (rc_min (sq_of (e5 q _ hq')) (by unfold plc; exact List.mem_map.mpr ⟨jm, List.mem_range.mpr hj, hp'.symm⟩) (fun z hz => by
          unfold plc at hz
          obtain ⟨i', hi', rfl⟩ := List.mem_map.mp hz
          exact hmin i' (List.mem_range.mp hi')))) ea_nil) (by show 1 ≤ 100000; decide)) fun fo H5 hfo e7 hfo5 => ?_
        have hfoH : H fo = none := fresh_back e6 hfo
        refine q_forR1 (n := (i : Int) - 1) (ea_cons (ev_op (ev_cb (ea_cons (ev_var rfl) ea_nil) (rc_len (.inl (sq_of ((e5.trans e7) q _ hq'))) (by rw [List.length_map, plc_len]))) ev_c rv_I0) ea_nil) (by omega) (fun j σ' H' => Ex H H' ∧ H' fo = some (.lst ((lap (onL ns) (j + 1) p).map V.int)) ∧ ∃ o : Option V, σ' = [some (.ref l), some (.int x), some (.int (it (onL ns) i y)), o, some (.ref q), some (.int y), some (.ref fo)]) (fun H6 e8 => ⟨(e6.trans e7).trans e8, e8 fo _ hfo5, _, rfl⟩) (fun j σ' H' hj' hP => ?_) (fun σ' H' hP => ?_)
        · obtain ⟨eH2, hf2, o2, rfl⟩ := hP
          have hlast : atI ((lap (onL ns) (j + 1) p).map V.int) (-1) = some (.int (it (onL ns) j p)) := by rw [atI_m1 (by rw [lap_len]; omega), lap_len, lap_last (by omega)]; rfl
          refine s_app hf2 (ev_var rfl) (ev_call (ea_cons (ev_var rfl) (ea_cons (ev_op (ev_var rfl) (ev_un ev_c ru_neg) (rv_ixL (sq_of hf2) hlast)) ea_nil)) (spv_lon (ex_l eH2 hl) g)) (by rw [List.length_map, lap_len]; omega) fun H6 e8 => ?_
          refine ⟨fun b o' hb' => ?_, by rw [upd_same, lap_succ (m := j + 1), List.map_append]; rfl, _, rfl⟩
          rw [upd_ne (ne_of_none hb' hfoH)]
          exact (eH2.trans e8) b o' hb'
        · obtain ⟨eH2, hf2, o2, rfl⟩ := hP
          rw [show ((i : Int) - 1).toNat + 1 = i by omega] at hf2
          refine s_retU (eu_tup (ea_cons (ev_var rfl) (ea_cons (ev_is (ev_op (ev_var rfl) (ev_var rfl) rv_I0) (by rw [hya]; congr 1; omega)) ea_nil)) (by show 2 ≤ 100000; decide)) fun u H7 hu e9 hu7 => k u fo H7 (fresh_back eH2 hu) hfoH (eH2.trans e9) hu7 (e9 fo _ hf2)
theorem ok_lrounds {f f1 : Addr} {fd fd1 : FuncData} (F : Fun K "_law_rounds" "_law_rounds" s__law_rounds f fd) (T : Txt K mg C) (c__law_round : Cal P w K mg base "_law_round" f1 fd1 ["_law_days_here", "_law_day"] 2 (sp_lround K)) : FnOk P w K mg base CX0 3 f fd ["_law_days_here"] (sp_lrounds K) := by
  refine F.ok sc__law_rounds (fun vs H Q E h => ?_) (fun cdv A outer s H vs Q E hr h => ?_)
  · obtain ⟨l, ns, rfl, _⟩ := h
    rfl
  · obtain ⟨l, ns, rfl, hl, g, k⟩ := h
    have r := on_rule g
    have hgm := g.most
    have hgp := g.pos
    refine ⟨_, (pss_cons (ps_set (i := 1) sc__law_rounds.nd rfl (Or.inl rfl) (pe_lst pa_nil)) (pss_cons (ps_for PassesOwn.never rfl (pi_range1 (by rfl) T.b_range (pa_cons (pe_callB (lenS (K := K) rfl) (by rfl) T.b_len (by decide +kernel) (pa_cons (pv 0) pa_nil)) pa_nil)) (pg_name (i := 2) sc__law_rounds.nd rfl (Or.inl rfl)) (pss_cons (ps_set (i := 3) sc__law_rounds.nd rfl (Or.inl rfl) (pe_ix (ixT (K := K) rfl) (pe_call c__law_round.ok (hr.mono (by decide)) (by rfl) c__law_round.mgx c__law_round.kp c__law_round.bd .nil pass0 (pa_cons (pv 0) (pa_cons (pv 2) pa_nil))) pe_int (fun _ _ => rfl))) (pss_one (ps_if (pt_cmpR (niDK (K := K) rfl (u65 hr)) (pv 3) (pv 1) (by rfl)) (pss_one (ps_expr (pe_bm PySem.F.plainAttrs_list PySem.F.slot_list_append PySem.F.type_list_append mt_append (pv 1) (pa_cons (pv 3) pa_nil)))) pss_nil)))) (pss_one (ps_ret (pe_callB (SI.cr_sortRows hr.units) (by rfl) T.b_sorted (by decide +kernel) (pa_cons (pv 1) pa_nil)))))), ?_⟩
    refine q_asgL (el_lst ea_nil (by show 0 ≤ 100000; decide)) fun fl H1 hfl e1 hfl1 => ?_
    refine q_forR1 (n := (ns.length : Int)) (ea_cons (ev_cb (ea_cons (ev_var rfl) ea_nil) (rc_len (.inl (ex_l e1 hl)) (by rw [List.length_map]))) ea_nil) (by omega) (fun i σ' H' => ∃ (ts : List Addr) (rows : List (List Int)) (o2 o3 : Option V), Ex H H' ∧ H' fl = some (.lst (ts.map V.ref)) ∧ rows.Nodup ∧ rows.length ≤ i ∧ (∀ row, row ∈ rows ↔ ∃ j, j < i ∧ row = rnd ns.length (onL ns) (j : Int)) ∧ NewRows H H' fl ts rows ∧ σ' = [some (.ref l), some (.ref fl), o2, o3]) (fun H2 e2 => ⟨[], [], _, _, e1.trans e2, e2 fl _ hfl1, by simp, by simp, by simp, .nil, rfl⟩) (fun i σ' H' hi hP => ?_) (fun σ' H' hP => ?_)
    · obtain ⟨ts, rows, o2, o3, eH, hf, hnd, hrl, hm, hrows, rfl⟩ := hP
      obtain ⟨p, m, lo⟩ := lowP_ex g (i : Int)
      have hrn := rnd_eq r lo
      refine q_asgL (el_round0 (ea_cons (ev_var rfl) (ea_cons (ev_var rfl) ea_nil)) (ex_l eH hl) g lo) fun t H2 ht e2 ht2 => ?_
      have htH : H t = none := fresh_back eH ht
      have htf : t ≠ fl := (ne_of_none hf ht).symm
      have hdp : Dp K H2 (.ref fl) (.list (rows.map dInts)) := .lst (sq_of (e2 fl _ hf)) (dp_rows hrows fun u row hu => sq_of (e2 u _ hu.2))
      refine s_when (et_test (ev_rowNot (row := lap (onL ns) m p) (rows := rows) (ev_var rfl) (ev_var rfl) (dp_ints (sq_of ht2)) hdp)) (fun hb H3 e3 => ?_) (fun hb H3 e3 => ?_)
      · have hnin : lap (onL ns) m p ∉ rows := fun z => by rw [decide_eq_true z] at hb; cases hb
        have e4 := e2.trans e3
        refine s_app (e4 fl _ hf) (ev_var rfl) (ev_var rfl) (by rw [List.length_map, PySem.W.EachIs.length hrows]; omega) fun H4 e5 => ?_
        refine ⟨ts ++ [t], rows ++ [lap (onL ns) m p], _, _, fun b o' hb' => ?_, by rw [upd_same, List.map_append]; rfl, ?_, by rw [List.length_append, List.length_singleton]; omega, fun row => ?_, each_snoc (each_mono hrows fun u row ⟨q1, q2⟩ => ⟨q1, ?_⟩) ⟨⟨htH, htf⟩, ?_⟩, rfl⟩
        · rw [upd_ne (ne_of_none hb' hfl)]
          exact (eH.trans (e4.trans e5)) b o' hb'
        · refine List.nodup_append.mpr ⟨hnd, by simp, fun b hb' c hc => ?_⟩
          rw [List.mem_singleton] at hc
          subst hc
          exact fun e => hnin (e ▸ hb')
        · rw [List.mem_append, hm row, List.mem_singleton]
          constructor
          · rintro (⟨j, hj, h⟩ | h)
            · exact ⟨j, by omega, h⟩
            · exact ⟨i, by omega, by rw [hrn]; exact h⟩
          · rintro ⟨j, hj, h⟩
            by_cases e : j = i
            · subst e; rw [hrn] at h; exact .inr h
            · exact .inl ⟨j, by omega, h⟩
        · rw [upd_ne q1.2]
          exact (e4.trans e5) u _ q2
        · rw [upd_ne htf]
          exact (e3.trans e5) t _ ht2
      · have hin : lap (onL ns) m p ∈ rows := Classical.byContradiction fun z => by rw [decide_eq_false z] at hb; cases hb
        refine ⟨ts, rows, _, _, eH.trans (e2.trans e3), (e2.trans e3) fl _ hf, hnd, by omega, fun row => ?_, each_mono hrows fun u row ⟨q1, q2⟩ => ⟨q1, (e2.trans e3) u _ q2⟩, rfl⟩
        rw [hm row]
        constructor
        · rintro ⟨j, hj, h⟩
          exact ⟨j, by omega, h⟩
        · rintro ⟨j, hj, h⟩
          by_cases e : j = i
          · subst e
            rw [hrn] at h
            subst h
            exact (hm _).mp hin
          · exact ⟨j, by omega, h⟩
    · obtain ⟨ts, rows, o2, o3, eH, hf, hnd, hrl, hm, hrows, rfl⟩ := hP
      rw [Int.toNat_natCast] at hm
      have hsort : (rows.mergeSort fun p q => decide (p ≤ q)) = ringsL ns := sort_rings hnd fun row => by rw [hm row]; exact (rings_rnd r).symm
      refine ret_cb (ea_cons (ev_var rfl) ea_nil) fun H1 e1 => ⟨fl, ts.map V.ref, rows, rfl, sq_of (e1 fl _ hf), rowsR_of hrows fun u row hu => sq_of (e1 u _ hu.2), fun ys z hy hz => ?_⟩
      rw [hsort] at hy
      exact k z ys _ (fresh_back (eH.trans e1) hz) ((eH.trans e1).trans (Ex.new hz)) upd_same (rowsR_mono (Ex.new hz) hy)
end
end K15
end
section
set_option maxHeartbeats 4000000
namespace K15
open PySem L2 Evl G TM
/-! ### lists of new things of told content -/
def EvOb (te : TE) (σ : L2.St) (H : Hp) (o : HO) : Prop := ∀ H1, Ex H H1 → ∀ Q : VK, (∀ t H2, H1 t = none → Ex H1 H2 → H2 t = some o → Q (.ref t) H2) → te σ H1 Q
abbrev NewOs (H H' : Hp) (p : Addr) (ts : List Addr) (os : List HO) : Prop := PySem.W.EachIs (fun t o => (H t = none ∧ t ≠ p) ∧ H' t = some o) ts os
def EvOs (te : TE) (σ : L2.St) (H : Hp) (os : List HO) : Prop := ∀ H1, Ex H H1 → ∀ Q : VK, (∀ p ts H2, H1 p = none → Ex H1 H2 → H2 p = some (.lst (ts.map V.ref)) → NewOs H1 H2 p ts os → Q (.ref p) H2) → te σ H1 Q
def Ow (H1 : Hp) (o : Nat → HO) (Dl : Addr) (i : Nat) (H' : Hp) : Prop := H1 Dl = none ∧ Ex H1 H' ∧ ∃ ts, H' Dl = some (.lst (ts.map V.ref)) ∧ NewOs H1 H' Dl ts ((List.range i).map o)
section
variable {K : PySem.W.Frag} {σ : L2.St} {H : Hp} {tA : TA} {te tl tb : TE} {j : Nat} {vs : List Nat} {D : Ends} {tz : TS} {i : Nat} {a : Addr} {xs : List V}
theorem ow_turn {H1 H' : Hp} {o : Nat → HO} {Dl : Addr} {σ2 : L2.St} (p : Ow H1 o Dl i H') (hi : i < 50000) (he : EvOb te σ2 H1 (o i)) :
    tYes σ2 H' fun b H3 => if b = true then te σ2 H3 fun y H4 => ∃ acc, H4 Dl = some (.lst acc) ∧ acc.length < sizeLine ∧ Ow H1 o Dl (i + 1) (upd H4 Dl (.lst (acc ++ [y]))) else Ow H1 o Dl (i + 1) H3 := by
  obtain ⟨p1, p2, ts, p3, p4⟩ := p
  unfold tYes
  refine iteT ?_
  refine he H' p2 _ fun t H4 ht e4 ht4 => ?_
  have htD : t ≠ Dl := (ne_of_none p3 ht).symm
  have hl := PySem.W.EachIs.length p4
  rw [List.length_map, List.length_range] at hl
  refine ⟨_, e4 Dl _ p3, sz_lt (by rw [List.length_map]; omega), p1, fun b o' hb => ?_, ts ++ [t], by rw [upd_same, List.map_append]; rfl, ?_⟩
  · rw [upd_ne (ne_of_none hb p1)]
    exact (p2.trans e4) b o' hb
  · rw [List.range_succ, List.map_append]
    refine each_snoc (each_mono p4 fun u o' ⟨q1, q2⟩ => ⟨q1, ?_⟩) ⟨⟨fresh_back p2 ht, htD⟩, ?_⟩
    · rw [upd_ne q1.2]
      exact e4 u _ q2
    · rw [upd_ne htD]
      exact ht4
theorem eos_lcR {n : Int} (o : Nat → HO) (h : EvA tA σ H [.int n]) (hn : 0 ≤ n ∧ n ≤ 40000) (hw : ∀ x, wipe ((wipe σ vs).set j (some x)) vs = wipe σ vs) (he : ∀ (i : Nat) H1, Ex H H1 → (i : Int) < n → EvOb te ((wipe σ vs).set j (some (.int (i : Int)))) H1 (o i)) :
    EvOs (tLc (iRng1 tA) (gName j) tYes te vs) σ H ((List.range n.toNat).map o) := fun H0 e Q q => h H0 e _ fun H1 e1 => ⟨n, rfl, by omega, by omega, fun Dl hD =>
  lc_range (lo := 0) (n := n.toNat) (Ow H1 o Dl) ⟨hD, Ex.new hD, [], upd_same, .nil⟩ (fun i H' hi p => by
    have e0 : (0 : Int) + (i : Int) = (i : Int) := Int.zero_add _
    show wipe ((wipe σ vs).set j (some (.int ((0 : Int) + (i : Int))))) vs = wipe σ vs ∧ tYes ((wipe σ vs).set j (some (.int ((0 : Int) + (i : Int))))) H' fun b H3 => if b = true then te ((wipe σ vs).set j (some (.int ((0 : Int) + (i : Int))))) H3 fun y H4 => ∃ acc, H4 Dl = some (.lst acc) ∧ acc.length < sizeLine ∧ Ow H1 o Dl (i + 1) (upd H4 Dl (.lst (acc ++ [y]))) else Ow H1 o Dl (i + 1) H3
    rw [e0]
    exact ⟨hw _, ow_turn p (by omega) (he i H1 (e.trans e1) (by omega))⟩) (fun H' p => by
      obtain ⟨p1, p2, ts, p3, p4⟩ := p
      exact q Dl ts H' (fresh_back e1 p1) (e1.trans p2) p3 (each_mono p4 fun u o' ⟨⟨q1, q3⟩, q2⟩ => ⟨⟨fresh_back e1 q1, q3⟩, q2⟩))⟩
theorem eos_lcNL (o : Nat → HO) (h : EvL tl σ H xs) (hz : xs.length ≤ 40000) (hw : ∀ x, wipe ((wipe σ vs).set j (some x)) vs = wipe σ vs) (he : ∀ (i : Nat) (x : V) H1, Ex H H1 → xs[i]? = some x → EvOb te ((wipe σ vs).set j (some x)) H1 (o i)) :
    EvOs (tLc (iList K tl) (gName j) tYes te vs) σ H ((List.range xs.length).map o) := fun H0 e Q q => h H0 e _ fun a H1 ha e1 hx => ⟨a, rfl, ⟨xs, sq_of hx⟩, fun Dl hD =>
  lc_list (xs := xs) (Ow H1 o Dl) ⟨hD, Ex.new hD, [], upd_same, .nil⟩ (fun i H' _ p => sq_of (p.2.1 a _ hx)) (fun i x H' hi p => ⟨hw x, ow_turn p (by have := (List.getElem?_eq_some_iff.mp hi).1; omega) (he i x H1 (e.trans e1) hi)⟩)
    (fun H' p => by
      obtain ⟨p1, p2, ts, p3, p4⟩ := p
      exact q Dl ts H' (fresh_back e1 p1) (e1.trans p2) p3 (each_mono p4 fun u o' ⟨⟨q1, q3⟩, q2⟩ => ⟨⟨fresh_back e1 q1, q3⟩, q2⟩))⟩
theorem q_os {os : List HO} (h : EvOs te σ H os) (k : ∀ p ts H1, H p = none → Ex H H1 → H1 p = some (.lst (ts.map V.ref)) → NewOs H H1 p ts os → tz D (σ.set i (some (.ref p))) H1) : tSeq (tAsg te (gName i)) tz D σ H := h H (Ex.refl H) _ k
theorem q_call {sp : Sp} {dvs ws : List V} {E : XK} (h : EvA tA σ H ws) (k : ∀ H1, Ex H H1 → sp (ws ++ dvs) H1 (fun v H2 => tz D (σ.set i (some v)) H2) E) : tSeq (tAsg (tCall sp dvs E tA) (gName i)) tz D σ H := h H (Ex.refl H) _ k
theorem el_rep1 {v : V} {n : Nat} (h : Ev te σ H v) (hb : Ev tb σ H (.int (n : Int))) (hn : n ≤ 1000) : EvL (tOp rRep (tLst (tCons te tNil)) tb) σ H (List.replicate n v) := fun H1 e Q q =>
  el_lst (ea_cons (h.mono e) ea_nil) (by show 1 ≤ 100000; decide) H1 (Ex.refl H1) _ fun p H2 hp e2 h2 => hb H2 (e.trans e2) _ fun H3 e3 => ⟨p, n, [v], rfl, rfl, e3 _ _ h2, by omega, by omega, sz_of (by show 1 * (n : Int).toNat ≤ 100000; omega), fun u hu => q u _ (fresh_back (e2.trans e3) hu) ((e2.trans e3).trans (Ex.new hu)) (by rw [upd_same, Int.toNat_natCast]; congr 2; induction n with | zero => rfl | succ n ih => rw [List.replicate_succ, List.flatten_cons, List.replicate_succ]; simp)⟩
end
/-! ### small numbers -/
def Sm (ns : List Int) : Prop := ∀ i, i < ns.length → -10000 ≤ ns.getD i 0 ∧ ns.getD i 0 ≤ 10000
theorem on_sm {ns : List Int} (g : Good ns) (s : Sm ns) (x : Int) : x - 11000 ≤ onL ns x ∧ onL ns x ≤ x + 11000 := by
  obtain ⟨i, t, hi, rfl⟩ := split_at g x
  rw [on_at g hi]
  have := s i hi
  have := g.most
  omega
theorem it_sm {ns : List Int} (g : Good ns) (s : Sm ns) (j : Nat) (x : Int) : x - 11000 * (j : Int) ≤ it (onL ns) j x ∧ it (onL ns) j x ≤ x + 11000 * (j : Int) := by
  induction j with
  | zero => exact ⟨by show x - 11000 * 0 ≤ x; omega, by show x ≤ x + 11000 * 0; omega⟩
  | succ j ih =>
    have := on_sm g s (it (onL ns) j x)
    show _ ≤ onL ns (it (onL ns) j x) ∧ onL ns (it (onL ns) j x) ≤ _
    omega
theorem ring_sm {ns : List Int} (g : Good ns) (s : Sm ns) {row : List Int} (h : row ∈ ringsL ns) : row.length ≤ 600 ∧ ∀ z ∈ row, z.natAbs < 10 ^ 20 := by
  obtain ⟨p, m, R, rfl⟩ := mem_rings.mp h
  have hm := R.ret.le (on_rule g)
  have hgm := g.most
  refine ⟨by rw [lap_len]; omega, fun z hz => ?_⟩
  unfold lap at hz
  obtain ⟨j, hj, rfl⟩ := List.mem_map.mp hz
  have := List.mem_range.mp hj
  have := it_sm g s j p
  have := R.lo
  have := R.hi
  omega
theorem rings_len {ns : List Int} (g : Good ns) : (ringsL ns).length ≤ 600 := by
  have hgm := g.most
  unfold ringsL
  rw [← ringsTo_all (on_rule g)]
  have := ringsTo_len (n := ns.length) (f := onL ns) (i := (stay ns.length (onL ns)).length)
  omega
theorem fit_rows {rows : List (List Int)} (h : rows.length ≤ 600) (hr : ∀ row ∈ rows, row.length ≤ 600 ∧ ∀ z ∈ row, z.natAbs < 10 ^ 20) :
    PyData.showable (.list (rows.map dInts)) = true ∧ PyData.depth (.list (rows.map dInts)) ≤ 60 ∧ (PyData.shown (.list (rows.map dInts))).length ≤ sizeLine := by
  have hs : ∀ rows : List (List Int), (∀ row ∈ rows, row.length ≤ 600 ∧ ∀ z ∈ row, z.natAbs < 10 ^ 20) → smallAll (rows.map dInts) = true ∧ bndAll (rows.map dInts) ≤ 14404 * rows.length := by
    intro rows
    induction rows with
    | nil => intro _; exact ⟨rfl, Nat.zero_le _⟩
    | cons row rows ih =>
      intro hr
      obtain ⟨h1, h2⟩ := ih fun r hr' => hr r (List.mem_cons_of_mem _ hr')
      obtain ⟨q1, q2⟩ := hr row List.mem_cons_self
      have q3 := small_ints q2
      refine ⟨?_, ?_⟩
      · rw [List.map_cons]
        unfold dInts at h1 ⊢
        simp only [smallAll, smallD, q3, h1, Bool.and_self]
      · rw [List.map_cons, List.length_cons]
        simp only [bndAll]
        have : bnd (dInts row) = 24 * row.length + 2 := by unfold dInts; simp only [bnd]; rw [bnd_ints]
        omega
  obtain ⟨h1, h2⟩ := hs rows hr
  have h3 : smallD (.list (rows.map dInts)) = true := by simp only [smallD]; exact h1
  refine ⟨small_show h3, ?_, Nat.le_trans (small_len h3) ?_⟩
  · have := depth_rows rows
    omega
  · simp only [bnd]
    have : sizeLine = 16777216 := by decide
    omega
theorem fit_ints {row : List Int} (h : row.length ≤ 600) (hr : ∀ z ∈ row, z.natAbs < 10 ^ 20) :
    PyData.showable (.list (row.map PyData.int)) = true ∧ PyData.depth (.list (row.map PyData.int)) ≤ 60 ∧ (PyData.shown (.list (row.map PyData.int))).length ≤ sizeLine := by
  have h3 : smallD (.list (row.map PyData.int)) = true := by simp only [smallD]; exact small_ints hr
  refine ⟨small_show h3, ?_, Nat.le_trans (small_len h3) ?_⟩
  · have := depth_ints row
    unfold dInts at this
    omega
  · simp only [bnd]
    rw [bnd_ints]
    have : sizeLine = 16777216 := by decide
    omega
/-- the data of a pace -/
def pcD (a : Int) (m : Nat) : PyData := .tuple [.int (lowA a m), .int (lowB a m : Int)]
theorem dpAll_rowsR {K : PySem.W.Frag} {H : Hp} : ∀ {ys : List V} {rows : List (List Int)}, SI.RowsR K H ys rows → DpAll K H ys (rows.map dInts)
  | _, _, .nil => .nil
  | _, _, .cons ⟨t, h1, h2⟩ hs => by subst h1; exact .cons (dp_ints h2) (dpAll_rowsR hs)
theorem rowsR_get {K : PySem.W.Frag} {H : Hp} : ∀ {ys : List V} {rows : List (List Int)} {i : Nat} {row : List Int}, SI.RowsR K H ys rows → rows[i]? = some row → ∃ t, ys[i]? = some (.ref t) ∧ SqL K H t (row.map V.int)
  | _, _, _, _, .nil, h => by simp at h
  | _, _, 0, _, .cons ⟨t, h1, h2⟩ hs, h => by
    simp at h
    subst h h1
    exact ⟨t, rfl, h2⟩
  | _, _, i + 1, _, .cons _ hs, h => by
    obtain ⟨t, q1, q2⟩ := rowsR_get (i := i) hs (by simpa using h)
    exact ⟨t, by simpa using q1, q2⟩
/-- days gained in the i-th round -/
def gon (f : Int → Int) (row : List Int) : Int := it f row.length (row.getD 0 0) - row.getD 0 0
theorem low_size {a : Int} {m : Nat} (h : 1 ≤ m) (ha : a.natAbs < 10 ^ 19) (hm : m ≤ 600) : (lowA a m).natAbs < 10 ^ 20 ∧ 1 ≤ lowB a m ∧ lowB a m ≤ 600 := by
  obtain ⟨g, g1, _, ea, em, _⟩ := low_spec a h
  have hA : (lowA a m).natAbs ≤ a.natAbs := by
    have e := congrArg Int.natAbs ea
    rw [Int.natAbs_mul, Int.natAbs_natCast] at e
    rw [e]
    exact Nat.le_mul_of_pos_right _ g1
  have hB : lowB a m ≤ m := by
    have h2 : lowB a m * 1 ≤ lowB a m * g := Nat.mul_le_mul_left _ g1
    omega
  refine ⟨by omega, ?_, by omega⟩
  rcases Nat.eq_zero_or_pos (lowB a m) with z | z
  · rw [z, Nat.zero_mul] at em
    omega
  · exact z
end K15
end
section
set_option maxHeartbeats 4000000
namespace K15
open PySem L2 Evl G TM
theorem atI_hd {v : V} {r : List V} : atI (v :: r) 0 = some v := atI_nat (xs := v :: r) (j := 0) rfl
def sp_rr (K : PySem.W.Frag) (C : Addr) : Sp := fun vs H Q _ => ∃ (a l : Addr) (ns : List Int), vs = [.ref a, .ref l] ∧ Tab K C H a ns ∧ SqL K H l (ns.map V.int) ∧ Good ns ∧ Sm ns ∧ RetV (.bl true) H Q
noncomputable def rgD (ns : List Int) : PyData := .list ((ringsL ns).map dInts)
theorem dp_pcs {K : PySem.W.Frag} {H H' : Hp} {p : Addr} {A B : Int} : ∀ (n : Nat) {ts : List Addr}, NewOs H H' p ts (List.replicate n (.tup [.int A, .int B])) → DpAll K H' (ts.map V.ref) (List.replicate n (.tuple [.int A, .int B]))
  | 0, ts, h => by
    rw [List.replicate_zero] at h
    cases h
    exact .nil
  | n + 1, ts, h => by
    rw [List.replicate_succ] at h
    cases h with
    | cons h hs => exact .cons (.tup (st_of h.2) (.cons (.int _) (.cons (.int _) .nil))) (dp_pcs n hs)
theorem dp_reps {K : PySem.W.Frag} {H : Hp} {v : V} {d : PyData} (h : Dp K H v d) : ∀ n : Nat, DpAll K H (List.replicate n v) (List.replicate n d)
  | 0 => .nil
  | n + 1 => .cons h (dp_reps h n)
theorem plainAll_rep {d : PyData} (h : plainD d = true) : ∀ n, plainAll (List.replicate n d) = true
  | 0 => rfl
  | n + 1 => by rw [List.replicate_succ]; simp only [plainAll, h, plainAll_rep h n, Bool.and_self]
theorem depthAll_rep {d : PyData} {k : Nat} (h : d.depth ≤ k) (n : Nat) : PyData.depthAll (List.replicate n d) ≤ k := depth_all fun x hx => by rw [List.eq_of_mem_replicate hx]; exact h
section
variable {K : PySem.W.Frag} {σ : L2.St} {H : Hp} {a C : Addr} {ns : List Int} {tk : TA} {sp : Sp} {gV : List V → List V → List V} {E : XK} {zs xs : List V} {n : Nat} {d : PyData} {x p : Int} {m : Nat}
theorem spd_rounds (h : Tab K C H a ns) (g : Good ns) : SpD K (sp_rounds K C) ([.ref a] ++ []) H (rgD ns) := fun H1 e Q q E => ⟨a, ns, rfl, h.mono e, g, fun p ts H2 hp e2 h2 hts => q _ H2 e2 (.lst (sq_of h2) (dp_rows hts fun u row hu => sq_of hu.2))⟩
theorem evd_callN0 (h : EvA tk σ H zs) (hn : zs.length = n) (hs : SpD K sp (gV [] zs) H d) : EvD K (tCallN0 n sp gV E tk) σ H d := fun H1 e Q q => h H1 e _ fun H2 e2 => ⟨hn, hs H2 (e.trans e2) Q (fun v H3 e3 hv => q v H3 (e2.trans e3) hv) E⟩
theorem eu_callN0 (h : EvA tk σ H zs) (hn : zs.length = n) (hs : SpU sp (gV [] zs) H xs) : EvU (tCallN0 n sp gV E tk) σ H xs := fun H1 e Q q => h H1 e _ fun H2 e2 => ⟨hn, hs H2 (e.trans e2) Q (fun p H3 n3 e3 h3 => q p H3 (fresh_back e2 n3) (e2.trans e3) h3) E⟩
theorem el_callN0 (h : EvA tk σ H zs) (hn : zs.length = n) (hs : SpL sp (gV [] zs) H xs) : EvL (tCallN0 n sp gV E tk) σ H xs := fun H1 e Q q => h H1 e _ fun H2 e2 => ⟨hn, hs H2 (e.trans e2) Q (fun p H3 n3 e3 h3 => q p H3 (fresh_back e2 n3) (e2.trans e3) h3) E⟩
end
section
variable {P : Program} {w : World} {K : PySem.W.Frag} {mg : Str → Option Value} {base : Heap} {C : Addr}
theorem ok_rr {f f1 f2 f3 f4 f5 f6 : Addr} {fd fd1 fd2 fd3 fd4 fd5 fd6 : FuncData} (F : Fun K "_law_rounds_right" "_law_rounds_right" s__law_rounds_right f fd) (T : Txt K mg C) (c__law_rounds : Cal P w K mg base "_law_rounds" f1 fd1 ["_law_days_here"] 3 (sp_lrounds K)) (c_rounds : Cal P w K mg base "rounds" f2 fd2 ["table"] 8 (sp_rounds K C)) (kb_rounds_table : KBn K fd2 ["table"] 0 ["table"] (fun us ws => us ++ ws) (fun vs zs => vs ++ zs)) (c__law_round : Cal P w K mg base "_law_round" f3 fd3 ["_law_days_here", "_law_day"] 2 (sp_lround K)) (c__law_low : Cal P w K mg base "_law_low" f4 fd4 ["_law_above", "_law_below"] 1 sp_low) (c_pace : Cal P w K mg base "pace" f5 fd5 ["table"] 10 (sp_pace K C)) (kb_pace_table : KBn K fd5 ["table"] 0 ["table"] (fun us ws => us ++ ws) (fun vs zs => vs ++ zs)) (m_on : Met P w K mg base C "on" f6 fd6 ["self", "day"] 3 (sp_on K C)) :
    FnG P w K mg base CX0 11 f fd ["_law_table", "_law_days_here"] (sp_rr K C) := by
  refine okG F sc__law_rounds_right (fun vs H Q E h => ?_) (fun cdv A outer s H vs Q E hg hr h => ?_)
  · obtain ⟨a, l, ns, rfl, _⟩ := h
    rfl
  · obtain ⟨a, l, ns, rfl, t, hl, g, sm, k⟩ := h
    have hu := hr.units
    have r := on_rule g
    have hgm := g.most
    have hgp := g.pos
    have hrl := rings_len g
    obtain ⟨dx, la, h1, h2⟩ := id t
    obtain ⟨w1, w2, w3⟩ := fit_rows hrl fun row hrow => ring_sm g sm hrow
    obtain ⟨d, m, hpc⟩ := pc_ex g
    obtain ⟨hA, hB1, hB2⟩ : (lowA d m).natAbs < 10 ^ 20 ∧ 1 ≤ lowB d m ∧ lowB d m ≤ 600 := by
      obtain ⟨p0, m0, lo0⟩ := lowP_ex g 0
      have Rp := lo0.1
      have hc : it (onL ns) m0 p0 = p0 + (it (onL ns) m0 p0 - p0) := by omega
      obtain ⟨e1, e2⟩ := pc_low g hpc (rep_pc Rp hc)
      have hm0 := Rp.ret.le r
      have := it_sm g sm m0 p0
      rw [e1, e2]
      exact low_size Rp.ret.pos (by omega) (by omega)
    have hrow : ∀ {i : Nat} {row : List Int}, (ringsL ns)[i]? = some row → ∃ p m', Rep ns.length (onL ns) p m' ∧ row = lap (onL ns) m' p ∧ row.length = m' ∧ row.getD 0 0 = p ∧ it (onL ns) m' p = p + gon (onL ns) row := fun {i row} hi => by
      obtain ⟨p, m', R, rfl⟩ := mem_rings.mp (List.mem_of_getElem? hi)
      have e0 : (lap (onL ns) m' p).getD 0 0 = p := lap_get R.ret.pos
      refine ⟨p, m', R, rfl, lap_len, e0, ?_⟩
      unfold gon
      rw [e0, lap_len]
      omega
    have hne : ∃ row0 rest, ringsL ns = row0 :: rest := by
      have := rnd_mem r (0 : Int)
      cases h : rings ns.length (onL ns) with
      | nil => rw [h] at this; cases this
      | cons row0 rest => exact ⟨row0, rest, h⟩
    obtain ⟨row0, rest, hrings⟩ := hne
    refine ⟨_, (pss_cons (ps_set (i := 2) sc__law_rounds_right.nd rfl (Or.inr rfl) (pe_call c__law_rounds.ok (hr.mono (by decide)) (by rfl) c__law_rounds.mgx c__law_rounds.kp c__law_rounds.bd .nil pass0 (pa_cons (pv 1) pa_nil))) (pss_cons (ps_set (i := 3) sc__law_rounds_right.nd rfl (Or.inl rfl) (pe_call c_rounds.ok (hr.mono (by decide)) (by rfl) c_rounds.mgx c_rounds.kp c_rounds.bd .nil pass0 (pa_cons (pv 0) pa_nil))) (pss_cons (ps_if (PW.pt (pw_or (pt_cmpR op_ne (pe_callB (call_reprD hg hu) (by rfl) T.b_repr (by decide +kernel) (pa_cons (pv 3) pa_nil)) (pe_callB (call_reprD hg hu) (by rfl) T.b_repr (by decide +kernel) (pa_cons (pv 2) pa_nil)) (nomark _)) (pw_or1 (pt_cmpR op_ne (pe_callB (call_reprD hg hu) (by rfl) T.b_repr (by decide +kernel) (pa_cons (pe_callN0 c_rounds.ok (hr.mono (by decide)) (by rfl) c_rounds.mgx c_rounds.kp kb_rounds_table pass0 (pk_cons (pv 0) pk_nil)) pa_nil)) (pe_callB (call_reprD hg hu) (by rfl) T.b_repr (by decide +kernel) (pa_cons (pv 2) pa_nil)) (nomark _))))) (pss_one (ps_ret pe_bl)) pss_nil) (pss_cons (ps_expr (pe_bm PySem.F.plainAttrs_list PySem.F.slot_list_append PySem.F.type_list_append mt_append (pe_ix (ixL (K := K) rfl) (pv 3) pe_int (fun _ _ => rfl)) (pa_cons pe_int pa_nil))) (pss_cons (ps_expr (pe_bm PySem.F.plainAttrs_list PySem.F.slot_list_append PySem.F.type_list_append mt_append (pv 3) (pa_cons (pe_lst (pa_cons pe_int pa_nil)) pa_nil))) (pss_cons (ps_if (pt_cmpR op_ne (pe_callB (call_reprD hg hu) (by rfl) T.b_repr (by decide +kernel) (pa_cons (pe_call c_rounds.ok (hr.mono (by decide)) (by rfl) c_rounds.mgx c_rounds.kp c_rounds.bd .nil pass0 (pa_cons (pv 0) pa_nil)) pa_nil)) (pe_callB (call_reprD hg hu) (by rfl) T.b_repr (by decide +kernel) (pa_cons (pv 2) pa_nil)) (nomark _)) (pss_one (ps_ret pe_bl)) pss_nil) (pss_cons (ps_set (i := 4) sc__law_rounds_right.nd rfl (Or.inr rfl) (pe_lc (own := [("_law_ring", 6)]) (g := (gName 6)) (by rfl) sc__law_rounds_right.nd (piL (K := K) rfl (pv 2)) (blkOk_by (own := [("_law_ring", 6)]) (N := ["_law_table", "_law_days_here", "_law_due", "_law_told", "_law_gone", "_law_paces", "_law_ring", "_law_at"]) (sc := defScope s__law_rounds_right) (by decide +kernel)) (fun _ _ _ _ _ => (pg_name (i := 6) sc__law_rounds_right.nd rfl (Or.inl rfl))) (fun _ _ _ _ _ => pts_nil) (fun _ _ _ _ _ => (pe_ix (ixT (K := K) rfl) (pe_call c__law_round.ok (hr.mono (by decide)) (by rfl) c__law_round.mgx c__law_round.kp c__law_round.bd .nil pass0 (pa_cons (pv 1) (pa_cons (pe_ix (ixL (K := K) rfl) (pv 6) pe_int (fun _ _ => rfl)) pa_nil))) pe_int (fun _ _ => rfl))))) (pss_cons (ps_setLc (i := 5) (own := [("_law_at", 7)]) (g := (gName 7)) (by rfl) sc__law_rounds_right.nd rfl rfl (sw_true rfl rfl rfl (by decide +kernel)) (pi_range1 (by rfl) T.b_range (pa_cons (pe_callB (lenS (K := K) rfl) (by rfl) T.b_len (by decide +kernel) (pa_cons (pv 2) pa_nil)) pa_nil)) (blkOk_by (own := [("_law_at", 7)]) (N := ["_law_table", "_law_days_here", "_law_due", "_law_told", "_law_gone", "_law_paces", "_law_ring", "_law_at"]) (sc := defScope s__law_rounds_right) (by decide +kernel)) (fun _ _ _ _ _ => (pg_name (i := 7) sc__law_rounds_right.nd rfl (Or.inl rfl))) (fun _ _ _ _ _ => pts_nil) (fun _ _ _ _ _ => (pe_call c__law_low.ok (hr.mono (by decide)) (by rfl) c__law_low.mgx c__law_low.kp c__law_low.bd .nil pass0 (pa_cons (pe_ix (ixL (K := K) rfl) (pv 4) (pv 7) (fun _ _ => rfl)) (pa_cons (pe_callB (lenS (K := K) rfl) (by rfl) T.b_len (by decide +kernel) (pa_cons (pe_ix (ixL (K := K) rfl) (pv 2) (pv 7) (fun _ _ => rfl)) pa_nil)) pa_nil))))) (pss_cons (ps_if (pt_cmpR op_ne (pe_callB (call_reprD hg hu) (by rfl) T.b_repr (by decide +kernel) (pa_cons (pe_lst (pa_cons (pe_call c_pace.ok (hr.mono (by decide)) (by rfl) c_pace.mgx c_pace.kp c_pace.bd .nil pass0 (pa_cons (pv 0) pa_nil)) (pa_cons (pe_callN0 c_pace.ok (hr.mono (by decide)) (by rfl) c_pace.mgx c_pace.kp kb_pace_table pass0 (pk_cons (pv 0) pk_nil)) pa_nil))) pa_nil)) (pe_callB (call_reprD hg hu) (by rfl) T.b_repr (by decide +kernel) (pa_cons (pe_op op_rep (pe_lst (pa_cons (pe_ix (ixL (K := K) rfl) (pv 5) pe_int (fun _ _ => rfl)) pa_nil)) pe_int) pa_nil)) (nomark _)) (pss_one (ps_ret pe_bl)) pss_nil) (pss_cons (ps_if (pt_cmpR (neD (K := K) rfl hr.units) (pv 5) (pe_op op_rep (pe_lst (pa_cons (pe_ix (ixL (K := K) rfl) (pv 5) pe_int (fun _ _ => rfl)) pa_nil)) (pe_callB (lenS (K := K) rfl) (by rfl) T.b_len (by decide +kernel) (pa_cons (pv 5) pa_nil))) (nomark _)) (pss_one (ps_ret pe_bl)) pss_nil) (pss_one (ps_ret (pe_callB (allL (K := K) rfl rfl) (by rfl) T.b_all (by decide +kernel) (pa_cons (pe_lc (own := [("_law_at", 7)]) (g := (gName 7)) (by rfl) sc__law_rounds_right.nd (pi_range1 (by rfl) T.b_range (pa_cons (pe_callB (lenS (K := K) rfl) (by rfl) T.b_len (by decide +kernel) (pa_cons (pv 2) pa_nil)) pa_nil)) (blkOk_by (own := [("_law_at", 7)]) (N := ["_law_table", "_law_days_here", "_law_due", "_law_told", "_law_gone", "_law_paces", "_law_ring", "_law_at"]) (sc := defScope s__law_rounds_right) (by decide +kernel)) (fun _ _ _ _ _ => (pg_name (i := 7) sc__law_rounds_right.nd rfl (Or.inl rfl))) (fun _ _ _ _ _ => pts_nil) (fun _ _ _ _ _ => (pe_cmpR op_eq (pe_meth (pv 0) T.cl m_on.me m_on.ok (hr.mono (by decide)) m_on.bd .nil pass0 (pa_cons (pe_ix (ixL (K := K) rfl) (pe_ix (ixL (K := K) rfl) (pv 2) (pv 7) (fun _ _ => rfl)) (pe_un un_neg pe_int) (fun _ _ => rfl)) pa_nil)) (pe_op op_add (pe_ix (ixL (K := K) rfl) (pe_ix (ixL (K := K) rfl) (pv 2) (pv 7) (fun _ _ => rfl)) pe_int (fun _ _ => rfl)) (pe_ix (ixL (K := K) rfl) (pv 4) (pv 7) (fun _ _ => rfl))) (nomark _)))) pa_nil)))))))))))))), ?_⟩
    refine q_call (ea_cons (ev_var rfl) ea_nil) fun H1 e1 => ⟨l, ns, rfl, ex_l e1 hl, g, fun pd ys H2 hpd e2 hpd2 hys => ?_⟩
    have f2 := e1.trans e2
    refine q_call (ea_cons (ev_var rfl) ea_nil) fun H3 e3 => ⟨a, ns, rfl, t.mono (f2.trans e3), g, fun pt ts H4 hpt e4 hpt4 hts => ?_⟩
    have f3 := f2.trans e3
    have f4 := f3.trans e4
    have dDue : Dp K H3 (.ref pd) (rgD ns) := .lst (sq_of (e3 pd _ hpd2)) (dpAll_rowsR (rowsR_mono e3 hys))
    have dTold : Dp K H4 (.ref pt) (rgD ns) := .lst (sq_of hpt4) (dp_rows hts fun u row hu => sq_of hu.2)
    refine q_when (b := false) (et_or (a := false) (b := false) (et_is (et_test (ev_op (ev_repr (evd_ref (ev_var rfl) dTold) w1 w2 w3) (ev_repr (evd_ref (ev_var rfl) (dp_mono e4 dDue)) w1 w2 w3) (rv_ne rfl))) (congrArg not (decide_eq_true (show _ = _ from rfl)))) fun _ => et_is (et_test (ev_op (ev_repr (evd_callN0 (ea_cons (ev_var rfl) ea_nil) rfl (spd_rounds (t.mono f4) g)) w1 w2 w3) (ev_repr (evd_ref (ev_var rfl) (dp_mono e4 dDue)) w1 w2 w3) (rv_ne rfl))) (congrArg not (decide_eq_true (show _ = _ from rfl)))) (fun q => nomatch q) fun _ H5 e5 => ?_
    rw [hrings] at hts
    obtain ⟨t0, ts', rfl, ht0, hts'⟩ : ∃ t0 ts', ts = t0 :: ts' ∧ ((H3 t0 = none ∧ t0 ≠ pt) ∧ H4 t0 = some (.lst (row0.map V.int))) ∧ NewRows H3 H4 pt ts' rest := by
      cases hts with
      | cons q1 q2 => exact ⟨_, _, rfl, q1, q2⟩
    have hr0 : row0.length ≤ 600 := (ring_sm g sm (row := row0) (by rw [hrings]; exact List.mem_cons_self)).1
    have htl : ts'.length ≤ 600 := by
      have := PySem.W.EachIs.length hts'
      rw [hrings, List.length_cons] at hrl
      omega
    refine q_app (l := t0) (e5 t0 _ ht0.2) (ev_op (ev_var rfl) ev_c (rv_ixL (v := .ref t0) (i := 0) (sq_of (e5 pt _ hpt4)) atI_hd)) ev_c (by rw [List.length_map]; omega) fun H6 e6 => ?_
    refine q_appL (l := pt) (by rw [upd_ne ht0.1.2.symm]; exact (e5.trans e6) pt _ hpt4) (ev_var rfl) (el_lst (ea_cons ev_c ea_nil) (by show 1 ≤ 100000; decide)) (by rw [List.length_map, List.length_cons]; omega) fun p5 H7 hp5 e7 hp57 => ?_
    have f8 : Ex H3 (upd H7 pt (.lst ((t0 :: ts').map V.ref ++ [V.ref p5]))) := fun b o hb => by
      rw [upd_ne (ne_of_none hb hpt)]
      refine e7 b o ?_
      rw [upd_ne (ne_of_none hb ht0.1.1)]
      exact ((e4.trans e5).trans e6) b o hb
    generalize upd H7 pt (.lst ((t0 :: ts').map V.ref ++ [V.ref p5])) = H8 at f8
    have g8 := f3.trans f8
    refine q_when (b := false) (et_is (et_test (ev_op (ev_repr (evd_call (ea_cons (ev_var rfl) ea_nil) (spd_rounds (t.mono g8) g)) w1 w2 w3) (ev_repr (evd_ref (ev_var rfl) (dp_mono f8 dDue)) w1 w2 w3) (rv_ne rfl))) (congrArg not (decide_eq_true (show _ = _ from rfl)))) (fun q => nomatch q) fun _ H9 e9 => ?_
    have k9 := f8.trans e9
    have g9 := g8.trans e9
    have hys9 : SI.RowsR K H9 ys (ringsL ns) := rowsR_mono (e3.trans k9) hys
    have hpd9 := (e3.trans k9) pd _ hpd2
    have hyl := PySem.W.EachIs.length hys9
    refine q_asgL (xs := ((ringsL ns).map (gon (onL ns))).map V.int) (el_is (el_lcL (fun _ => true) (fun i => V.int (gon (onL ns) ((ringsL ns).getD i []))) (ev_var rfl) (sq_of hpd9) (by omega) (fun _ => rfl) (fun _ _ _ _ _ => lc_yes) (fun i x H10 e10 hx _ => ?_)) ?_) fun pg H10 hpg e10 hpg10 => ?_
    · have hi : i < (ringsL ns).length := by have := (List.getElem?_eq_some_iff.mp hx).1; omega
      have hri := List.getElem?_eq_getElem hi
      obtain ⟨u, hu1, hu2⟩ := rowsR_get hys9 hri
      rw [hx] at hu1
      obtain rfl := Option.some.inj hu1
      obtain ⟨p, m', R, erow, elen, ep, egon⟩ := hrow hri
      have ed : (ringsL ns).getD i [] = (ringsL ns)[i] := by rw [List.getD_eq_getElem?_getD, hri]; rfl
      have h0 : atI ((ringsL ns)[i].map V.int) 0 = some (.int p) := by
        rw [atI_int (by decide) (by rw [elen]; have := R.ret.pos; omega)]
        show some (V.int ((ringsL ns)[i].getD 0 0)) = _
        rw [ep]
      show Ev _ _ H10 (V.int (gon (onL ns) ((ringsL ns).getD i [])))
      rw [ed]
      exact ev_round1 (ea_cons (ev_var rfl) (ea_cons (ev_op (ev_var rfl) ev_c (rv_ixL (ex_l e10 hu2) h0)) ea_nil)) (ex_l (g9.trans e10) hl) g (R.low r) egon
    · rw [hyl, given_all, List.map_map]
      refine List.ext_getElem (by simp) fun i q1 q2 => ?_
      have hi : i < (ringsL ns).length := by simpa using q1
      simp [List.getD_eq_getElem?_getD, List.getElem?_eq_getElem hi]
    · have g10 := g9.trans e10
      have hgl : ∀ {i : Nat} {row : List Int}, (ringsL ns)[i]? = some row → atI (((ringsL ns).map (gon (onL ns))).map V.int) (i : Int) = some (.int (gon (onL ns) row)) := fun {i row} hi => atI_nat (by rw [List.getElem?_map, List.getElem?_map, hi]; rfl)
      have hyi : ∀ {i : Nat} {row : List Int}, (ringsL ns)[i]? = some row → ∃ u, atI ys (i : Int) = some (.ref u) ∧ SqL K H9 u (row.map V.int) := fun {i row} hi => by
        obtain ⟨u, hu1, hu2⟩ := rowsR_get hys9 hi
        exact ⟨u, atI_nat hu1, hu2⟩
      refine q_os (os := (List.range ((ringsL ns).length : Int).toNat).map fun _ => HO.tup [.int (lowA d m), .int (lowB d m : Int)]) (eos_lcR (fun _ => HO.tup [.int (lowA d m), .int (lowB d m : Int)]) (ea_cons (ev_cb (ea_cons (ev_var rfl) ea_nil) (rc_len (.inl (sq_of (e10 pd _ hpd9))) (by rw [hyl]))) ea_nil) (by omega) (fun _ => rfl) (fun i H11 e11 hi => ?_)) fun pp us H11 hpp e11 hpp11 hus => ?_
      · have hi' : i < (ringsL ns).length := by omega
        have hri := List.getElem?_eq_getElem hi'
        obtain ⟨p, m', R, erow, elen, ep, egon⟩ := hrow hri
        obtain ⟨u, hu1, hu2⟩ := hyi hri
        obtain ⟨q1, q2⟩ := pc_low g hpc (rep_pc R egon)
        have hm' := R.ret.le r
        rw [q1, q2]
        exact eu_call (ea_cons (ev_op (ev_var rfl) (ev_var rfl) (rv_ixL (sq_of (e11 pg _ hpg10)) (hgl hri))) (ea_cons (ev_cb (ea_cons (ev_op (ev_var rfl) (ev_var rfl) (rv_ixL (sq_of ((e10.trans e11) pd _ hpd9)) hu1)) ea_nil) (rc_len (.inl (ex_l (e10.trans e11) hu2)) (by rw [List.length_map, elen]))) ea_nil)) (spu_low R.ret.pos (by omega))
      · have eos : ((List.range ((ringsL ns).length : Int).toNat).map fun _ => HO.tup [.int (lowA d m), .int (lowB d m : Int)]) = List.replicate (ringsL ns).length (HO.tup [.int (lowA d m), .int (lowB d m : Int)]) := by
          rw [Int.toNat_natCast]
          exact List.ext_getElem (by simp) fun i q1 q2 => by simp
        rw [eos] at hus
        have hul := PySem.W.EachIs.length hus
        rw [List.length_replicate] at hul
        have g11 := g10.trans e11
        have dPs : Dp K H11 (.ref pp) (.list (List.replicate (ringsL ns).length (pcD d m))) := .lst (sq_of hpp11) (dp_pcs _ hus)
        obtain ⟨u0, us', rfl⟩ : ∃ u0 us', us = u0 :: us' := by
          cases us with
          | nil => rw [hrings] at hul; simp at hul
          | cons u0 us' => exact ⟨u0, us', rfl⟩
        have hu0 : Dp K H11 (.ref u0) (pcD d m) := by
          rw [hrings, List.length_cons, List.replicate_succ] at hus
          cases hus with
          | cons q1 q2 => exact .tup (st_of q1.2) (.cons (.int _) (.cons (.int _) .nil))
        have hfit : PyData.showable (.list [pcD d m, pcD d m]) = true ∧ PyData.depth (.list [pcD d m, pcD d m]) ≤ 60 ∧ (PyData.shown (.list [pcD d m, pcD d m])).length ≤ sizeLine := by
          have hs1 : smallD (pcD d m) = true := by
            unfold pcD
            simp only [smallD, smallAll, Bool.and_true, Bool.and_eq_true, decide_eq_true_eq]
            omega
          have hs : smallD (.list [pcD d m, pcD d m]) = true := by simp only [smallD, smallAll, hs1, Bool.and_self]
          refine ⟨small_show hs, ?_, Nat.le_trans (small_len hs) ?_⟩
          · unfold pcD
            simp only [PyData.depth, PyData.depthAll]
            omega
          · unfold pcD
            simp only [bnd, bndAll]
            have : sizeLine = 16777216 := by decide
            omega
        obtain ⟨v1, v2, v3⟩ := hfit
        have hpv : ∀ H12, DpAll K H12 [.int (lowA d m), .int (lowB d m : Int)] [.int (lowA d m), .int (lowB d m : Int)] := fun H12 => .cons (.int _) (.cons (.int _) .nil)
        refine q_when (b := false) (et_is (et_test (ev_op (ev_repr (evd_lst (evad_cons (evd_u (eu_call (ea_cons (ev_var rfl) ea_nil) (spu_pace (t.mono g11) g hpc)) fun H12 _ => hpv H12) (evad_cons (evd_u (eu_callN0 (ea_cons (ev_var rfl) ea_nil) rfl (spu_pace (t.mono g11) g hpc)) fun H12 _ => hpv H12) evad_nil)) (by show 2 ≤ 100000; decide)) v1 v2 v3) (ev_repr (evd_l (el_rep1 (n := 2) (ev_op (ev_var rfl) ev_c (rv_ixL (v := .ref u0) (i := 0) (sq_of hpp11) atI_hd)) ev_c (by decide)) fun H12 e12 => dp_reps (dp_mono e12 hu0) 2) v1 v2 v3) (rv_ne rfl))) (congrArg not (decide_eq_true (show _ = _ from rfl)))) (fun q => nomatch q) fun _ H12 e12 => ?_
        have hpl : plainD (.list (List.replicate (ringsL ns).length (pcD d m))) = true := by simp only [plainD]; exact plainAll_rep rfl _
        have hdl : (PyData.list (List.replicate (ringsL ns).length (pcD d m))).depth ≤ 64 := by
          simp only [PyData.depth]
          have := depthAll_rep (d := pcD d m) (k := 1) (by unfold pcD; simp only [PyData.depth, PyData.depthAll]; omega) (ringsL ns).length
          omega
        refine q_when (b := false) (et_test (ev_neD (evd_ref (ev_var rfl) (dp_mono e12 dPs)) (evd_l (el_rep1 (n := (ringsL ns).length) (ev_op (ev_var rfl) ev_c (rv_ixL (v := .ref u0) (i := 0) (sq_of (e12 pp _ hpp11)) atI_hd)) (ev_cb (ea_cons (ev_var rfl) ea_nil) (rc_len (.inl (sq_of (e12 pp _ hpp11))) (by rw [List.length_map, hul]))) (by omega)) fun H13 e13 => dp_reps (dp_mono (e12.trans e13) hu0) _) (shaped_small hpl hdl) (plain_can hpl))) (fun q => nomatch q) fun _ H13 e13 => ?_
        have k13 := (e10.trans e11).trans (e12.trans e13)
        have g13 := g9.trans k13
        refine s_ret (ev_is (ev_cbL (el_lcR1 (n := ((ringsL ns).length : Int)) (fun _ => true) (fun _ => V.bl true) (ea_cons (ev_cb (ea_cons (ev_var rfl) ea_nil) (rc_len (.inl (sq_of (k13 pd _ hpd9))) (by rw [hyl]))) ea_nil) (by omega) (fun _ => rfl) (fun _ _ _ _ => lc_yes) (fun i H14 e14 hi _ => ?_)) (fun pz H14 e14 hpz => rc_all (bs := List.replicate (ringsL ns).length true) (sq_of (by rw [hpz, given_all, Int.toNat_natCast, List.map_replicate]; congr 2; exact List.ext_getElem (by simp) fun i q1 q2 => by simp)))) (by simp)) fun H14 e14 => k H14 (g13.trans e14)
        have hi' : i < (ringsL ns).length := by omega
        have hri := List.getElem?_eq_getElem hi'
        obtain ⟨p, m', R, erow, elen, ep, egon⟩ := hrow hri
        obtain ⟨u, hu1, hu2⟩ := hyi hri
        have hm1 := R.ret.pos
        have k14 := k13.trans e14
        have h0 : atI ((ringsL ns)[i].map V.int) 0 = some (.int p) := by
          rw [atI_int (by decide) (by rw [elen]; omega)]
          show some (V.int ((ringsL ns)[i].getD 0 0)) = _
          rw [ep]
        have hlast : atI ((ringsL ns)[i].map V.int) (-1) = some (.int (it (onL ns) (m' - 1) p)) := by
          rw [atI_m1 (by rw [elen]; omega), elen, erow, lap_last hm1]
        have hnext : onL ns (it (onL ns) (m' - 1) p) = it (onL ns) m' p := by
          obtain ⟨i', rfl⟩ : ∃ i', m' = i' + 1 := ⟨m' - 1, by omega⟩
          rfl
        refine ev_is (ev_op (ev_meth (ev_var rfl) ((g13.trans e14) a _ h1) rfl (ea_cons (ev_op (ev_op (ev_var rfl) (ev_var rfl) (rv_ixL (sq_of (k14 pd _ hpd9)) hu1)) (ev_un ev_c ru_neg) (rv_ixL (ex_l k14 hu2) hlast)) ea_nil) (spv_on (t.mono (g13.trans e14)) g)) (ev_op (ev_op (ev_op (ev_var rfl) (ev_var rfl) (rv_ixL (sq_of (k14 pd _ hpd9)) hu1)) ev_c (rv_ixL (ex_l k14 hu2) h0)) (ev_op (ev_var rfl) (ev_var rfl) (rv_ixL (sq_of (((e11.trans e12).trans (e13.trans e14)) pg _ hpg10)) (hgl hri))) rv_I0) (rv_eq rfl)) (congrArg V.bl (decide_eq_true ?_))
        rw [hnext, egon]
end
end K15
end
section
set_option maxHeartbeats 4000000
namespace K15
open PySem L2 Evl G TM
theorem near_low {ns : List Int} (g : Good ns) {d : Int} {m : Nat} (h : Pc ns d m) (k : Nat) (x : Int) :
    (it (onL ns) k x - x) * (lowB d m : Int) - (k : Int) * lowA d m < (ns.length : Int) * (lowB d m : Int) ∧ (k : Int) * lowA d m - (it (onL ns) k x - x) * (lowB d m : Int) < (ns.length : Int) * (lowB d m : Int) := by
  obtain ⟨m1, ha, y, hy⟩ := h
  obtain ⟨gg, g1, _, ea, em, _⟩ := low_spec d m1
  obtain ⟨h1, h2⟩ := rate_near (on_rule g) m1 ha hy k x
  generalize it (onL ns) k x - x = z at *
  generalize lowA d m = A at *
  generalize lowB d m = B at *
  subst ea em
  have hg : (0 : Int) < (gg : Int) := by omega
  rw [Int.natCast_mul] at h1 h2
  constructor
  · refine Int.lt_of_mul_lt_mul_right (a := (gg : Int)) ?_ (Int.le_of_lt hg)
    calc (z * (B : Int) - (k : Int) * A) * (gg : Int) = z * ((B : Int) * (gg : Int)) - (k : Int) * (A * (gg : Int)) := by rw [Int.sub_mul]; ac_rfl
      _ < (ns.length : Int) * ((B : Int) * (gg : Int)) := h1
      _ = (ns.length : Int) * (B : Int) * (gg : Int) := by ac_rfl
  · refine Int.lt_of_mul_lt_mul_right (a := (gg : Int)) ?_ (Int.le_of_lt hg)
    calc ((k : Int) * A - z * (B : Int)) * (gg : Int) = (k : Int) * (A * (gg : Int)) - z * ((B : Int) * (gg : Int)) := by rw [Int.sub_mul]; ac_rfl
      _ < (ns.length : Int) * ((B : Int) * (gg : Int)) := h2
      _ = (ns.length : Int) * (B : Int) * (gg : Int) := by ac_rfl
theorem pc_size {ns : List Int} (g : Good ns) (sm : Sm ns) {d : Int} {m : Nat} (hpc : Pc ns d m) : (lowA d m).natAbs < 10 ^ 20 ∧ 1 ≤ lowB d m ∧ lowB d m ≤ 600 := by
  have r := on_rule g
  have hgm := g.most
  obtain ⟨p0, m0, lo0⟩ := lowP_ex g 0
  have Rp := lo0.1
  have hc : it (onL ns) m0 p0 = p0 + (it (onL ns) m0 p0 - p0) := by omega
  obtain ⟨e1, e2⟩ := pc_low g hpc (rep_pc Rp hc)
  have hm0 := Rp.ret.le r
  have := it_sm g sm m0 p0
  rw [e1, e2]
  exact low_size Rp.ret.pos (by omega) (by omega)
def sp_dr (K : PySem.W.Frag) (C : Addr) : Sp := fun vs H Q _ => ∃ (p a l : Addr) (ns : List Int) (x : Int), vs = [.ref p, .ref a, .ref l, .int x] ∧ PotAt H p ∧ Tab K C (wo H p) a ns ∧ SqL K (wo H p) l (ns.map V.int) ∧ Good ns ∧ Sm ns ∧ ∀ H2, Ex (wo H p) H2 → PotAt H2 p → Q (.bl true) H2
section
variable {K : PySem.W.Frag} {σ : L2.St} {H : Hp} {l : Addr} {ns : List Int} {ta tb tl : TE} {tu tz : TS} {D : Ends} {g : TG} {x : V} {row : List Int} {rows : List (List Int)}
theorem spd_lrounds (h : SqL K H l (ns.map V.int)) (g : Good ns) : SpD K (sp_lrounds K) ([.ref l] ++ []) H (rgD ns) := fun H1 e Q q E => ⟨l, ns, rfl, ex_l e h, g, fun p ys H2 hp e2 h2 hys => q _ H2 e2 (.lst (sq_of h2) (dpAll_rowsR hys))⟩
theorem ev_rowNotD (h : Ev ta σ H x) (hx : Dp K H x (dInts row)) (h2 : EvD K tb σ H (.list (rows.map dInts))) : Ev (tOp (rNotInD K) ta tb) σ H (.bl (!decide (row ∈ rows))) := fun H1 e Q q =>
  h H1 e _ fun H2 e2 => h2 H2 (e.trans e2) _ fun v H3 e3 hv => ⟨_, _, dp_mono ((e.trans e2).trans e3) hx, hv, shaped_small (plain_ints row) (by have := depth_ints row; omega), shaped_small (plain_rows rows) (by have := depth_rows rows; omega), by
    rw [rows_in]
    exact q H3 (e2.trans e3)⟩
theorem for_k (h : tl σ H fun x H1 => tSeq (tFor (iList K (tC x)) g tu) tz D σ H1) : tSeq (tFor (iList K tl) g tu) tz D σ H := h
end
section
variable {P : Program} {w : World} {K : PySem.W.Frag} {mg : Str → Option Value} {base : Heap} {C : Addr}
theorem ok_dr {f f1 f2 f3 f4 f5 f6 f7 : Addr} {fd fd1 fd2 fd3 fd4 fd5 fd6 fd7 : FuncData} (F : Fun K "_law_day_right" "_law_day_right" s__law_day_right f fd) (T : Txt K mg C) (c__law_rounds : Cal P w K mg base "_law_rounds" f1 fd1 ["_law_days_here"] 3 (sp_lrounds K)) (c_round_of : Cal P w K mg base "round_of" f2 fd2 ["table", "day"] 9 (sp_rof K C)) (kb_round_of_day_table : KBn K fd2 ["table", "day"] 0 ["day", "table"] (fun us ws => us ++ ws.reverse) (fun vs zs => vs ++ zs.reverse)) (c__law_round : Cal P w K mg base "_law_round" f3 fd3 ["_law_days_here", "_law_day"] 2 (sp_lround K)) (c_pace : Cal P w K mg base "pace" f5 fd5 ["table"] 10 (sp_pace K C)) (c_run_end : Cal P w K mg base "run_end" f4 fd4 ["table", "day", "count"] 8 (sp_run K C)) (c__law_draw : Cal P w K mg base "_law_draw" f6 fd6 ["_law_pot_here", "_law_size"] 1 sp_draw) (c__law_pick : Cal P w K mg base "_law_pick" f7 fd7 ["_law_pot_here", "_law_some"] 2 (sp_pick K)) :
    FnG P w K mg base CX0 11 f fd ["_law_pot_here", "_law_table", "_law_days_here", "_law_day"] (sp_dr K C) := by
  refine okG F sc__law_day_right (fun vs H Q E h => ?_) (fun cdv A outer s H vs Q E hg hr h => ?_)
  · obtain ⟨p, a, l, ns, x, rfl, _⟩ := h
    rfl
  · obtain ⟨pp, a, l, ns, x, rfl, hpot, tw, hlw, g, sm, k⟩ := h
    have hu := hr.units
    have r := on_rule g
    have hgm := g.most
    have hgp := g.pos
    have t := tw.mono wo_ex
    have hl := ex_l wo_ex hlw
    obtain ⟨d, m0, hpc⟩ := pc_ex g
    obtain ⟨hA, hB1, hB2⟩ := pc_size g sm hpc
    obtain ⟨p, m, lo⟩ := lowP_ex g x
    have hring := lo.1.ring
    obtain ⟨hrl, hrz⟩ := ring_sm g sm hring
    obtain ⟨w1, w2, w3⟩ := fit_ints hrl hrz
    refine ⟨_, (pss_cons (ps_set (i := 4) sc__law_day_right.nd rfl (Or.inl rfl) (pe_ix (ixT (K := K) rfl) (pe_call c__law_round.ok (hr.mono (by decide)) (by rfl) c__law_round.mgx c__law_round.kp c__law_round.bd .nil pass0 (pa_cons (pv 2) (pa_cons (pv 3) pa_nil))) pe_int (fun _ _ => rfl))) (pss_cons (ps_set (i := 5) sc__law_day_right.nd rfl (Or.inl rfl) (pe_call c_round_of.ok (hr.mono (by decide)) (by rfl) c_round_of.mgx c_round_of.kp c_round_of.bd .nil pass0 (pa_cons (pv 1) (pa_cons (pv 3) pa_nil)))) (pss_cons (ps_if (PW.pt (pw_or (pt_cmpR op_ne (pe_callB (call_reprD hg hu) (by rfl) T.b_repr (by decide +kernel) (pa_cons (pv 5) pa_nil)) (pe_callB (call_reprD hg hu) (by rfl) T.b_repr (by decide +kernel) (pa_cons (pv 4) pa_nil)) (nomark _)) (pw_or1 (pt_cmpR op_ne (pe_callB (call_reprD hg hu) (by rfl) T.b_repr (by decide +kernel) (pa_cons (pe_callN0 c_round_of.ok (hr.mono (by decide)) (by rfl) c_round_of.mgx c_round_of.kp kb_round_of_day_table pass0 (pk_cons (pv 3) (pk_cons (pv 1) pk_nil))) pa_nil)) (pe_callB (call_reprD hg hu) (by rfl) T.b_repr (by decide +kernel) (pa_cons (pv 4) pa_nil)) (nomark _))))) (pss_one (ps_ret pe_bl)) pss_nil) (pss_cons (ps_expr (pe_bm PySem.F.plainAttrs_list PySem.F.slot_list_append PySem.F.type_list_append mt_append (pv 5) (pa_cons pe_int pa_nil))) (pss_cons (ps_if (PW.pt (pw_or (pt_cmpR op_ne (pe_callB (call_reprD hg hu) (by rfl) T.b_repr (by decide +kernel) (pa_cons (pe_call c_round_of.ok (hr.mono (by decide)) (by rfl) c_round_of.mgx c_round_of.kp c_round_of.bd .nil pass0 (pa_cons (pv 1) (pa_cons (pv 3) pa_nil))) pa_nil)) (pe_callB (call_reprD hg hu) (by rfl) T.b_repr (by decide +kernel) (pa_cons (pv 4) pa_nil)) (nomark _)) (pw_or1 (pt_cmpR (niDK (K := K) rfl (u65 hr)) (pv 4) (pe_call c__law_rounds.ok (hr.mono (by decide)) (by rfl) c__law_rounds.mgx c__law_rounds.kp c__law_rounds.bd .nil pass0 (pa_cons (pv 2) pa_nil)) (by rfl))))) (pss_one (ps_ret pe_bl)) pss_nil) (pss_cons (ps_asg (pe_call c_pace.ok (hr.mono (by decide)) (by rfl) c_pace.mgx c_pace.kp c_pace.bd .nil pass0 (pa_cons (pv 1) pa_nil)) (pg_tup (by rfl) (pgs_cons (pg_name (i := 6) sc__law_day_right.nd rfl (Or.inl rfl)) (pgs_cons (pg_name (i := 7) sc__law_day_right.nd rfl (Or.inl rfl)) pgs_nil)))) (pss_cons (ps_for PassesOwn.never rfl (piL (K := K) rfl (pe_lst (pa_cons pe_int (pa_cons pe_int (pa_cons (pe_callB (lenS (K := K) rfl) (by rfl) T.b_len (by decide +kernel) (pa_cons (pv 2) pa_nil)) (pa_cons (pe_call c__law_pick.ok (hr.mono (by decide)) (by rfl) c__law_pick.mgx c__law_pick.kp c__law_pick.bd .nil pass0 (pa_cons (pv 0) (pa_cons (pe_lst (pa_cons (pe_op op_pow pe_int pe_int) (pa_cons pe_int (pa_cons (pe_op op_add (pe_call c__law_draw.ok (hr.mono (by decide)) (by rfl) c__law_draw.mgx c__law_draw.kp c__law_draw.bd .nil pass0 (pa_cons (pv 0) (pa_cons (pe_op op_pow pe_int pe_int) pa_nil))) pe_int) pa_nil)))) pa_nil))) pa_nil)))))) (pg_name (i := 8) sc__law_day_right.nd rfl (Or.inl rfl)) (pss_cons (ps_set (i := 9) sc__law_day_right.nd rfl (Or.inl rfl) (pe_op op_sub (pe_call c_run_end.ok (hr.mono (by decide)) (by rfl) c_run_end.mgx c_run_end.kp c_run_end.bd .nil pass0 (pa_cons (pv 1) (pa_cons (pv 3) (pa_cons (pv 8) pa_nil)))) (pv 3))) (pss_one (ps_if (pt_cmpR op_ge (pe_callB call_abs (by rfl) T.b_abs (by decide +kernel) (pa_cons (pe_op op_sub (pe_op op_mul (pv 9) (pv 7)) (pe_op op_mul (pv 8) (pv 6))) pa_nil)) (pe_op op_mul (pe_callB (lenS (K := K) rfl) (by rfl) T.b_len (by decide +kernel) (pa_cons (pv 2) pa_nil)) (pv 7)) (nomark _)) (pss_one (ps_ret pe_bl)) pss_nil)))) (pss_one (ps_ret pe_bl))))))))), ?_⟩
    refine q_asgL (el_round0 (ea_cons (ev_var rfl) (ea_cons (ev_var rfl) ea_nil)) hl g lo) fun du H1 hdu e1 hdu1 => ?_
    refine q_asgL (el_call (ea_cons (ev_var rfl) (ea_cons (ev_var rfl) ea_nil)) (spl_rof (t.mono e1) g lo)) fun to H2 hto e2 hto2 => ?_
    have f2 := e1.trans e2
    have dDu : Dp K H1 (.ref du) (dInts (lap (onL ns) m p)) := dp_ints (sq_of hdu1)
    have dTo : Dp K H2 (.ref to) (dInts (lap (onL ns) m p)) := dp_ints (sq_of hto2)
    refine q_when (b := false) (et_or (a := false) (b := false) (et_is (et_test (ev_op (ev_repr (evd_ref (ev_var rfl) dTo) w1 w2 w3) (ev_repr (evd_ref (ev_var rfl) (dp_mono e2 dDu)) w1 w2 w3) (rv_ne rfl))) (congrArg not (decide_eq_true (show _ = _ from rfl)))) fun _ => et_is (et_test (ev_op (ev_repr (evd_ints (el_callN0 (ea_cons (ev_var rfl) (ea_cons (ev_var rfl) ea_nil)) rfl (spl_rof (t.mono f2) g lo))) w1 w2 w3) (ev_repr (evd_ref (ev_var rfl) (dp_mono e2 dDu)) w1 w2 w3) (rv_ne rfl))) (congrArg not (decide_eq_true (show _ = _ from rfl)))) (fun q => nomatch q) fun _ H3 e3 => ?_
    have htoH1 : H1 to = none := hto
    refine q_app (e3 to _ hto2) (ev_var rfl) ev_c (by rw [List.length_map]; omega) fun H4 e4 => ?_
    have f5 : Ex H1 (upd H4 to (.lst ((lap (onL ns) m p).map V.int ++ [.int 1]))) := fun b o hb => by
      rw [upd_ne (ne_of_none hb htoH1)]
      exact ((e2.trans e3).trans e4) b o hb
    generalize upd H4 to (.lst ((lap (onL ns) m p).map V.int ++ [.int 1])) = H5 at f5
    have g5 := e1.trans f5
    refine q_when (b := false) (et_or (a := false) (b := false) (et_is (et_test (ev_op (ev_repr (evd_ints (el_call (ea_cons (ev_var rfl) (ea_cons (ev_var rfl) ea_nil)) (spl_rof (t.mono g5) g lo))) w1 w2 w3) (ev_repr (evd_ref (ev_var rfl) (dp_mono f5 dDu)) w1 w2 w3) (rv_ne rfl))) (congrArg not (decide_eq_true (show _ = _ from rfl)))) fun _ => et_is (et_test (ev_rowNotD (row := lap (onL ns) m p) (rows := ringsL ns) (ev_var rfl) (dp_mono f5 dDu) (evd_call (ea_cons (ev_var rfl) ea_nil) (spd_lrounds (ex_l g5 hl) g)))) (by rw [decide_eq_true (show lap (onL ns) m p ∈ ringsL ns from hring)]; rfl)) (fun q => nomatch q) fun _ H6 e6 => ?_
    have g6 := g5.trans e6
    refine q_asgT2 (eu_call (ea_cons (ev_var rfl) ea_nil) (spu_pace (t.mono g6) g hpc)) fun H7 e7 => ?_
    have g7 := g6.trans e7
    have hw7 : Ex (wo H pp) (wo H7 pp) := wo_mono g7
    have hp7 := hpot.mono g7
    refine for_k (lst_k (ac_v (v := .int 1) ev_c fun H8 e8 => ac_v (v := .int 2) ev_c fun H9 e9 => ac_v (ev_cb (ea_cons (ev_var rfl) ea_nil) (rc_len (.inl (ex_l ((g7.trans e8).trans e9) hl)) (by rw [List.length_map]))) fun H10 e10 => ac_k (call_k (ac_v (ev_var rfl) fun H11 e11 => ac_k (lst_k (ac_v (v := .int 1000000) (ev_is (ev_op ev_c ev_c (rv_I ⟨by decide, by decide, by decide⟩)) rfl) fun H12 e12 => ac_v (v := .int 999999) ev_c fun H13 e13 => ac_k (op_k ?_)))))))
    have h13 := ((e8.trans e9).trans (e10.trans e11)).trans (e12.trans e13)
    have hp13 := hp7.mono h13
    have w13 : Ex (wo H pp) (wo H13 pp) := wo_mono (g7.trans h13)
    refine drawC (n := 100000) hp13 rfl (ev_is (ev_op ev_c ev_c (rv_I ⟨by decide, by decide, by decide⟩)) rfl) (by decide) (by decide) fun dd H14 hd0 hd1 e14 hp14 => ?_
    refine (ev_c (v := .int 1)) H14 (Ex.refl _) _ fun H15 e15 => ?_
    refine rv_I0 H15 (Ex.refl _) _ fun H16 e16 => ?_
    refine ac_nil ⟨sz_of (by show 3 ≤ 100000; decide), fun ps hps => ?_⟩
    have hp16 := (hp14.mono e15).mono e16
    obtain ⟨o16, ho16⟩ := hp16.some
    have hpsp : ps ≠ pp := (ne_of_none ho16 hps).symm
    refine ac_nil ⟨pp, ps, _, rfl, hp16.mono (Ex.new hps), sq_of (by rw [wo_ne hpsp]; exact upd_same), by show 0 < 3; decide, by show 3 ≤ 1000; decide, fun i v H17 hi e17 hp17 => ?_⟩
    have hv : ∃ n : Nat, v = .int (n : Int) ∧ n ≤ 1000000 := by
      match i, hi with
      | 0, hi => exact ⟨1000000, (Option.some.inj hi).symm, Nat.le_refl _⟩
      | 1, hi => exact ⟨999999, (Option.some.inj hi).symm, by decide⟩
      | 2, hi => exact ⟨(dd + 1).toNat, by rw [← Option.some.inj hi]; congr 1; omega, by omega⟩
      | n + 3, hi => exact absurd hi (by simp)
    obtain ⟨nv, rfl, hnv⟩ := hv
    refine ac_nil ⟨sz_of (by show 4 ≤ 100000; decide), fun q hq => ?_⟩
    have w17 : Ex (wo H pp) (wo H17 pp) := ((w13.trans (wo_sub e14)).trans (wo_mono ((e15.trans e16).trans (Ex.new hps)))).trans (wo_sub e17)
    obtain ⟨o17, ho17⟩ := hp17.some
    have hqp : q ≠ pp := (ne_of_none ho17 hq).symm
    have w18 : Ex (wo H pp) (upd H17 q (.lst [.int 1, .int 2, .int (ns.length : Int), .int (nv : Int)])) := fun b o hb => (Ex.new hq) b o (wo_ex b o (w17 b o hb))
    have hp18 : PotAt (upd H17 q (.lst [.int 1, .int 2, .int (ns.length : Int), .int (nv : Int)])) pp := hp17.mono (Ex.new hq)
    refine q_forL (a := q) (xs := [.int 1, .int 2, .int (ns.length : Int), .int (nv : Int)]) ev_c (sq_of upd_same) (fun i σ' H' => ∃ o8 o9 : Option V, Ex (wo H pp) H' ∧ PotAt H' pp ∧ H' q = some (.lst [.int 1, .int 2, .int (ns.length : Int), .int (nv : Int)]) ∧ σ' = [some (.ref pp), some (.ref a), some (.ref l), some (.int x), some (.ref du), some (.ref to), some (.int (lowA d m0)), some (.int (lowB d m0 : Int)), o8, o9]) (fun H18 e18 => ⟨_, _, w18.trans e18, hp18.mono e18, e18 q _ upd_same, rfl⟩) (fun i σ' H' _ ⟨o8, o9, _, _, h, _⟩ => sq_of h) (fun i y σ' H' hy hP => ?_) (fun σ' H' hP => ?_)
    · obtain ⟨o8, o9, eH, hp', hq', rfl⟩ := hP
      have hn : ∃ n : Nat, y = .int (n : Int) ∧ n ≤ 1000000 := by
        match i, hy with
        | 0, hy => exact ⟨1, (Option.some.inj hy).symm, by decide⟩
        | 1, hy => exact ⟨2, (Option.some.inj hy).symm, by decide⟩
        | 2, hy => exact ⟨ns.length, (Option.some.inj hy).symm, by omega⟩
        | 3, hy => exact ⟨nv, (Option.some.inj hy).symm, hnv⟩
        | n + 4, hy => exact absurd hy (by simp)
      obtain ⟨n, rfl, hn⟩ := hn
      have tH := tw.mono eH
      obtain ⟨nl1, nl2⟩ := near_low g hpc n x
      show tSeq _ _ _ _ _
      refine q_asg (v := .int (it (onL ns) n x - x)) (ev_op (ev_call (ea_cons (ev_var rfl) (ea_cons (ev_var rfl) (ea_cons (ev_var rfl) ea_nil))) (spv_run tH g hn)) (ev_var rfl) rv_I0) fun H18 e18 => ?_
      generalize it (onL ns) n x - x = z at nl1 nl2
      refine s_when (b := false) (et_test (ev_op (ev_cb (ea_cons (ev_op (ev_op (ev_var rfl) (ev_var rfl) (rv_I (.inr ⟨by omega, by omega⟩))) (ev_op (ev_var rfl) (ev_var rfl) (rv_I (.inl ⟨by omega, by omega⟩))) rv_I0) ea_nil) rc_abs) (ev_op (ev_cb (ea_cons (ev_var rfl) ea_nil) (rc_len (.inl (ex_l (eH.trans e18) hlw)) (by rw [List.length_map]))) (ev_var rfl) (rv_I (.inl ⟨by omega, by omega⟩))) (rv_res rv_I0 (congrArg V.bl (decide_eq_false (by split <;> omega)))))) (fun q => nomatch q) fun _ H19 e19 => ?_
      exact ⟨_, _, eH.trans (e18.trans e19), hp'.mono (e18.trans e19), (e18.trans e19) q _ hq', rfl⟩
    · obtain ⟨o8, o9, eH, hp', hq', rfl⟩ := hP
      exact s_ret ev_c fun H18 e18 => k H18 (eH.trans e18) (hp'.mono e18)
end
end K15
end
section
namespace TM
section
variable {f : Int → Int} {n : Nat}
theorem it_fix {x : Int} (h : f x = x) : ∀ j, it f j x = x
  | 0 => rfl
  | j + 1 => by show f (it f j x) = x; rw [it_fix h j, h]
theorem fix_rep (r : Rule n f) {p : Int} (h0 : 0 ≤ p) (h1 : p < (n : Int)) (h : f p = p) : Rep n f p 1 := by
  refine ⟨h0, h1, ⟨Nat.le_refl _, ?_, fun j a b => by omega⟩, fun j => ?_⟩
  · rw [it_fix h, Int.sub_self]
    exact Int.zero_emod _
  · rw [it_fix h, Int.emod_eq_of_lt h0 h1]
    exact Int.le_refl _
theorem lap_one {p : Int} : lap f 1 p = [p] := rfl
theorem fix_of_back (r : Rule n f) {p : Int} {m : Nat} (hm : 1 ≤ m) (h : it f m p = p) : f p = p := by
  have up : p ≤ f p → ∀ j, f p ≤ it f (j + 1) p := fun h0 j => by
    induction j with
    | zero => exact Int.le_refl _
    | succ j ih => exact r.mono _ _ (Int.le_trans h0 ih)
  have dn : f p ≤ p → ∀ j, it f (j + 1) p ≤ f p := fun h0 j => by
    induction j with
    | zero => exact Int.le_refl _
    | succ j ih => exact r.mono _ _ (Int.le_trans ih h0)
  obtain ⟨k, rfl⟩ : ∃ k, m = k + 1 := ⟨m - 1, by omega⟩
  by_cases h0 : p ≤ f p
  · have := up h0 k
    omega
  · have := dn (by omega) k
    omega
theorem fix_of_ring (r : Rule n f) {p : Int} {m : Nat} (R : Rep n f p m) (h : it f m p = p) : m = 1 ∧ f p = p := by
  have hf := fix_of_back r R.ret.pos h
  exact ⟨R.ret.uniq (fix_rep r R.lo R.hi hf).ret, hf⟩
/-- moved by whole lengths -/
theorem it_moved {s : Int} (hs : ∀ x, f (x + s) = f x + s) (k : Nat) (x : Int) : it (fun y => f y + s) k x = it f k x + (k : Int) * s := by
  have hk : ∀ (k : Nat) (x : Int), f (x + (k : Int) * s) = f x + (k : Int) * s := fun k => by
    induction k with
    | zero => intro x; simp
    | succ k ih =>
      intro x
      rw [Int.natCast_succ, Int.add_mul, Int.one_mul, ← Int.add_assoc, hs, ih]
      omega
  induction k with
  | zero => show x = x + 0 * s; omega
  | succ k ih =>
    show f (it (fun y => f y + s) k x) + s = f (it f k x) + ((k + 1 : Nat) : Int) * s
    rw [ih, hk, Int.natCast_succ, Int.add_mul, Int.one_mul]
    omega
end
end TM
end
section
set_option maxHeartbeats 4000000
namespace K15
open PySem L2 Evl G TM
/-! ### other Tables' paces -/
theorem ls_itL {ns : List Int} {n : Nat} : (itL ns n).length = ns.length := by unfold itL; rw [listF_len]
theorem pc_times {ns : List Int} (g : Good ns) {d e : Int} {m k : Nat} (n : Nat) (h : Pc ns d m) (h' : Pc (itL ns n) e k) : lowA e k = lowA (lowA d m * (n : Int)) (lowB d m) ∧ lowB e k = lowB (lowA d m * (n : Int)) (lowB d m) := by
  have r := on_rule g
  obtain ⟨m1, ha, y, hy⟩ := h
  obtain ⟨k1, hc, x, hx⟩ := h'
  obtain ⟨gg, g1, _, ea, em, _⟩ := low_spec d m1
  have hB : 1 ≤ lowB d m := by
    rcases Nat.eq_zero_or_pos (lowB d m) with z | z
    · rw [z, Nat.zero_mul] at em; omega
    · exact z
  refine low_eq k1 hB ?_
  rw [ls_itL] at hc
  have hf : onL (itL ns n) = it (onL ns) n := funext fun z => (r.it n).on z
  rw [hf, ← it_mul] at hx
  have q := rate_eq r hc ha hx hy
  generalize lowA d m = A at *
  generalize lowB d m = B at *
  subst ea em
  rw [Int.natCast_mul, Int.natCast_mul] at q
  have hg : (gg : Int) ≠ 0 := by omega
  refine (Int.eq_of_mul_eq_mul_right hg ?_).symm
  calc A * (n : Int) * (k : Int) * (gg : Int) = A * (gg : Int) * ((k : Int) * (n : Int)) := by ac_rfl
    _ = e * ((B : Int) * (gg : Int)) := q
    _ = e * (B : Int) * (gg : Int) := by ac_rfl
/-- the same rule, told in another length -/
theorem pc_same {ns : List Int} (g : Good ns) {d e : Int} {m k L : Nat} (r' : Rule L (onL ns)) (hL : L ∣ ns.length ∨ ns.length ∣ L) (h : Pc ns d m) (h' : Pc (listF L (onL ns)) e k) : lowA e k = lowA d m ∧ lowB e k = lowB d m := by
  have r := on_rule g
  obtain ⟨m1, ha, y, hy⟩ := h
  obtain ⟨k1, hc, x, hx⟩ := h'
  have hf : onL (listF L (onL ns)) = onL ns := funext fun z => r'.on z
  rw [hf] at hx
  rw [listF_len] at hc
  rcases hL with ⟨q, hq⟩ | ⟨q, hq⟩
  · refine low_eq k1 m1 ?_
    have ha' : ∃ t : Int, d = t * (L : Int) := by
      obtain ⟨t, ht⟩ := ha
      exact ⟨t * (q : Int), by rw [ht, hq, Int.natCast_mul]; ac_rfl⟩
    exact (rate_eq r' hc ha' hx hy).symm
  · refine low_eq k1 m1 ?_
    have hc' : ∃ t : Int, e = t * (ns.length : Int) := by
      obtain ⟨t, ht⟩ := hc
      exact ⟨t * (q : Int), by rw [ht, hq, Int.natCast_mul]; ac_rfl⟩
    exact (rate_eq r hc' ha hx hy).symm
theorem pc_moved {ns : List Int} (g : Good ns) {d e s : Int} {m k : Nat} (hs : ∃ t : Int, s = t * (ns.length : Int)) (h : Pc ns d m) (h' : Pc (listF ns.length fun x => onL ns x + s) e k) : lowA e k = lowA (lowA d m + s * (lowB d m : Int)) (lowB d m) ∧ lowB e k = lowB (lowA d m + s * (lowB d m : Int)) (lowB d m) := by
  have r := on_rule g
  obtain ⟨m1, ha, y, hy⟩ := h
  obtain ⟨k1, hc, x, hx⟩ := h'
  obtain ⟨gg, g1, _, ea, em, _⟩ := low_spec d m1
  have hB : 1 ≤ lowB d m := by
    rcases Nat.eq_zero_or_pos (lowB d m) with z | z
    · rw [z, Nat.zero_mul] at em; omega
    · exact z
  have hf : onL (listF ns.length fun x => onL ns x + s) = fun x => onL ns x + s := funext fun z => (moved_rule g).on z
  obtain ⟨t, ht⟩ := hs
  have hps : ∀ x, onL ns (x + s) = onL ns x + s := fun x => by rw [ht]; exact per_times (onL_per g) t x
  rw [hf, it_moved hps] at hx
  rw [listF_len] at hc
  refine low_eq k1 hB ?_
  have hc' : ∃ t : Int, e - (k : Int) * s = t * (ns.length : Int) := by
    obtain ⟨u, hu⟩ := hc
    exact ⟨u - (k : Int) * t, by rw [hu, ht, Int.sub_mul]; ac_rfl⟩
  have q := rate_eq r hc' ha (show it (onL ns) k x = x + (e - (k : Int) * s) by omega) hy
  generalize lowA d m = A at *
  generalize lowB d m = B at *
  subst ea em
  have hg : (gg : Int) ≠ 0 := by omega
  refine (Int.eq_of_mul_eq_mul_right hg ?_).symm
  rw [Int.natCast_mul, Int.sub_mul] at q
  have q2 : (A + s * (B : Int)) * (k : Int) * (gg : Int) = A * (gg : Int) * (k : Int) + (k : Int) * s * ((B : Int) * (gg : Int)) := by
    rw [Int.add_mul, Int.add_mul]
    ac_rfl
  rw [q2, q, show e * (B : Int) * (gg : Int) = e * ((B : Int) * (gg : Int)) by ac_rfl]
  omega
/-! ### days served on themselves -/
theorem mem_fixL {ns : List Int} (g : Good ns) {p : Int} : p ∈ fixL ns ↔ 0 ≤ p ∧ p < (ns.length : Int) ∧ onL ns p = p := by
  unfold fixL
  rw [List.mem_map]
  constructor
  · rintro ⟨i, hi, rfl⟩
    rw [List.mem_filter, List.mem_range] at hi
    have h := of_decide_eq_true hi.2
    injection h with h
    exact ⟨by omega, by omega, by rw [on_first g hi.1]; exact h.symm⟩
  · rintro ⟨h0, h1, h2⟩
    have hi : p.toNat < ns.length := by omega
    refine ⟨p.toNat, ?_, by omega⟩
    rw [List.mem_filter, List.mem_range]
    refine ⟨hi, decide_eq_true ?_⟩
    rw [← on_first g hi, show ((p.toNat : Nat) : Int) = p by omega, h2]
theorem fixL_up {ns : List Int} : (fixL ns).Pairwise (· < ·) := by
  unfold fixL
  refine List.pairwise_map.mpr (List.Pairwise.filter _ ?_)
  exact List.Pairwise.imp (fun h => by omega) List.pairwise_lt_range
theorem fixL_len {ns : List Int} : (fixL ns).length ≤ ns.length := by
  unfold fixL
  rw [List.length_map]
  exact Nat.le_trans (List.length_filter_le _ _) (by rw [List.length_range]; exact Nat.le_refl _)
def fixR (ns : List Int) : List (List Int) := (fixL ns).map fun p => [p]
theorem fixR_ring {ns : List Int} (g : Good ns) {row : List Int} (h : row ∈ fixR ns) : row ∈ ringsL ns := by
  obtain ⟨p, hp, rfl⟩ := List.mem_map.mp h
  obtain ⟨h0, h1, h2⟩ := (mem_fixL g).mp hp
  exact (fix_rep (on_rule g) h0 h1 h2).ring
theorem low_zero {m : Nat} : lowA 0 m = 0 := by unfold lowA; exact Int.zero_ediv _
theorem fix_pace {ns : List Int} (g : Good ns) {d : Int} {m : Nat} (h : Pc ns d m) (hf : fixL ns ≠ []) : lowA d m = 0 := by
  obtain ⟨p, hp⟩ := List.exists_mem_of_ne_nil _ hf
  obtain ⟨h0, h1, h2⟩ := (mem_fixL g).mp hp
  have h' : Pc ns 0 1 := ⟨Nat.le_refl _, ⟨0, by rw [Int.zero_mul]⟩, p, by show onL ns p = p + 0; rw [h2]; omega⟩
  rw [(pc_low g h h').1, low_zero]
theorem zero_fix {ns : List Int} (g : Good ns) {d : Int} {m : Nat} (h : Pc ns d m) (hA : lowA d m = 0) : ringsL ns = fixR ns := by
  have r := on_rule g
  refine asc_extR ltR_asym rings_up ?_ fun row => ⟨fun hr => ?_, fun hr => fixR_ring g hr⟩
  · unfold fixR
    refine List.pairwise_map.mpr (fixL_up.imp fun {p q} hlt => ⟨List.cons_le_cons_iff.mpr (.inl hlt), fun e => ?_⟩)
    injection e with e _
    omega
  · obtain ⟨p, k, R, rfl⟩ := mem_rings.mp hr
    have hc : it (onL ns) k p = p + (it (onL ns) k p - p) := by omega
    have h1 := (pc_low g h (rep_pc R hc)).1
    rw [hA] at h1
    obtain ⟨gg, g1, _, ea, _, _⟩ := low_spec (it (onL ns) k p - p) R.ret.pos
    rw [← h1, Int.zero_mul] at ea
    obtain ⟨rfl, hf⟩ := fix_of_ring r R (by omega)
    exact List.mem_map.mpr ⟨p, (mem_fixL g).mpr ⟨R.lo, R.hi, hf⟩, rfl⟩
def sp_or (K : PySem.W.Frag) (C : Addr) : Sp := fun vs H Q _ => ∃ (p a l : Addr) (ns : List Int), vs = [.ref p, .ref a, .ref l] ∧ PotAt H p ∧ Tab K C (wo H p) a ns ∧ SqL K (wo H p) l (ns.map V.int) ∧ Good ns ∧ Sm ns ∧ ns.length ≤ 300 ∧ ∀ H2, Ex (wo H p) H2 → PotAt H2 p → Q (.bl true) H2
section
variable {K : PySem.W.Frag} {σ : L2.St} {H : Hp} {C a : Addr} {ta tb : TE} {tA : TA} {sp : Sp} {dvs ws xs : List V} {E : XK} {ns N : List Int} {M MM : Hp → Addr → Prop} {d : PyData} {m : Str} {x : V} {row : List Int} {rows : List (List Int)} {dx : Addr} {fs : List (Str × V)}
theorem evm_tab (h : EvM ta σ H (fun H2 p => TabN C H H2 p N)) : EvM ta σ H (fun H2 p => Tab K C H2 p N) := fun H1 e Q q => h H1 e Q fun p H2 hp e2 t => q p H2 hp e2 t.tab
theorem eu_callM (h : EvM ta σ H M) (hs : ∀ p H1, Ex H H1 → M H1 p → SpU sp ([.ref p] ++ dvs) H1 xs) : EvU (tCall sp dvs E (tCons ta tNil)) σ H xs := fun H1 e Q q =>
  h H1 e _ fun p H2 hp e2 t => hs p H2 (e.trans e2) t H2 (Ex.refl _) Q (fun z H3 hz e3 h3 => q z H3 (fresh_back e2 hz) (e2.trans e3) h3) E
theorem evd_callM (h : EvM ta σ H M) (hs : ∀ p H1, Ex H H1 → M H1 p → SpD K sp ([.ref p] ++ dvs) H1 d) : EvD K (tCall sp dvs E (tCons ta tNil)) σ H d := fun H1 e Q q =>
  h H1 e _ fun p H2 hp e2 t => hs p H2 (e.trans e2) t H2 (Ex.refl _) Q (fun z H3 e3 h3 => q z H3 (e2.trans e3) h3) E
/-- a method of a new Table that makes a Table -/
theorem evm_methT (K : PySem.W.Frag) (h : EvM ta σ H (fun H2 p => Tab K C H2 p N)) (hl : ("_days" : Str) ≠ m) (ha : ∀ (p : Addr) (H1 : Hp), Ex H H1 → EvA tA σ H1 ws) (hs : ∀ (p : Addr) (H1 : Hp), Ex H H1 → Tab K C H1 p N → SpM sp (.ref p :: (ws ++ dvs)) H1 MM) : EvM (tMeth C m sp dvs E ta tA) σ H MM := fun H1 e Q q =>
  h H1 e _ fun p H2 hp e2 t => by
    obtain ⟨dx, l, t1, t2⟩ := id t
    have hlk : List.lookup m [(("_days" : Str), V.ref l)] = none := by
      rw [List.lookup_cons, show (m == ("_days" : Str)) = false from beq_eq_false_iff_ne.mpr (Ne.symm hl)]
      rfl
    exact ⟨p, dx, _, rfl, t1, hlk, ha p H2 (e.trans e2) H2 (Ex.refl _) _ fun H3 e3 => hs p H3 ((e.trans e2).trans e3) (t.mono e3) H3 (Ex.refl _) Q (fun z H4 hz e4 h4 => q z H4 (fresh_back (e2.trans e3) hz) ((e2.trans e3).trans e4) h4) E⟩
theorem spm_tab {vs : List V} (h : SpM sp vs H (fun H2 p => TabN C H H2 p N)) : SpM sp vs H (fun H2 p => Tab K C H2 p N) := fun H1 e Q q E => h H1 e Q (fun p H2 hp e2 t => q p H2 hp e2 t.tab) E
theorem ev_rowInD (h : Ev ta σ H x) (hx : Dp K H x (dInts row)) (h2 : EvD K tb σ H (.list (rows.map dInts))) : Ev (tOp (rInD K) ta tb) σ H (.bl (decide (row ∈ rows))) := fun H1 e Q q =>
  h H1 e _ fun H2 e2 => h2 H2 (e.trans e2) _ fun v H3 e3 hv => ⟨_, _, dp_mono ((e.trans e2).trans e3) hx, hv, shaped_small (plain_ints row) (by have := depth_ints row; omega), shaped_small (plain_rows rows) (by have := depth_rows rows; omega), by
    rw [rows_in]
    exact q H3 (e2.trans e3)⟩
end
theorem sh_rows (rows : List (List Int)) : SeqAt.shaped (.list (rows.map dInts)) = true := shaped_small (plain_rows rows) (by have := depth_rows rows; omega)
theorem sh_pc (a : Int) (m : Nat) : SeqAt.shaped (pcD a m) = true := shaped_small rfl (by unfold pcD; simp only [PyData.depth, PyData.depthAll]; omega)
theorem eqv_nilR (rows : List (List Int)) : PyData.eqv (.list (rows.map dInts)) (.list []) = rows.isEmpty := by
  cases rows with
  | nil => rfl
  | cons a fs => rfl
theorem news_rows {H H' : Hp} {p : Addr} {rows : List (List Int)} : ∀ {ts : List Addr}, NewOs H H' p ts (rows.map fun row => HO.lst (row.map V.int)) → NewRows H H' p ts rows := by
  induction rows with
  | nil => intro ts h; rw [List.map_nil] at h; cases h; exact .nil
  | cons row rows ih =>
    intro ts h
    rw [List.map_cons] at h
    cases h with
    | cons h hs => exact .cons h (ih hs)
section
variable {P : Program} {w : World} {K : PySem.W.Frag} {mg : Str → Option Value} {base : Heap} {C : Addr}
theorem ok_or {f f1 f2 f3 f4 f5 f6 f7 f8 f9 f10 : Addr} {fd fd1 fd2 fd3 fd4 fd5 fd6 fd7 fd8 fd9 fd10 : FuncData} (F : Fun K "_law_others_right" "_law_others_right" s__law_others_right f fd) (T : Txt K mg C) (c_pace : Cal P w K mg base "pace" f1 fd1 ["table"] 10 (sp_pace K C)) (c__law_draw : Cal P w K mg base "_law_draw" f2 fd2 ["_law_pot_here", "_law_size"] 1 sp_draw) (c_times : Cal P w K mg base "times" f3 fd3 ["table", "count"] 7 (sp_times K C)) (c__law_low : Cal P w K mg base "_law_low" f4 fd4 ["_law_above", "_law_below"] 1 sp_low) (m_stretched : Met P w K mg base C "stretched" f5 fd5 ["self", "count"] 5 (sp_str K C)) (m_shortest : Met P w K mg base C "shortest" f6 fd6 ["self"] 5 (sp_shortest K C)) (m_moved : Met P w K mg base C "moved" f7 fd7 ["self", "day"] 5 (sp_moved K C)) (m_asked_later : Met P w K mg base C "asked_later" f8 fd8 ["self", "day"] 5 (sp_later K C)) (c_rounds : Cal P w K mg base "rounds" f9 fd9 ["table"] 8 (sp_rounds K C)) (m_fixed_days : Met P w K mg base C "fixed_days" f10 fd10 ["self"] 2 (sp_fixed K C)) :
    FnOk P w K mg base CX0 11 f fd ["_law_pot_here", "_law_table", "_law_days_here"] (sp_or K C) := by
  refine F.ok sc__law_others_right (fun vs H Q E h => ?_) (fun cdv A outer s H vs Q E hr h => ?_)
  · obtain ⟨p, a, l, ns, rfl, _⟩ := h
    rfl
  · obtain ⟨pp, a, l, ns, rfl, hpot, tw, hlw, g, sm, h300, k⟩ := h
    have r := on_rule g
    have hgm := g.most
    have hgp := g.pos
    have t := tw.mono wo_ex
    obtain ⟨d, m, hpc⟩ := pc_ex g
    obtain ⟨hA, hB1, hB2⟩ := pc_size g sm hpc
    have hpv : ∀ {A B : Int} H12, DpAll K H12 [.int A, .int B] [.int A, .int B] := fun {A B} H12 => .cons (.int _) (.cons (.int _) .nil)
    refine ⟨_, (pss_cons (ps_asg (pe_call c_pace.ok (hr.mono (by decide)) (by rfl) c_pace.mgx c_pace.kp c_pace.bd .nil pass0 (pa_cons (pv 1) pa_nil)) (pg_tup (by rfl) (pgs_cons (pg_name (i := 3) sc__law_others_right.nd rfl (Or.inl rfl)) (pgs_cons (pg_name (i := 4) sc__law_others_right.nd rfl (Or.inl rfl)) pgs_nil)))) (pss_cons (ps_set (i := 5) sc__law_others_right.nd rfl (Or.inl rfl) (pe_call c__law_draw.ok (hr.mono (by decide)) (by rfl) c__law_draw.mgx c__law_draw.kp c__law_draw.bd .nil pass0 (pa_cons (pv 0) (pa_cons pe_int pa_nil)))) (pss_cons (ps_if (pt_cmpR (neD (K := K) rfl hr.units) (pe_call c_pace.ok (hr.mono (by decide)) (by rfl) c_pace.mgx c_pace.kp c_pace.bd .nil pass0 (pa_cons (pe_call c_times.ok (hr.mono (by decide)) (by rfl) c_times.mgx c_times.kp c_times.bd .nil pass0 (pa_cons (pv 1) (pa_cons (pv 5) pa_nil))) pa_nil)) (pe_call c__law_low.ok (hr.mono (by decide)) (by rfl) c__law_low.mgx c__law_low.kp c__law_low.bd .nil pass0 (pa_cons (pe_op op_mul (pv 3) (pv 5)) (pa_cons (pv 4) pa_nil))) (nomark _)) (pss_one (ps_ret pe_bl)) pss_nil) (pss_cons (ps_if (PW.pt (pw_or (pt_cmpR (neD (K := K) rfl hr.units) (pe_call c_pace.ok (hr.mono (by decide)) (by rfl) c_pace.mgx c_pace.kp c_pace.bd .nil pass0 (pa_cons (pe_meth (pv 1) T.cl m_stretched.me m_stretched.ok (hr.mono (by decide)) m_stretched.bd .nil pass0 (pa_cons pe_int pa_nil)) pa_nil)) (pe_tup (pa_cons (pv 3) (pa_cons (pv 4) pa_nil))) (nomark _)) (pw_or1 (pt_cmpR (neD (K := K) rfl hr.units) (pe_call c_pace.ok (hr.mono (by decide)) (by rfl) c_pace.mgx c_pace.kp c_pace.bd .nil pass0 (pa_cons (pe_meth0 (pv 1) T.cl m_shortest.me m_shortest.ok (hr.mono (by decide)) m_shortest.bd .nil pass0) pa_nil)) (pe_tup (pa_cons (pv 3) (pa_cons (pv 4) pa_nil))) (nomark _))))) (pss_one (ps_ret pe_bl)) pss_nil) (pss_cons (ps_set (i := 6) sc__law_others_right.nd rfl (Or.inl rfl) (pe_op op_sub (pe_call c__law_draw.ok (hr.mono (by decide)) (by rfl) c__law_draw.mgx c__law_draw.kp c__law_draw.bd .nil pass0 (pa_cons (pv 0) (pa_cons pe_int pa_nil))) pe_int)) (pss_cons (ps_set (i := 7) sc__law_others_right.nd rfl (Or.inl rfl) (pe_callB (lenS (K := K) rfl) (by rfl) T.b_len (by decide +kernel) (pa_cons (pv 2) pa_nil))) (pss_cons (ps_if (pt_cmpR (neD (K := K) rfl hr.units) (pe_call c_pace.ok (hr.mono (by decide)) (by rfl) c_pace.mgx c_pace.kp c_pace.bd .nil pass0 (pa_cons (pe_meth (pv 1) T.cl m_moved.me m_moved.ok (hr.mono (by decide)) m_moved.bd .nil pass0 (pa_cons (pe_op op_mul (pv 6) (pv 7)) pa_nil)) pa_nil)) (pe_call c__law_low.ok (hr.mono (by decide)) (by rfl) c__law_low.mgx c__law_low.kp c__law_low.bd .nil pass0 (pa_cons (pe_op op_add (pv 3) (pe_op op_mul (pe_op op_mul (pv 6) (pv 7)) (pv 4))) (pa_cons (pv 4) pa_nil))) (nomark _)) (pss_one (ps_ret pe_bl)) pss_nil) (pss_cons (ps_if (pt_cmpR (neD (K := K) rfl hr.units) (pe_call c_rounds.ok (hr.mono (by decide)) (by rfl) c_rounds.mgx c_rounds.kp c_rounds.bd .nil pass0 (pa_cons (pe_meth (pe_meth (pv 1) T.cl m_asked_later.me m_asked_later.ok (hr.mono (by decide)) m_asked_later.bd .nil pass0 (pa_cons (pv 7) pa_nil)) T.cl m_moved.me m_moved.ok (hr.mono (by decide)) m_moved.bd .nil pass0 (pa_cons (pe_op op_sub pe_int (pv 7)) pa_nil)) pa_nil)) (pe_call c_rounds.ok (hr.mono (by decide)) (by rfl) c_rounds.mgx c_rounds.kp c_rounds.bd .nil pass0 (pa_cons (pv 1) pa_nil)) (nomark _)) (pss_one (ps_ret pe_bl)) pss_nil) (pss_cons (ps_setLc (i := 8) (own := [("_law_day", 9)]) (g := (gName 9)) (by rfl) sc__law_others_right.nd rfl rfl (sw_true rfl rfl rfl (by decide +kernel)) (piL (K := K) rfl (pe_meth0 (pv 1) T.cl m_fixed_days.me m_fixed_days.ok (hr.mono (by decide)) m_fixed_days.bd .nil pass0)) (blkOk_by (own := [("_law_day", 9)]) (N := ["_law_pot_here", "_law_table", "_law_days_here", "_law_above", "_law_below", "_law_many", "_law_step", "_law_length", "_law_fixed", "_law_day", "_law_ring"]) (sc := defScope s__law_others_right) (by decide +kernel)) (fun _ _ _ _ _ => (pg_name (i := 9) sc__law_others_right.nd rfl (Or.inl rfl))) (fun _ _ _ _ _ => pts_nil) (fun _ _ _ _ _ => (pe_lst (pa_cons (pv 9) pa_nil)))) (pss_cons (ps_if (PW.pt (pw_or (pt_not (pt_val (pe_callB (allL (K := K) rfl rfl) (by rfl) T.b_all (by decide +kernel) (pa_cons (pe_lc (own := [("_law_ring", 10)]) (g := (gName 10)) (by rfl) sc__law_others_right.nd (piL (K := K) rfl (pv 8)) (blkOk_by (own := [("_law_ring", 10)]) (N := ["_law_pot_here", "_law_table", "_law_days_here", "_law_above", "_law_below", "_law_many", "_law_step", "_law_length", "_law_fixed", "_law_day", "_law_ring"]) (sc := defScope s__law_others_right) (by decide +kernel)) (fun _ _ _ _ _ => (pg_name (i := 10) sc__law_others_right.nd rfl (Or.inl rfl))) (fun _ _ _ _ _ => pts_nil) (fun _ _ _ _ _ => (pe_cmpR (inDK (K := K) rfl (u65 hr)) (pv 10) (pe_call c_rounds.ok (hr.mono (by decide)) (by rfl) c_rounds.mgx c_rounds.kp c_rounds.bd .nil pass0 (pa_cons (pv 1) pa_nil)) (by rfl)))) pa_nil)))) (pw_or1 (PW.pt (pw_and (pt_cmpR (neD (K := K) rfl hr.units) (pv 8) (pe_lst pa_nil) (nomark _)) (pw_and1 (pt_cmpR op_ne (pv 3) pe_int (nomark _)))))))) (pss_one (ps_ret pe_bl)) pss_nil) (pss_one (ps_ret (pe_or (pe_cmpR op_ne (pv 3) pe_int (nomark _)) (pe_one (pe_cmpR (eqD (K := K) rfl hr.units) (pe_call c_rounds.ok (hr.mono (by decide)) (by rfl) c_rounds.mgx c_rounds.kp c_rounds.bd .nil pass0 (pa_cons (pv 1) pa_nil)) (pv 8) (nomark _)))))))))))))))), ?_⟩
    refine q_asgT2 (eu_call (ea_cons (ev_var rfl) ea_nil) (spu_pace t g hpc)) fun H1 e1 => ?_
    refine drawC (n := 6) (hpot.mono e1) rfl ev_c (by decide) (by decide) fun dd H2 d0 d1 e2 hp2 => ?_
    obtain ⟨n, rfl⟩ : ∃ n : Nat, dd = (n : Int) := ⟨dd.toNat, by omega⟩
    have w2 : Ex (wo H pp) H2 := (wo_mono e1).trans e2
    have t2 := tw.mono w2
    obtain ⟨dx, la, h1, h2⟩ := id t2
    have gI : Good (itL ns n) := (r.it n).good
    obtain ⟨d1', m1', hpc1⟩ := pc_ex gI
    obtain ⟨q1, q2⟩ := pc_times g n hpc hpc1
    have paceT : ∀ {H5 : Hp} {σ' : L2.St} {te : TE} {N : List Int} {e : Int} {k' : Nat}, EvM te σ' H5 (fun H6 p => Tab K C H6 p N) → Good N → Pc N e k' → EvD K (tCall (sp_pace K C) [] E0 (tCons te tNil)) σ' H5 (pcD e k') := fun {H5 σ' te N e k'} h gN hN => evd_u (eu_callM h fun p H6 e6 t6 => spu_pace t6 gN hN) fun H6 _ => hpv H6
    refine q_when (b := false) (et_test (ev_neD (d := pcD d1' m1') (paceT (evm_tab (evm_call (ea_cons (ev_var rfl) (ea_cons (ev_var rfl) ea_nil)) (spm_times t2 g (by omega)))) gI hpc1) (evd_is (evd_u (eu_call (ea_cons (ev_op (ev_var rfl) (ev_var rfl) (rv_I (.inr ⟨by omega, by omega⟩))) (ea_cons (ev_var rfl) ea_nil)) (spu_low hB1 (by omega))) fun H6 _ => hpv H6) (by unfold pcD; rw [q1, q2])) (sh_pc _ _) (plain_can (d := pcD d1' m1') rfl))) (fun q => nomatch q) fun _ H3 e3 => ?_
    have w3 := w2.trans e3
    have t3 := tw.mono w3
    have gS : Good (listF (2 * ns.length) (onL ns)) := (str_rule g (n := 2) (by decide) (by omega)).good
    obtain ⟨ds, ms, hpcs⟩ := pc_ex gS
    obtain ⟨q3, q4⟩ := pc_same g (str_rule g (n := 2) (by decide) (by omega)) (.inr (Nat.dvd_mul_left _ _)) hpc hpcs
    obtain ⟨le, hle⟩ := least_ex g
    have hler := hle.rule g
    obtain ⟨dl, ml, hpcl⟩ := pc_ex hler.good
    obtain ⟨q5, q6⟩ := pc_same g hler (.inl hle.dvd) hpc hpcl
    have hAB : ∀ (H6 : Hp) {σ' : L2.St}, σ'[3]? = some (some (.int (lowA d m))) → σ'[4]? = some (some (.int (lowB d m : Int))) → EvD K (tTup (tCons (tVar 3) (tCons (tVar 4) tNil))) σ' H6 (pcD d m) := fun H6 {σ'} z1 z2 => evd_u (eu_tup (ea_cons (ev_var z1) (ea_cons (ev_var z2) ea_nil)) (by show 2 ≤ 100000; decide)) fun H7 _ => hpv H7
    refine q_when (b := false) (et_or (a := false) (b := false) (et_test (ev_neD (d := pcD d m) (evd_is (paceT (evm_tab (evm_meth (ev_var rfl) (e3 a _ h1) rfl (ea_cons ev_c ea_nil) (spm_str (n := 2) t3 g (by decide) (by omega)))) gS hpcs) (by unfold pcD; rw [q3, q4])) (hAB _ rfl rfl) (sh_pc _ _) (plain_can (d := pcD d m) rfl))) fun _ => et_test (ev_neD (d := pcD d m) (evd_is (paceT (evm_tab (evm_meth (ev_var rfl) (e3 a _ h1) rfl ea_nil (spm_shortest t3 g hle))) hler.good hpcl) (by unfold pcD; rw [q5, q6])) (hAB _ rfl rfl) (sh_pc _ _) (plain_can (d := pcD d m) rfl))) (fun q => nomatch q) fun _ H4 e4 => ?_
    have hp4 := (hp2.mono e3).mono e4
    refine asg_k (op_k (drawC (n := 9) hp4 rfl ev_c (by decide) (by decide) fun st H5 s0 s1 e5 hp5 => ?_))
    refine (ev_c (v := .int 4)) H5 (Ex.refl _) _ fun H6 e6 => ?_
    refine rv_I0 H6 (Ex.refl _) _ fun H7 e7 => ?_
    have w7 : Ex (wo H pp) H7 := (((wo_sub (w3.trans e4)).trans e5).trans e6).trans e7
    have hp7 := (hp5.mono e6).mono e7
    generalize hstep : st - 4 = stp
    have hst : -4 ≤ stp ∧ stp ≤ 4 := by omega
    refine q_asg (ev_cb (ea_cons (ev_var rfl) ea_nil) (rc_len (.inl (ex_l w7 hlw)) (by rw [List.length_map]))) fun H8 e8 => ?_
    have w8 := w7.trans e8
    have t8 := tw.mono w8
    obtain ⟨dx8, la8, i1, i2⟩ := id t8
    have gM : Good (listF ns.length fun x => onL ns x + stp * (ns.length : Int)) := (moved_rule g).good
    obtain ⟨dm, mm, hpcm⟩ := pc_ex gM
    obtain ⟨q7, q8⟩ := pc_moved g ⟨stp, rfl⟩ hpc hpcm
    have hsl : -(2 ^ 64) < stp * (ns.length : Int) ∧ stp * (ns.length : Int) < 2 ^ 64 := by
      have a1 : (-4) * (ns.length : Int) ≤ stp * (ns.length : Int) := Int.mul_le_mul_of_nonneg_right hst.1 (by omega)
      have a2 : stp * (ns.length : Int) ≤ 4 * (ns.length : Int) := Int.mul_le_mul_of_nonneg_right hst.2 (by omega)
      omega
    refine q_when (b := false) (et_test (ev_neD (d := pcD dm mm) (paceT (evm_tab (evm_meth (ev_var rfl) i1 rfl (ea_cons (ev_op (ev_var rfl) (ev_var rfl) (rv_I (.inl ⟨by omega, by omega⟩))) ea_nil) (spm_moved t8 g))) gM hpcm) (evd_is (evd_u (eu_call (ea_cons (ev_op (ev_var rfl) (ev_op (ev_op (ev_var rfl) (ev_var rfl) (rv_I (.inl ⟨by omega, by omega⟩))) (ev_var rfl) (rv_I (.inl hsl))) rv_I0) (ea_cons (ev_var rfl) ea_nil)) (spu_low hB1 (by omega))) fun H9 _ => hpv H9) (by unfold pcD; rw [q7, q8])) (sh_pc _ _) (plain_can (d := pcD dm mm) rfl))) (fun q => nomatch q) fun _ H9 e9 => ?_
    have w9 := w8.trans e9
    have t9 := tw.mono w9
    have gL : Good (listF ns.length fun x => onL ns (x + (ns.length : Int))) := (later_on_rule g).good
    have hback : listF (listF ns.length fun x => onL ns (x + (ns.length : Int))).length (fun x => onL (listF ns.length fun x => onL ns (x + (ns.length : Int))) x + (0 - (ns.length : Int))) = ns := by
      rw [listF_len]
      refine Eq.trans ?_ (list_map_on g).symm
      congr 1
      funext x
      rw [(later_on_rule g).on, onL_per g]
      omega
    refine q_when (b := false) (et_test (ev_neD (d := rgD ns) (evd_callM (evm_methT K (evm_tab (evm_meth (ev_var rfl) (e9 a _ i1) rfl (ea_cons (ev_var rfl) ea_nil) (spm_later t9 g))) (by decide) (fun p H10 e10 => ea_cons (ev_op ev_c (ev_var rfl) rv_I0) ea_nil) (fun p H10 e10 t10 => spm_tab (spm_moved t10 gL))) fun p H10 e10 t10 => by
      rw [hback] at t10
      exact spd_rounds t10 g) (evd_call (ea_cons (ev_var rfl) ea_nil) (spd_rounds t9 g)) (sh_rows _) (plain_can (plain_rows _)))) (fun q => nomatch q) fun _ H10 e10 => ?_
    have w10 := w9.trans e10
    have t10 := tw.mono w10
    have hfl := fixL_len (ns := ns)
    refine q_os (os := (List.range ((fixL ns).map V.int).length).map fun i => HO.lst [.int ((fixL ns).getD i 0)]) (eos_lcNL (fun i => HO.lst [.int ((fixL ns).getD i 0)]) (el_meth (ev_var rfl) ((e9.trans e10) a _ i1) rfl ea_nil (spl_fixed t10 g)) (by rw [List.length_map]; omega) (fun _ => rfl) (fun i x H11 e11 hx => ?_)) fun pf ts H11 hpf e11 hpf11 hts => ?_
    · have hi : i < (fixL ns).length := by have := (List.getElem?_eq_some_iff.mp hx).1; rw [List.length_map] at this; exact this
      have ex : x = .int ((fixL ns).getD i 0) := by
        have := getI hi
        rw [hx] at this
        exact Option.some.inj this
      subst ex
      exact el_lst (ea_cons (ev_var rfl) ea_nil) (by show 1 ≤ 100000; decide)
    · have eos : ((List.range ((fixL ns).map V.int).length).map fun i => HO.lst [.int ((fixL ns).getD i 0)]) = (fixR ns).map fun row => HO.lst (row.map V.int) := by
        unfold fixR
        rw [List.length_map, List.map_map]
        refine List.ext_getElem (by simp) fun i z1 z2 => ?_
        have hi : i < (fixL ns).length := by simpa using z2
        simp [List.getD_eq_getElem?_getD, List.getElem?_eq_getElem hi]
      rw [eos] at hts
      have hrows := news_rows hts
      have w11 := w10.trans e11
      have t11 := tw.mono w11
      have hp11 := ((hp7.mono e8).mono e9).mono (e10.trans e11)
      have dFx : Dp K H11 (.ref pf) (.list ((fixR ns).map dInts)) := .lst (sq_of hpf11) (dp_rows hrows fun u row hu => sq_of hu.2)
      have hRs : SI.RowsR K H11 (ts.map V.ref) (fixR ns) := rowsR_of hrows fun u row hu => sq_of hu.2
      have htl : (ts.map V.ref).length = (fixR ns).length := PySem.W.EachIs.length hRs
      have hfr : (fixR ns).length = (fixL ns).length := by unfold fixR; rw [List.length_map]
      have hgt : ∀ (b1 b2 : Bool), b1 = false → b2 = false → (b1 || b2) = false := by decide
      refine q_when (b := false) (et_is (et_or (a := false) (et_not (a := true) (et_B (ev_is (ev_cbL (el_lcL (fun _ => true) (fun _ => V.bl true) (ev_var rfl) (sq_of hpf11) (by omega) (fun _ => rfl) (fun _ _ _ _ _ => lc_yes) (fun i x H12 e12 hx _ => ?_)) (fun pz H12 e12 hpz => rc_all (bs := List.replicate (fixR ns).length true) (sq_of (by rw [hpz, given_all, htl, List.map_replicate]; congr 2; exact List.ext_getElem (by simp) fun i q1 q2 => by simp)))) (by simp)))) fun _ => et_and (a := !(fixR ns).isEmpty) (b := !decide (V.int (lowA d m) = V.int 0)) (et_is (et_test (evd_neD (evd_ref (ev_var rfl) dFx) (evd_lst evad_nil (by show 0 ≤ 100000; decide)) (sh_rows _) rfl)) (by rw [eqv_nilR])) fun _ => et_test (ev_op (ev_var rfl) ev_c (rv_ne rfl))) ?_) (fun q => nomatch q) fun _ H12 e12 => ?_
      · have hi : i < (fixR ns).length := by have := (List.getElem?_eq_some_iff.mp hx).1; omega
        have hri := List.getElem?_eq_getElem hi
        obtain ⟨u, hu1, hu2⟩ := rowsR_get hRs hri
        rw [hx] at hu1
        obtain rfl := Option.some.inj hu1
        exact ev_is (ev_rowInD (row := (fixR ns)[i]) (rows := ringsL ns) (ev_var rfl) (dp_ints (ex_l e12 hu2)) (evd_call (ea_cons (ev_var rfl) ea_nil) (spd_rounds (t11.mono e12) g))) (congrArg V.bl (decide_eq_true (fixR_ring g (List.mem_of_getElem? hri))))
      · by_cases he : fixL ns = []
        · unfold fixR
          rw [he]
          rfl
        · rw [fix_pace g hpc he]
          simp
      · have w12 := w11.trans e12
        by_cases hA0 : lowA d m = 0
        · refine s_ret (ev_is (ev_orV (a := false) (b := true) (ev_is (ev_op (ev_var rfl) ev_c (rv_ne rfl)) (by rw [hA0]; rfl)) fun _ => ev_is (evd_eqD (evd_call (ea_cons (ev_var rfl) ea_nil) (spd_rounds (t11.mono e12) g)) (evd_ref (ev_var rfl) (dp_mono e12 dFx)) (sh_rows _) (sh_rows _)) ?_) rfl) fun H13 e13 => k H13 (w12.trans e13) (hp11.mono (e12.trans e13))
          unfold rgD
          rw [zero_fix g hpc hA0]
          exact congrArg V.bl (SeqAt.eqv_refl _ (plain_can (plain_rows _)))
        · exact s_ret (ev_is (ev_orV (a := true) (b := true) (ev_is (ev_op (ev_var rfl) ev_c (rv_ne rfl)) (by rw [decide_eq_false (fun z => hA0 (by injection z))]; rfl)) fun q => nomatch q) rfl) fun H13 e13 => k H13 (w12.trans e13) (hp11.mono (e12.trans e13))
end
end K15
end
section
namespace TM
/-! ### a rule that moves all days alike -/
section
variable {s L : Nat}
def sh (s : Nat) : Int → Int := fun x => x + (s : Int)
theorem sh_rule (h1 : 1 ≤ L) (h2 : L ≤ 600) : Rule L (sh s) := ⟨h1, h2, fun x y h => by show x + (s : Int) ≤ y + s; omega, fun x => by show x + (L : Int) + s = x + s + L; omega⟩
theorem it_sh (j : Nat) (x : Int) : it (sh s) j x = x + ((s * j : Nat) : Int) := by
  induction j with
  | zero => rw [Nat.mul_zero]; show x = x + 0; omega
  | succ j ih =>
    show it (sh s) j x + (s : Int) = _
    rw [ih, Nat.mul_succ, Int.natCast_add]
    omega
theorem sh_ret (h1 : 1 ≤ L) (hs : 1 ≤ s) (x : Int) : Ret L (sh s) x (L / Nat.gcd s L) := by
  have hg : 0 < Nat.gcd s L := Nat.gcd_pos_of_pos_right _ h1
  obtain ⟨a, ha⟩ := Nat.gcd_dvd_left s L
  obtain ⟨b, hb⟩ := Nat.gcd_dvd_right s L
  have hd : L / Nat.gcd s L = b := by
    rw [hb] 
    conv => lhs; rw [← hb]
    exact Nat.div_eq_of_eq_mul_right hg hb
  have hco : Nat.gcd b a = 1 := by
    have h := Nat.gcd_mul_left (Nat.gcd s L) a b
    rw [← ha, ← hb] at h
    have h3 : Nat.gcd s L * 1 = Nat.gcd s L * Nat.gcd a b := by rw [Nat.mul_one]; exact h
    rw [Nat.gcd_comm]
    exact (Nat.eq_of_mul_eq_mul_left hg h3).symm
  have hbp : 1 ≤ b := by
    rcases Nat.eq_zero_or_pos b with z | z
    · rw [z, Nat.mul_zero] at hb; omega
    · exact z
  rw [hd]
  refine ⟨hbp, ?_, fun j j1 j2 h => ?_⟩
  · rw [it_sh, show x + ((s * b : Nat) : Int) - x = ((s * b : Nat) : Int) by omega]
    have e : s * b = L * a := by
      calc s * b = Nat.gcd s L * a * b := by rw [← ha]
        _ = Nat.gcd s L * b * a := by rw [Nat.mul_right_comm]
        _ = L * a := by rw [← hb]
    rw [e, Int.natCast_mul]
    exact Int.mul_emod_right _ _
  · rw [it_sh, show x + ((s * j : Nat) : Int) - x = ((s * j : Nat) : Int) by omega] at h
    have h' : L ∣ s * j := Nat.dvd_of_mod_eq_zero (by exact_mod_cast h)
    have h2 : Nat.gcd s L * b ∣ Nat.gcd s L * (a * j) := by
      rw [← hb, ← Nat.mul_assoc, ← ha]
      exact h'
    have h3 : b ∣ a * j := Nat.dvd_of_mul_dvd_mul_left hg h2
    have h4 : b ∣ j := Nat.Coprime.dvd_of_dvd_mul_left hco h3
    have := Nat.le_of_dvd (by omega) h4
    omega
theorem sh_mod (h1 : 1 ≤ L) (j : Nat) (x : Int) : it (sh s) j x % (L : Int) % ((Nat.gcd s L : Nat) : Int) = x % ((Nat.gcd s L : Nat) : Int) := by
  have d1 : ((Nat.gcd s L : Nat) : Int) ∣ (L : Int) := Int.natCast_dvd_natCast.mpr (Nat.gcd_dvd_right s L)
  have d2 : ((Nat.gcd s L : Nat) : Int) ∣ ((s * j : Nat) : Int) := Int.natCast_dvd_natCast.mpr (Nat.dvd_trans (Nat.gcd_dvd_left s L) (Nat.dvd_mul_right _ _))
  rw [Int.emod_emod_of_dvd _ d1, it_sh]
  obtain ⟨c, hc⟩ := d2
  rw [hc]
  exact Int.add_mul_emod_self_left ..
theorem sh_rep (h1 : 1 ≤ L) (h2 : L ≤ 600) (hs : 1 ≤ s) {p : Int} (h0 : 0 ≤ p) (hp : p < ((Nat.gcd s L : Nat) : Int)) : Rep L (sh s) p (L / Nat.gcd s L) := by
  have hgl : Nat.gcd s L ≤ L := Nat.le_of_dvd h1 (Nat.gcd_dvd_right s L)
  refine ⟨h0, by omega, sh_ret h1 hs p, fun j => ?_⟩
  have e := sh_mod (s := s) h1 j p
  have b := place_lt (sh_rule (s := s) h1 h2) (it (sh s) j p)
  rw [Int.emod_eq_of_lt h0 hp] at e
  have hle : it (sh s) j p % (L : Int) % ((Nat.gcd s L : Nat) : Int) ≤ it (sh s) j p % (L : Int) := by
    have q1 := Int.mul_ediv_add_emod (it (sh s) j p % (L : Int)) ((Nat.gcd s L : Nat) : Int)
    have q2 : 0 ≤ ((Nat.gcd s L : Nat) : Int) * (it (sh s) j p % (L : Int) / ((Nat.gcd s L : Nat) : Int)) := Int.mul_nonneg (by omega) (Int.ediv_nonneg b.1 (by omega))
    omega
  omega
/-- all places of a kind are passed -/
theorem sh_all (h1 : 1 ≤ L) (h2 : L ≤ 600) (hs : 1 ≤ s) {p : Int} (h0 : 0 ≤ p) (hp : p < (L : Int)) : ∃ j, p = it (sh s) j (p % ((Nat.gcd s L : Nat) : Int)) % (L : Int) := by
  have hg : 0 < Nat.gcd s L := Nat.gcd_pos_of_pos_right _ h1
  have r := sh_rule (s := s) h1 h2
  have R := sh_ret (s := s) h1 hs (p % ((Nat.gcd s L : Nat) : Int))
  generalize hq : p % ((Nat.gcd s L : Nat) : Int) = q at R
  have hq0 : 0 ≤ q ∧ q < ((Nat.gcd s L : Nat) : Int) := by rw [← hq]; exact ⟨Int.emod_nonneg _ (by omega), Int.emod_lt_of_pos _ (by omega)⟩
  obtain ⟨b, hb⟩ := Nat.gcd_dvd_right s L
  have hM : L / Nat.gcd s L = b := Nat.div_eq_of_eq_mul_right hg hb
  rw [hM] at R
  refine Classical.byContradiction fun hno => ?_
  have kind : ∀ z : Int, 0 ≤ z → z < (L : Int) → z % ((Nat.gcd s L : Nat) : Int) = q → z ∈ (List.range b).map fun (i : Nat) => q + ((Nat.gcd s L : Nat) : Int) * (i : Int) := fun z z0 z1 z2 => by
    have e := Int.mul_ediv_add_emod z ((Nat.gcd s L : Nat) : Int)
    have n0 : 0 ≤ z / ((Nat.gcd s L : Nat) : Int) := Int.ediv_nonneg z0 (by omega)
    have n1 : z / ((Nat.gcd s L : Nat) : Int) < (b : Int) := Int.ediv_lt_of_lt_mul (by omega) (by rw [← Int.natCast_mul, Nat.mul_comm, ← hb]; exact z1)
    refine List.mem_map.mpr ⟨(z / ((Nat.gcd s L : Nat) : Int)).toNat, List.mem_range.mpr (by omega), ?_⟩
    rw [show (((z / ((Nat.gcd s L : Nat) : Int)).toNat : Nat) : Int) = z / ((Nat.gcd s L : Nat) : Int) by omega]
    omega
  have hnd : (p :: (List.range b).map fun j => it (sh s) j q % (L : Int)).Nodup := by
    refine List.nodup_cons.mpr ⟨fun hm => ?_, List.pairwise_map.mpr (List.Pairwise.imp_of_mem ?_ List.pairwise_lt_range)⟩
    · obtain ⟨j, _, hj⟩ := List.mem_map.mp hm
      exact hno ⟨j, hj.symm⟩
    · intro i j hi hj hij
      exact R.apart r hij (List.mem_range.mp hj)
  have := nodup_len hnd (m := (List.range b).map fun (i : Nat) => q + ((Nat.gcd s L : Nat) : Int) * (i : Int)) fun z hz => by
    rcases List.mem_cons.mp hz with e | hz
    · subst e; exact kind z h0 hp hq
    · obtain ⟨j, _, rfl⟩ := List.mem_map.mp hz
      have b' := place_lt r (it (sh s) j q)
      exact kind _ b'.1 b'.2 (by rw [sh_mod h1, Int.emod_eq_of_lt hq0.1 hq0.2])
  rw [List.length_cons, List.length_map, List.length_map, List.length_range] at this
  omega
theorem sh_reps (h1 : 1 ≤ L) (h2 : L ≤ 600) (hs : 1 ≤ s) {p : Int} {m : Nat} (R : Rep L (sh s) p m) : p < ((Nat.gcd s L : Nat) : Int) ∧ m = L / Nat.gcd s L := by
  have hg : 0 < Nat.gcd s L := Nat.gcd_pos_of_pos_right _ h1
  refine ⟨?_, R.ret.uniq (sh_ret h1 hs p)⟩
  obtain ⟨j, hj⟩ := sh_all h1 h2 hs R.lo R.hi
  have a0 : 0 ≤ p % ((Nat.gcd s L : Nat) : Int) := Int.emod_nonneg _ (by omega)
  have a1 : p % ((Nat.gcd s L : Nat) : Int) < ((Nat.gcd s L : Nat) : Int) := Int.emod_lt_of_pos _ (by omega)
  have e := R.uniq (sh_rule (s := s) h1 h2) (sh_rep h1 h2 hs a0 a1) hj
  omega
theorem sh_rings (h1 : 1 ≤ L) (h2 : L ≤ 600) (hs : 1 ≤ s) : rings L (sh s) = (List.range (Nat.gcd s L)).map fun (i : Nat) => lap (sh s) (L / Nat.gcd s L) (i : Int) := by
  have e : reps L (sh s) = (List.range (Nat.gcd s L)).map fun (i : Nat) => (i : Int) := by
    refine asc_ext reps_up (List.pairwise_map.mpr (List.Pairwise.imp (fun h => by omega) List.pairwise_lt_range)) fun k => ?_
    rw [mem_reps, List.mem_map]
    constructor
    · rintro ⟨m, R⟩
      have := (sh_reps h1 h2 hs R).1
      have := R.lo
      exact ⟨k.toNat, List.mem_range.mpr (by omega), by omega⟩
    · rintro ⟨i, hi, rfl⟩
      have := List.mem_range.mp hi
      exact ⟨_, sh_rep h1 h2 hs (by omega) (by omega)⟩
  unfold rings
  rw [e, List.map_map]
  refine List.map_congr_left fun i hi => ?_
  have := List.mem_range.mp hi
  show lap (sh s) (retN L (sh s) (i : Int)) (i : Int) = _
  rw [retN_eq (sh_ret h1 hs (i : Int))]
theorem sh_low (h1 : 1 ≤ L) (h2 : L ≤ 600) (hs : 1 ≤ s) (x : Int) : LowQ L (sh s) x (x % ((Nat.gcd s L : Nat) : Int)) (L / Nat.gcd s L) := by
  obtain ⟨p, m, R, j, hp⟩ := lowQ_ex (sh_rule (s := s) h1 h2) x
  obtain ⟨q1, q2⟩ := sh_reps h1 h2 hs R
  have e : p % ((Nat.gcd s L : Nat) : Int) = x % ((Nat.gcd s L : Nat) : Int) := by
    rw [hp, sh_mod h1]
    have d2 : ((Nat.gcd s L : Nat) : Int) ∣ ((s * L : Nat) : Int) := Int.natCast_dvd_natCast.mpr (Nat.dvd_trans (Nat.gcd_dvd_left s L) (Nat.dvd_mul_right _ _))
    rw [it_sh]
    obtain ⟨c, hc⟩ := d2
    rw [hc]
    exact Int.add_mul_emod_self_left ..
  rw [Int.emod_eq_of_lt R.lo q1] at e
  subst e q2
  exact ⟨R, j, hp⟩
theorem lap_sh {m : Nat} {x : Int} : lap (sh s) m x = (List.range m).map fun (j : Nat) => x + (s : Int) * (j : Int) := by
  unfold lap
  refine List.map_congr_left fun j _ => ?_
  rw [it_sh, Int.natCast_mul]
end
end TM
end
section
set_option maxHeartbeats 4000000
namespace K15
open PySem L2 Evl G TM
def sp_long : Sp := fun vs H Q _ => ∃ p : Addr, vs = [.ref p] ∧ PotAt H p ∧ ∀ H2, Ex (wo H p) H2 → PotAt H2 p → Q (.bl true) H2
section
variable {K : PySem.W.Frag} {σ : L2.St} {H : Hp} {te tb : TE} {D : Ends} {tz : TS} {i j : Nat} {w : V} {M : Hp → Addr → Prop}
theorem q_asgMV (h : EvM te σ H M) (h2 : ∀ H1, Ex H H1 → Ev tb σ H1 w) (hM : ∀ p H1 H2, Ex H1 H2 → M H1 p → M H2 p) (k : ∀ p H1, H p = none → Ex H H1 → M H1 p → tz D ((σ.set i (some (.ref p))).set j (some w)) H1) :
    tSeq (tAsg (tTup (tCons te (tCons tb tNil))) (gTup K 2 (gCons (gName i) (gCons (gName j) gNil)))) tz D σ H := h H (Ex.refl H) _ fun p H1 hp e1 hm => (h2 H1 e1) H1 (Ex.refl _) _ fun H2 e2 =>
  ⟨sz_of (by show 2 ≤ 100000; decide), fun u hu => ⟨u, [.ref p, w], rfl, st_of upd_same, rfl, _, _, rfl, _, _, rfl, rfl, k p _ hp ((e1.trans e2).trans (Ex.new hu)) (hM p H1 _ (e2.trans (Ex.new hu)) hm)⟩⟩
end
def lgs (s : Nat) : List Int := listF 600 (sh s)
theorem lgs_on (s : Nat) : onL (lgs s) = sh s := funext fun z => (sh_rule (s := s) (L := 600) (by decide) (by decide)).on z
theorem lgs_len (s : Nat) : (lgs s).length = 600 := listF_len ..
theorem lgs_good (s : Nat) : Good (lgs s) := (sh_rule (s := s) (L := 600) (by decide) (by decide)).good
theorem lgs_sm {s : Nat} (h : s ≤ 600) : Sm (lgs s) := fun i hi => by
  rw [← on_first (lgs_good s) hi, lgs_on]
  rw [lgs_len] at hi
  show -10000 ≤ (i : Int) + (s : Int) ∧ (i : Int) + (s : Int) ≤ 10000
  omega
theorem lgs_rings {s : Nat} (h : 1 ≤ s) : ringsL (lgs s) = (List.range (Nat.gcd s 600)).map fun (i : Nat) => lap (sh s) (600 / Nat.gcd s 600) (i : Int) := by
  unfold ringsL
  rw [lgs_on, lgs_len]
  exact sh_rings (by decide) (by decide) h
theorem lgs_low {s : Nat} (h : 1 ≤ s) (x : Int) : LowP (lgs s) x (x % ((Nat.gcd s 600 : Nat) : Int)) (600 / Nat.gcd s 600) := by
  show LowQ (lgs s).length (onL (lgs s)) _ _ _
  rw [lgs_on, lgs_len]
  exact sh_low (by decide) (by decide) h x
theorem lgs_pc {s : Nat} (h : 1 ≤ s) : Pc (lgs s) ((s : Int) * 600) 600 := by
  refine ⟨by decide, ⟨(s : Int), by rw [lgs_len]; rfl⟩, 0, ?_⟩
  rw [lgs_on, it_sh, Int.natCast_mul]
  rfl
theorem lgs_pace {s : Nat} (h : 1 ≤ s) : lowA ((s : Int) * 600) 600 = (s : Int) ∧ lowB ((s : Int) * 600) 600 = 1 := by
  have e : Nat.gcd ((s : Int) * 600).natAbs 600 = 600 := by
    rw [show ((s : Int) * 600).natAbs = s * 600 by omega]
    exact Nat.gcd_mul_left_left _ _
  unfold lowA lowB
  rw [e]
  omega
section
variable {P : Program} {w : World} {K : PySem.W.Frag} {mg : Str → Option Value} {base : Heap} {C : Addr}
theorem ok_long {f f1 f2 f3 f4 f5 f6 : Addr} {fd fd1 fd2 fd3 fd4 fd5 fd6 : FuncData} (F : Fun K "_law_long_right" "_law_long_right" s__law_long_right f fd) (T : Txt K mg C) (mkI : Mk K C f6) (c__law_pick : Cal P w K mg base "_law_pick" f1 fd1 ["_law_pot_here", "_law_some"] 2 (sp_pick K)) (c_rounds : Cal P w K mg base "rounds" f2 fd2 ["table"] 8 (sp_rounds K C)) (c_pace : Cal P w K mg base "pace" f3 fd3 ["table"] 10 (sp_pace K C)) (c__law_draw : Cal P w K mg base "_law_draw" f4 fd4 ["_law_pot_here", "_law_size"] 1 sp_draw) (c_round_of : Cal P w K mg base "round_of" f5 fd5 ["table", "day"] 9 (sp_rof K C)) (m_init : Ini P w K mg base C f6 fd6) :
    FnG P w K mg base CX0 11 f fd ["_law_pot_here"] sp_long := by
  refine okG F sc__law_long_right (fun vs H Q E h => ?_) (fun cdv A outer s H vs Q E hg hr h => ?_)
  · obtain ⟨p, rfl, _⟩ := h
    rfl
  · obtain ⟨pp, rfl, hpot, k⟩ := h
    have hu := hr.units
    refine ⟨_, (pss_cons (ps_set (i := 1) sc__law_long_right.nd rfl (Or.inr rfl) (pe_call c__law_pick.ok (hr.mono (by decide)) (by rfl) c__law_pick.mgx c__law_pick.kp c__law_pick.bd .nil pass0 (pa_cons (pv 0) (pa_cons (pe_lst (pa_cons pe_int (pa_cons pe_int (pa_cons pe_int (pa_cons pe_int (pa_cons pe_int (pa_cons pe_int pa_nil))))))) pa_nil)))) (pss_cons (ps_asg (pe_tup (pa_cons (pe_make mkI m_init.ok (hr.mono (by decide)) (by rfl) T.mg_Table m_init.bd .nil pass0 (pa_cons (pe_lc (own := [("_law_place_here", 6)]) (g := (gName 6)) (by rfl) sc__law_long_right.nd (pi_range1 (by rfl) T.b_range (pa_cons pe_int pa_nil)) (blkOk_by (own := [("_law_place_here", 6)]) (N := ["_law_pot_here", "_law_step", "_law_table", "_law_many", "_law_due", "_law_day", "_law_place_here", "_law_first", "_law_at"]) (sc := defScope s__law_long_right) (by decide +kernel)) (fun _ _ _ _ _ => (pg_name (i := 6) sc__law_long_right.nd rfl (Or.inl rfl))) (fun _ _ _ _ _ => pts_nil) (fun _ _ _ _ _ => (pe_op op_add (pv 6) (pv 1)))) pa_nil)) (pa_cons pe_int pa_nil))) (pg_tup (by rfl) (pgs_cons (pg_name (i := 2) sc__law_long_right.nd rfl (Or.inl rfl)) (pgs_cons (pg_name (i := 3) sc__law_long_right.nd rfl (Or.inr rfl)) pgs_nil)))) (pss_cons (ps_while PassesOwn.never (PW.pt (pw_or (pt_cmpR op_ne (pe_op op_mul (pe_op op_fdivN (pv 1) (pv 3)) (pv 3)) (pv 1) (nomark _)) (pw_or1 (pt_cmpR op_ne (pe_op op_mul (pe_op op_fdivN pe_int (pv 3)) (pv 3)) pe_int (nomark _))))) (pss_one (ps_set (i := 3) sc__law_long_right.nd rfl (Or.inr rfl) (pe_op op_sub (pv 3) pe_int)))) (pss_cons (ps_setLc (i := 4) (own := [("_law_first", 7)]) (g := (gName 7)) (by rfl) sc__law_long_right.nd rfl rfl (sw_true rfl rfl rfl (by decide +kernel)) (pi_range1 (by rfl) T.b_range (pa_cons (pv 3) pa_nil)) (blkOk_by (own := [("_law_first", 7)]) (N := ["_law_pot_here", "_law_step", "_law_table", "_law_many", "_law_due", "_law_day", "_law_place_here", "_law_first", "_law_at"]) (sc := defScope s__law_long_right) (by decide +kernel)) (fun _ _ _ _ _ => (pg_name (i := 7) sc__law_long_right.nd rfl (Or.inr rfl))) (fun _ _ _ _ _ => pts_nil) (fun _ _ _ _ _ => (by exact (pe_lc (own := [("_law_at", 8)]) (g := (gName 8)) (by rfl) sc__law_long_right.nd (pi_range1 (by rfl) T.b_range (pa_cons (pe_op op_fdivN pe_int (pv 3)) pa_nil)) (blkOk_by (own := [("_law_at", 8)]) (by rfl)) (fun _ _ _ _ _ => (pg_name (i := 8) sc__law_long_right.nd rfl (Or.inl rfl))) (fun _ _ _ _ _ => pts_nil) (fun _ _ _ _ _ => (pe_op op_add (pv 7) (pe_op op_mul (pv 1) (pv 8)))))))) (pss_cons (ps_if (PW.pt (pw_or (pt_cmpR op_ne (pe_callB (call_reprD hg hu) (by rfl) T.b_repr (by decide +kernel) (pa_cons (pe_call c_rounds.ok (hr.mono (by decide)) (by rfl) c_rounds.mgx c_rounds.kp c_rounds.bd .nil pass0 (pa_cons (pv 2) pa_nil)) pa_nil)) (pe_callB (call_reprD hg hu) (by rfl) T.b_repr (by decide +kernel) (pa_cons (pv 4) pa_nil)) (nomark _)) (pw_or1 (pt_cmpR (neD (K := K) rfl hr.units) (pe_call c_pace.ok (hr.mono (by decide)) (by rfl) c_pace.mgx c_pace.kp c_pace.bd .nil pass0 (pa_cons (pv 2) pa_nil)) (pe_tup (pa_cons (pv 1) (pa_cons pe_int pa_nil))) (nomark _))))) (pss_one (ps_ret pe_bl)) pss_nil) (pss_cons (ps_set (i := 5) sc__law_long_right.nd rfl (Or.inl rfl) (pe_op op_sub (pe_call c__law_draw.ok (hr.mono (by decide)) (by rfl) c__law_draw.mgx c__law_draw.kp c__law_draw.bd .nil pass0 (pa_cons (pv 0) (pa_cons pe_int pa_nil))) pe_int)) (pss_one (ps_ret (pe_cmpR op_eq (pe_callB (call_reprD hg hu) (by rfl) T.b_repr (by decide +kernel) (pa_cons (pe_call c_round_of.ok (hr.mono (by decide)) (by rfl) c_round_of.mgx c_round_of.kp c_round_of.bd .nil pass0 (pa_cons (pv 2) (pa_cons (pv 5) pa_nil))) pa_nil)) (pe_callB (call_reprD hg hu) (by rfl) T.b_repr (by decide +kernel) (pa_cons (pe_ix (ixL (K := K) rfl) (pv 4) (pe_op op_sub (pv 5) (pe_op op_mul (pe_op op_fdivN (pv 5) (pv 3)) (pv 3))) (fun _ _ => rfl)) pa_nil)) (nomark _)))))))))), ?_⟩
    refine q_pick hpot rfl (ea_cons ev_c (ea_cons ev_c (ea_cons ev_c (ea_cons ev_c (ea_cons ev_c (ea_cons ev_c ea_nil)))))) (by show 0 < 6; decide) (by show 6 ≤ 1000; decide) fun j v H1 hj e1 hp1 => ?_
    have hv : ∃ s : Nat, v = .int (s : Int) ∧ 1 ≤ s ∧ s ≤ 600 := by
      match j, hj with
      | 0, hj => exact ⟨1, (Option.some.inj hj).symm, by decide, by decide⟩
      | 1, hj => exact ⟨7, (Option.some.inj hj).symm, by decide, by decide⟩
      | 2, hj => exact ⟨4, (Option.some.inj hj).symm, by decide, by decide⟩
      | 3, hj => exact ⟨25, (Option.some.inj hj).symm, by decide, by decide⟩
      | 4, hj => exact ⟨600, (Option.some.inj hj).symm, by decide, by decide⟩
      | 5, hj => exact ⟨90, (Option.some.inj hj).symm, by decide, by decide⟩
      | n + 6, hj => exact absurd hj (by simp)
    obtain ⟨st, rfl, s1, s2⟩ := hv
    have g := lgs_good st
    have sm := lgs_sm s2
    have r := on_rule g
    have hG1 : 1 ≤ Nat.gcd st 600 := Nat.gcd_pos_of_pos_right _ (by decide)
    have hG2 : Nat.gcd st 600 ≤ 600 := Nat.le_of_dvd (by decide) (Nat.gcd_dvd_right _ _)
    generalize hGG : Nat.gcd st 600 = G at hG1 hG2
    refine q_asgMV (w := .int 600) ((evm_makeL (K := K) (C := C) (ns := lgs st) (by
      show EvL _ _ _ ((listF 600 (sh st)).map V.int)
      rw [← given_F (n := 600)]
      exact el_lcR1 (n := 600) (fun _ => true) (fun i => V.int (sh st (i : Int))) (ea_cons ev_c ea_nil) (by decide) (fun _ => rfl) (fun _ _ _ _ => lc_yes) (fun i H2 e2 _ _ => ev_op (ev_var rfl) (ev_var rfl) rv_I0)) g)) (fun H2 _ => ev_c) (fun p H2 H3 e t => t.mono e) fun ta H2 hta e2 t2n => ?_
    have t2 : Tab K C H2 ta (lgs st) := t2n.tab
    have w2 : Ex (wo H pp) (wo H2 pp) := (wo_sub e1).trans (wo_mono e2)
    refine q_while (fun m σ' H' => ∃ c : Nat, m = c ∧ G ≤ c ∧ c ≤ 600 ∧ (∀ c', c < c' → c' ≤ 600 → ¬ (c' ∣ st ∧ c' ∣ 600)) ∧ Ex H2 H' ∧ σ' = [some (.ref pp), some (.int (st : Int)), some (.ref ta), some (.int (c : Int)), none, none, none, none, none]) 600 ⟨600, rfl, hG2, Nat.le_refl _, fun c' h1 h2 => by omega, Ex.refl _, rfl⟩ ?_
    rintro c σ' H' ⟨c', rfl, c1, c2, hc, eH, rfl⟩
    have hc0 : 0 < c := by omega
    have hdv : ∀ z : Nat, (decide (V.int ((z : Int).fdiv (c : Int) * (c : Int)) = V.int (z : Int)) = true) ↔ c ∣ z := fun z => by
      rw [decide_eq_true_iff, Int.fdiv_eq_ediv_of_nonneg _ (by omega)]
      constructor
      · intro h
        injection h with h
        refine ⟨z / c, ?_⟩
        have : z / c * c = z := by exact_mod_cast h
        rw [Nat.mul_comm]; exact this.symm
      · intro h
        have := Nat.div_mul_cancel h
        congr 1
        exact_mod_cast this
    refine ⟨(!decide (V.int ((st : Int).fdiv (c : Int) * (c : Int)) = V.int (st : Int)) || !decide (V.int (((600 : Nat) : Int).fdiv (c : Int) * (c : Int)) = V.int ((600 : Nat) : Int))), et_or (et_test (ev_op (ev_op (ev_op (ev_var rfl) (ev_var rfl) (rv_I ⟨by omega, by omega⟩)) (ev_var rfl) (rv_I (.inr ⟨by omega, by omega⟩))) (ev_var rfl) (rv_ne rfl))) (fun _ => et_test (ev_op (ev_op (ev_op ev_c (ev_var rfl) (rv_I ⟨by omega, by omega⟩)) (ev_var rfl) (rv_I (.inr ⟨by omega, by omega⟩))) ev_c (rv_ne rfl))), fun hb H3 e3 => ?_, fun hb H3 e3 => ?_⟩
    · have hnd : ¬ (c ∣ st ∧ c ∣ 600) := fun ⟨q1, q2⟩ => by
        rw [(hdv st).mpr q1, (hdv 600).mpr q2] at hb
        cases hb
      have hcG : c ≠ G := fun z => hnd (by rw [z, ← hGG]; exact ⟨Nat.gcd_dvd_left _ _, Nat.gcd_dvd_right _ _⟩)
      refine ⟨fun σ2 H4 => Ex H2 H4 ∧ σ2 = [some (.ref pp), some (.int (st : Int)), some (.ref ta), some (.int ((c - 1 : Nat) : Int)), none, none, none, none, none], fun σ2 H4 ⟨q1, q2⟩ => ⟨c - 1, by omega, c - 1, rfl, by omega, by omega, fun c' z1 z2 => ?_, q1, q2⟩, ?_⟩
      · by_cases e : c' = c
        · subst e; exact hnd
        · exact hc c' (by omega) z2
      · exact s_asg (v := .int ((c - 1 : Nat) : Int)) (ev_is (ev_op (ev_var rfl) ev_c rv_I0) (by congr 1; omega)) fun H4 e4 => ⟨(eH.trans e3).trans e4, rfl⟩
    · have hd1 : c ∣ st := by
        refine (hdv st).mp ?_
        cases q : decide (V.int ((st : Int).fdiv (c : Int) * (c : Int)) = V.int (st : Int)) with
        | true => rfl
        | false => rw [q] at hb; simp at hb
      have hd2 : c ∣ 600 := by
        refine (hdv 600).mp ?_
        cases q : decide (V.int (((600 : Nat) : Int).fdiv (c : Int) * (c : Int)) = V.int ((600 : Nat) : Int)) with
        | true => rfl
        | false => rw [q] at hb; simp at hb
      have hcG : c = G := by
        have := Nat.le_of_dvd (by omega) (Nat.dvd_gcd hd1 hd2)
        omega
      subst hcG
      have hrg := lgs_rings s1
      rw [hGG] at hrg
      have hM : 600 / c ≤ 600 := Nat.div_le_self _ _
      generalize hMq : 600 / c = M at hrg hM
      have e23 := eH.trans e3
      refine q_os (os := (List.range ((c : Int)).toNat).map fun (i : Nat) => HO.lst ((lap (sh st) M (i : Int)).map V.int)) (eos_lcR (fun (i : Nat) => HO.lst ((lap (sh st) M (i : Int)).map V.int)) (ea_cons (ev_var rfl) ea_nil) (by omega) (fun _ => rfl) (fun i H4 e4 hi => ?_)) fun du ts H4 hdu e4 hdu4 hts => ?_
      · refine el_is (el_lcR1 (n := (M : Int)) (fun _ => true) (fun (j : Nat) => V.int ((i : Int) + (st : Int) * (j : Int))) (ea_cons (ev_is (ev_op ev_c (ev_var rfl) (rv_I ⟨by omega, by omega⟩)) (by rw [Int.fdiv_eq_ediv_of_nonneg _ (by omega), ← hMq]; rfl)) ea_nil) (by omega) (fun _ => rfl) (fun _ _ _ _ => lc_yes) (fun j H5 e5 _ _ => ev_op (ev_var rfl) (ev_op (ev_var rfl) (ev_var rfl) (rv_I (.inl ⟨by omega, by omega⟩))) rv_I0)) ?_
        rw [given_all, Int.toNat_natCast, lap_sh, List.map_map]
        rfl
      · have eos : ((List.range ((c : Int)).toNat).map fun (i : Nat) => HO.lst ((lap (sh st) M (i : Int)).map V.int)) = (ringsL (lgs st)).map fun row => HO.lst (row.map V.int) := by
          rw [hrg, Int.toNat_natCast, List.map_map]
          rfl
        rw [eos] at hts
        have hrows := news_rows hts
        have t4 := t2.mono (e23.trans e4)
        have dDu : Dp K H4 (.ref du) (rgD (lgs st)) := .lst (sq_of hdu4) (dp_rows hrows fun u row hu => sq_of hu.2)
        obtain ⟨w1, w2', w3⟩ := fit_rows (rings_len g) fun row hrow => ring_sm g sm hrow
        obtain ⟨pa, pb⟩ := lgs_pace s1
        refine q_when (b := false) (et_or (a := false) (b := false) (et_is (et_test (ev_op (ev_repr (evd_call (ea_cons (ev_var rfl) ea_nil) (spd_rounds t4 g)) w1 w2' w3) (ev_repr (evd_ref (ev_var rfl) dDu) w1 w2' w3) (rv_ne rfl))) (congrArg not (decide_eq_true (show _ = _ from rfl)))) fun _ => et_test (ev_neD (d := pcD ((st : Int) * 600) 600) (evd_u (eu_call (ea_cons (ev_var rfl) ea_nil) (spu_pace t4 g (lgs_pc s1))) fun H5 _ => .cons (.int _) (.cons (.int _) .nil)) (evd_is (evd_u (xs := [.int (st : Int), .int 1]) (ds := [.int (st : Int), .int 1]) (eu_tup (ea_cons (ev_var rfl) (ea_cons ev_c ea_nil)) (by show 2 ≤ 100000; decide)) fun H5 _ => .cons (.int _) (.cons (.int _) .nil)) (by unfold pcD; rw [pa, pb]; rfl)) (sh_pc _ _) (plain_can (d := pcD ((st : Int) * 600) 600) rfl))) (fun q => nomatch q) fun _ H5 e5 => ?_
        have e25 := e23.trans (e4.trans e5)
        refine asg_k (op_k (drawC (n := 5000) ((hp1.mono e2).mono e25) rfl ev_c (by decide) (by decide) fun dd H6 dd0 dd1 e6 hp6 => ?_))
        refine (ev_c (v := .int 2500)) H6 (Ex.refl _) _ fun H7 e7 => ?_
        refine rv_I0 H7 (Ex.refl _) _ fun H8 e8 => ?_
        generalize dd - 2500 = day
        have x8 : Ex (wo H5 pp) H8 := (e6.trans e7).trans e8
        have tnew : Tab K C H8 ta (lgs st) := ((Tw.of hp1 hta (t2n.mono e25)).exw x8).tab
        have hp8 := (hp6.mono e7).mono e8
        have w8 : Ex (wo H pp) H8 := (w2.trans (wo_mono e25)).trans x8
        obtain ⟨o3, ho3⟩ := ((hp1.mono e2).mono e23).some
        have hdupp : du ≠ pp := (ne_of_none ho3 hdu).symm
        have hdu8 : H8 du = some (.lst (ts.map V.ref)) := x8 du _ (by rw [wo_ne hdupp]; exact e5 du _ hdu4)
        have lo := lgs_low s1 day
        rw [hGG, hMq] at lo
        have y0 : 0 ≤ day % (c : Int) := Int.emod_nonneg _ (by omega)
        have y1 : day % (c : Int) < (c : Int) := Int.emod_lt_of_pos _ (by omega)
        obtain ⟨i, hi⟩ : ∃ i : Nat, day % (c : Int) = (i : Int) := ⟨(day % (c : Int)).toNat, by omega⟩
        have hic : i < c := by omega
        have hri : (ringsL (lgs st))[i]? = some (lap (sh st) M (i : Int)) := by
          rw [hrg, List.getElem?_map, List.getElem?_range hic]
          rfl
        have hRs : SI.RowsR K H8 (ts.map V.ref) (ringsL (lgs st)) := rowsR_of hrows fun u row hu => sq_of (x8 u _ (by
          rw [wo_ne (ne_of_none ho3 hu.1.1).symm]
          exact e5 u _ hu.2))
        obtain ⟨u, hu1, hu2⟩ := rowsR_get hRs hri
        obtain ⟨z1, z2⟩ := ring_sm g sm (List.mem_of_getElem? hri)
        obtain ⟨v1, v2, v3⟩ := fit_ints z1 z2
        rw [hi] at lo
        have hrof : SpL (sp_rof K C) ([.ref ta, .int day] ++ []) H8 ((lap (sh st) M (i : Int)).map V.int) := by
          have := spl_rof tnew g lo
          rwa [lgs_on] at this
        refine s_ret (ev_is (ev_op (ev_repr (evd_ints (el_call (ea_cons (ev_var rfl) (ea_cons (ev_var rfl) ea_nil)) hrof)) v1 v2 v3) (ev_repr (evd_ref (ev_op (ev_var rfl) (ev_is (ev_op (ev_var rfl) (ev_op (ev_op (ev_var rfl) (ev_var rfl) (rv_I ⟨by omega, by omega⟩)) (ev_var rfl) (rv_I (.inr ⟨by omega, by omega⟩))) rv_I0) ?_) (rv_ixL (sq_of hdu8) (atI_nat hu1))) (dp_ints hu2)) v1 v2 v3) (rv_eq rfl)) (congrArg V.bl (decide_eq_true (show _ = _ from rfl)))) fun H9 e9 => k H9 (w8.trans e9) (hp8.mono e9)
        rw [← hi, Int.fdiv_eq_ediv_of_nonneg _ (by omega), Int.emod_def, Int.mul_comm]
end
end K15
end
section
set_option maxHeartbeats 4000000
namespace K15
open PySem L2 Evl G TM
theorem Tw.wtab {K : PySem.W.Frag} {C p x : Addr} {H : Hp} {ns : List Int} (t : Tw C H p x ns) : Tab K C (wo H p) x ns := by
  obtain ⟨dx, l, h1, h2, h3, h4⟩ := t
  exact ⟨dx, l, by rw [wo_ne h1]; exact h3, sq_of (by rw [wo_ne h2]; exact h4)⟩
theorem add_rule {n : Nat} (h1 : 1 ≤ n) (h2 : n ≤ 600) (d : Int) : Rule n (fun x => x + d) := ⟨h1, h2, fun x y h => by show x + d ≤ y + d; omega, fun x => by show x + (n : Int) + d = x + d + n; omega⟩
section
variable {K : PySem.W.Frag} {σ : L2.St} {H : Hp} {ta tb : TE} {Q : VK}
theorem ifs_k {D : Ends} {t : TT} {tu tw : TS} (h : t σ H fun b H1 => if b = true then tu D σ H1 else tw D σ H1) : tIfS t tu tw D σ H := h
theorem orV_k (h : ta σ H fun x H1 => ∃ c, x = .bl c ∧ if c = true then Q (.bl true) H1 else tb σ H1 Q) : tOrV ta tb σ H Q := h
end
section
variable {P : Program} {w : World} {K : PySem.W.Frag} {mg : Str → Option Value} {base : Heap} {C : Addr}
theorem ok_right {f f1 f2 f3 f4 f5 f6 f7 f8 f9 : Addr} {fd fd1 fd2 fd3 fd4 fd5 fd6 fd7 fd8 fd9 : FuncData} (F : Fun K "_law_right" "_law_right" s__law_right f fd) (T : Txt K mg C) (mkI : Mk K C f9) (c__law_pick : Cal P w K mg base "_law_pick" f1 fd1 ["_law_pot_here", "_law_some"] 2 (sp_pick K)) (c__law_draw : Cal P w K mg base "_law_draw" f2 fd2 ["_law_pot_here", "_law_size"] 1 sp_draw) (c__law_days : Cal P w K mg base "_law_days" f3 fd3 ["_law_pot_here", "_law_length", "_law_first"] 3 sp_ldays) (c__law_rounds_right : CalG P w K mg base "_law_rounds_right" f4 fd4 ["_law_table", "_law_days_here"] 11 (sp_rr K C)) (c__law_others_right : Cal P w K mg base "_law_others_right" f5 fd5 ["_law_pot_here", "_law_table", "_law_days_here"] 11 (sp_or K C)) (c__law_day_right : CalG P w K mg base "_law_day_right" f6 fd6 ["_law_pot_here", "_law_table", "_law_days_here", "_law_day"] 11 (sp_dr K C)) (m_days : Met P w K mg base C "days" f7 fd7 ["self"] 1 (sp_days K C)) (c__law_long_right : CalG P w K mg base "_law_long_right" f8 fd8 ["_law_pot_here"] 11 sp_long) (m_init : Ini P w K mg base C f9 fd9) :
    FnG P w K mg base CX0 12 f fd ["_law_pot_here"] sp_long := by
  refine okG F sc__law_right (fun vs H Q E h => ?_) (fun cdv A outer s H vs Q E hg hr h => ?_)
  · obtain ⟨p, rfl, _⟩ := h
    rfl
  · obtain ⟨pp, rfl, hpot, k⟩ := h
    have hu := hr.units
    refine ⟨_, (pss_cons (ps_set (i := 1) sc__law_right.nd rfl (Or.inl rfl) (pe_call c__law_pick.ok (hr.mono (by decide)) (by rfl) c__law_pick.mgx c__law_pick.kp c__law_pick.bd .nil pass0 (pa_cons (pv 0) (pa_cons (pe_lst (pa_cons pe_int (pa_cons pe_int (pa_cons pe_int (pa_cons pe_int (pa_cons pe_int (pa_cons pe_int (pa_cons pe_int (pa_cons pe_int (pa_cons pe_int (pa_cons pe_int pa_nil))))))))))) pa_nil)))) (pss_cons (ps_set (i := 2) sc__law_right.nd rfl (Or.inr rfl) (pe_call c__law_pick.ok (hr.mono (by decide)) (by rfl) c__law_pick.mgx c__law_pick.kp c__law_pick.bd .nil pass0 (pa_cons (pv 0) (pa_cons (pe_lst (pa_cons pe_int (pa_cons pe_int (pa_cons pe_int (pa_cons (pe_un un_neg pe_int) (pa_cons (pe_un un_neg pe_int) (pa_cons (pv 1) (pa_cons (pe_op op_sub pe_int (pv 1)) (pa_cons (pe_op op_add (pe_op op_mul pe_int (pv 1)) pe_int) (pa_cons (pe_op op_sub (pe_call c__law_draw.ok (hr.mono (by decide)) (by rfl) c__law_draw.mgx c__law_draw.kp c__law_draw.bd .nil pass0 (pa_cons (pv 0) (pa_cons pe_int pa_nil))) pe_int) pa_nil)))))))))) pa_nil)))) (pss_cons (ps_set (i := 3) sc__law_right.nd rfl (Or.inr rfl) (pe_call c__law_days.ok (hr.mono (by decide)) (by rfl) c__law_days.mgx c__law_days.kp c__law_days.bd .nil pass0 (pa_cons (pv 0) (pa_cons (pv 1) (pa_cons (pv 2) pa_nil))))) (pss_cut (ps_if (pt_cmpR op_eq (pe_call c__law_draw.ok (hr.mono (by decide)) (by rfl) c__law_draw.mgx c__law_draw.kp c__law_draw.bd .nil pass0 (pa_cons (pv 0) (pa_cons pe_int pa_nil))) pe_int (nomark _)) (pss_one (ps_set (i := 3) sc__law_right.nd rfl (Or.inr rfl) (pe_lc (own := [("_law_day", 6)]) (g := (gName 6)) (by rfl) sc__law_right.nd (pi_range1 (by rfl) T.b_range (pa_cons (pv 1) pa_nil)) (blkOk_by (own := [("_law_day", 6)]) (N := ["_law_pot_here", "_law_length", "_law_first", "_law_days_here", "_law_table", "_law_some", "_law_day"]) (sc := defScope s__law_right) (by decide +kernel)) (fun _ _ _ _ _ => (pg_name (i := 6) sc__law_right.nd rfl (Or.inl rfl))) (fun _ _ _ _ _ => pts_nil) (fun _ _ _ _ _ => (pe_op op_add (pv 6) (pv 2)))))) pss_nil) (pss_cons (ps_set (i := 4) sc__law_right.nd rfl (Or.inr rfl) (pe_make mkI m_init.ok (hr.mono (by decide)) (by rfl) T.mg_Table m_init.bd .nil pass0 (pa_cons (pv 3) pa_nil))) (pss_cons (ps_if (PW.pt (pw_or (pt_not (pt_val (pe_callG c__law_rounds_right.ok hg (hr.mono (by decide)) (by rfl) c__law_rounds_right.mgx c__law_rounds_right.kp c__law_rounds_right.bd .nil pass0 (pa_cons (pv 4) (pa_cons (pv 3) pa_nil))))) (pw_or1 (pt_not (pt_val (pe_call c__law_others_right.ok (hr.mono (by decide)) (by rfl) c__law_others_right.mgx c__law_others_right.kp c__law_others_right.bd .nil pass0 (pa_cons (pv 0) (pa_cons (pv 4) (pa_cons (pv 3) pa_nil))))))))) (pss_one (ps_ret pe_bl)) pss_nil) (pss_cons (ps_set (i := 5) sc__law_right.nd rfl (Or.inl rfl) (pe_lst (pa_cons pe_int (pa_cons (pe_op op_sub (pv 1) pe_int) (pa_cons (pe_un un_neg pe_int) (pa_cons (pe_op op_sub (pe_call c__law_draw.ok (hr.mono (by decide)) (by rfl) c__law_draw.mgx c__law_draw.kp c__law_draw.bd .nil pass0 (pa_cons (pv 0) (pa_cons pe_int pa_nil))) pe_int) (pa_cons (pe_call c__law_pick.ok (hr.mono (by decide)) (by rfl) c__law_pick.mgx c__law_pick.kp c__law_pick.bd .nil pass0 (pa_cons (pv 0) (pa_cons (pe_lst (pa_cons (pe_op op_pow pe_int pe_int) (pa_cons (pe_op op_sub pe_int (pe_op op_pow pe_int pe_int)) pa_nil))) pa_nil))) pa_nil))))))) (pss_cons (ps_if (PW.pt (pw_or (pt_not (pt_val (pe_callB (allL (K := K) rfl rfl) (by rfl) T.b_all (by decide +kernel) (pa_cons (pe_lc (own := [("_law_day", 6)]) (g := (gName 6)) (by rfl) sc__law_right.nd (piL (K := K) rfl (pv 5)) (blkOk_by (own := [("_law_day", 6)]) (N := ["_law_pot_here", "_law_length", "_law_first", "_law_days_here", "_law_table", "_law_some", "_law_day"]) (sc := defScope s__law_right) (by decide +kernel)) (fun _ _ _ _ _ => (pg_name (i := 6) sc__law_right.nd rfl (Or.inl rfl))) (fun _ _ _ _ _ => pts_nil) (fun _ _ _ _ _ => (pe_callG c__law_day_right.ok hg (hr.mono (by decide)) (by rfl) c__law_day_right.mgx c__law_day_right.kp c__law_day_right.bd .nil pass0 (pa_cons (pv 0) (pa_cons (pv 4) (pa_cons (pv 3) (pa_cons (pv 6) pa_nil))))))) pa_nil)))) (pw_or1 (pt_cmpR (neD (K := K) rfl hr.units) (pe_meth0 (pv 4) T.cl m_days.me m_days.ok (hr.mono (by decide)) m_days.bd .nil pass0) (pv 3) (nomark _))))) (pss_one (ps_ret pe_bl)) pss_nil) (pss_one (ps_ret (pe_or (pe_cmpR op_gt (pe_call c__law_draw.ok (hr.mono (by decide)) (by rfl) c__law_draw.mgx c__law_draw.kp c__law_draw.bd .nil pass0 (pa_cons (pv 0) (pa_cons pe_int pa_nil))) pe_int (nomark _)) (pe_one (pe_callG c__law_long_right.ok hg (hr.mono (by decide)) (by rfl) c__law_long_right.mgx c__law_long_right.kp c__law_long_right.bd .nil pass0 (pa_cons (pv 0) pa_nil)))))))))))))), ?_⟩
    refine q_pick hpot rfl (ea_cons ev_c (ea_cons ev_c (ea_cons ev_c (ea_cons ev_c (ea_cons ev_c (ea_cons ev_c (ea_cons ev_c (ea_cons ev_c (ea_cons ev_c (ea_cons ev_c ea_nil)))))))))) (by show 0 < 10; decide) (by show 10 ≤ 1000; decide) fun j v H1 hj e1 hp1 => ?_
    have hv : ∃ n : Nat, v = .int (n : Int) ∧ 1 ≤ n ∧ n ≤ 24 := by
      match j, hj with
      | 0, hj => exact ⟨1, (Option.some.inj hj).symm, by decide, by decide⟩
      | 1, hj => exact ⟨2, (Option.some.inj hj).symm, by decide, by decide⟩
      | 2, hj => exact ⟨3, (Option.some.inj hj).symm, by decide, by decide⟩
      | 3, hj => exact ⟨4, (Option.some.inj hj).symm, by decide, by decide⟩
      | 4, hj => exact ⟨5, (Option.some.inj hj).symm, by decide, by decide⟩
      | 5, hj => exact ⟨6, (Option.some.inj hj).symm, by decide, by decide⟩
      | 6, hj => exact ⟨8, (Option.some.inj hj).symm, by decide, by decide⟩
      | 7, hj => exact ⟨9, (Option.some.inj hj).symm, by decide, by decide⟩
      | 8, hj => exact ⟨12, (Option.some.inj hj).symm, by decide, by decide⟩
      | 9, hj => exact ⟨24, (Option.some.inj hj).symm, by decide, by decide⟩
      | n + 10, hj => exact absurd hj (by simp)
    obtain ⟨n, rfl, n1, n2⟩ := hv
    have w1 : Ex (wo H pp) (wo H1 pp) := wo_sub e1
    refine asg_k (call_k (ac_v (ev_var rfl) fun H2 e2 => ac_k (lst_k (ac_v (v := .int 0) ev_c fun H3 e3 => ac_v (v := .int 1) ev_c fun H4 e4 => ac_v (v := .int 2) ev_c fun H5 e5 => ac_v (v := .int (-1)) (ev_un ev_c ru_neg) fun H6 e6 => ac_v (v := .int (-2)) (ev_un ev_c ru_neg) fun H7 e7 => ac_v (v := .int (n : Int)) (ev_var rfl) fun H8 e8 => ac_v (v := .int (0 - (n : Int))) (ev_op ev_c (ev_var rfl) rv_I0) fun H9 e9 => ac_v (v := .int (2 * (n : Int) + 1)) (ev_op (ev_op ev_c (ev_var rfl) (rv_I (.inl ⟨by decide, by decide⟩))) ev_c rv_I0) fun H10 e10 => ac_k (op_k ?_)))))
    have h10 := (((e2.trans e3).trans (e4.trans e5)).trans ((e6.trans e7).trans (e8.trans e9))).trans e10
    have hp10 := hp1.mono h10
    refine drawC (n := 60) hp10 rfl ev_c (by decide) (by decide) fun dd H11 dd0 dd1 e11 hp11 => ?_
    refine (ev_c (v := .int 30)) H11 (Ex.refl _) _ fun H12 e12 => ?_
    refine rv_I0 H12 (Ex.refl _) _ fun H13 e13 => ?_
    refine ac_nil ⟨sz_of (by show 9 ≤ 100000; decide), fun ps hps => ?_⟩
    have hp13 := (hp11.mono e12).mono e13
    obtain ⟨o13, ho13⟩ := hp13.some
    have hpsp : ps ≠ pp := (ne_of_none ho13 hps).symm
    refine ac_nil ⟨pp, ps, _, rfl, hp13.mono (Ex.new hps), sq_of (by rw [wo_ne hpsp]; exact upd_same), by show 0 < 9; decide, by show 9 ≤ 1000; decide, fun i v H14 hi e14 hp14 => ?_⟩
    have hv : ∃ fi : Int, v = .int fi ∧ -100 ≤ fi ∧ fi ≤ 100 := by
      match i, hi with
      | 0, hi => exact ⟨0, (Option.some.inj hi).symm, by decide, by decide⟩
      | 1, hi => exact ⟨1, (Option.some.inj hi).symm, by decide, by decide⟩
      | 2, hi => exact ⟨2, (Option.some.inj hi).symm, by decide, by decide⟩
      | 3, hi => exact ⟨-1, (Option.some.inj hi).symm, by decide, by decide⟩
      | 4, hi => exact ⟨-2, (Option.some.inj hi).symm, by decide, by decide⟩
      | 5, hi => exact ⟨(n : Int), (Option.some.inj hi).symm, by omega, by omega⟩
      | 6, hi => exact ⟨0 - (n : Int), (Option.some.inj hi).symm, by omega, by omega⟩
      | 7, hi => exact ⟨2 * (n : Int) + 1, (Option.some.inj hi).symm, by omega, by omega⟩
      | 8, hi => exact ⟨dd - 30, (Option.some.inj hi).symm, by omega, by omega⟩
      | m + 9, hi => exact absurd hi (by simp)
    obtain ⟨fi, rfl, f1', f2'⟩ := hv
    have w14 : Ex (wo H pp) (wo H14 pp) := (((w1.trans (wo_mono h10)).trans (wo_sub e11)).trans (wo_mono ((e12.trans e13).trans (Ex.new hps)))).trans (wo_sub e14)
    refine asg_k (call_k (ac_v (ev_var rfl) fun H15 e15 => ac_v (ev_var rfl) fun H16 e16 => ac_v (ev_var rfl) fun H17 e17 => ac_nil ⟨pp, n, fi, rfl, ((hp14.mono e15).mono e16).mono e17, n1, by omega, fun l0 ns0 H18 hlen0 g0 hf0 hb0 hl0 e18 hl0' hp18 => ?_⟩))
    have w18 : Ex (wo H pp) (wo H18 pp) := (w14.trans (wo_mono ((e15.trans e16).trans e17))).trans (wo_sub e18)
    have hl0p : l0 ≠ pp := by
      obtain ⟨o17, ho17⟩ := (((hp14.mono e15).mono e16).mono e17).some
      exact (ne_of_none ho17 hl0).symm
    refine q_cut (M := fun σ' H' => ∃ (l : Addr) (ns : List Int) (o6 : Option V), Ex (wo H pp) (wo H' pp) ∧ PotAt H' pp ∧ l ≠ pp ∧ H' l = some (.lst (ns.map V.int)) ∧ Good ns ∧ Sm ns ∧ ns.length = n ∧ σ' = [some (.ref pp), some (.int (n : Int)), some (.int fi), some (.ref l), none, none, o6]) ?_ ?_
    · refine ifs_k (test_k (op_k (drawC (n := 4) hp18 rfl ev_c (by decide) (by decide) fun dd2 H19 _ _ e19 hp19 => ?_)))
      refine (ev_c (v := .int 0)) H19 (Ex.refl _) _ fun H20 e20 => ?_
      refine (rv_eq rfl) H20 (Ex.refl _) _ fun H21 e21 => ⟨_, rfl, ?_⟩
      have w21 : Ex (wo H pp) (wo H21 pp) := (w18.trans (wo_sub e19)).trans (wo_mono (e20.trans e21))
      have hp21 := (hp19.mono e20).mono e21
      split
      · refine s_asgL (xs := (listF n fun x => x + fi).map V.int) (by
          rw [← given_F]
          exact el_lcR1 (n := (n : Int)) (fun _ => true) (fun i => V.int ((i : Int) + fi)) (ea_cons (ev_var rfl) ea_nil) (by omega) (fun _ => rfl) (fun _ _ _ _ => lc_yes) (fun i H22 e22 _ _ => ev_op (ev_var rfl) (ev_var rfl) rv_I0)) fun l H22 hl e22 hl2 => ?_
        obtain ⟨o21, ho21⟩ := hp21.some
        have ar := add_rule n1 (show n ≤ 600 by omega) fi
        refine ⟨l, _, _, w21.trans (wo_mono e22), hp21.mono e22, (ne_of_none ho21 hl).symm, hl2, ar.good, fun i hi => ?_, listF_len .., rfl⟩
        rw [listF_len] at hi
        rw [← on_first ar.good (by rw [listF_len]; exact hi), ar.on]
        omega
      · exact ⟨l0, ns0, _, w21, hp21, hl0p, (e20.trans e21) l0 _ (e19 l0 _ (by rw [wo_ne hl0p]; exact hl0')), g0, fun i hi => by have := hb0 i (by omega); omega, hlen0, rfl⟩
    · rintro σ' H22 ⟨l, ns, o6, w22, hp22, hlp, hl22, g, sm, hlen, rfl⟩
      have hgp := g.pos
      refine q_asgM (evm_make (ev_var rfl) hl22 g) fun ta H23 hta e23 tn => ?_
      have hp23 := hp22.mono e23
      have w23 := w22.trans (wo_mono e23)
      have tw : Tw C H23 pp ta ns := Tw.of hp22 hta tn
      have hl23 := e23 l _ hl22
      refine ornot_k (call_k (ac_v (ev_var rfl) fun H24 e24 => ac_v (ev_var rfl) fun H25 e25 => ac_nil ⟨ta, l, ns, rfl, (tw.ex (e24.trans e25)).tab, sq_of ((e24.trans e25) l _ hl23), g, sm, fun H26 e26 => ⟨true, rfl, ?_⟩⟩))
      rw [if_neg (by decide)]
      have e236 := (e24.trans e25).trans e26
      have hp26 := hp23.mono e236
      have w26 := w23.trans (wo_mono e236)
      have tw26 := tw.ex e236
      have hl26 := e236 l _ hl23
      refine notall_k (call_k (ac_v (ev_var rfl) fun H27 e27 => ac_v (ev_var rfl) fun H28 e28 => ac_v (ev_var rfl) fun H29 e29 => ac_nil ⟨pp, ta, l, ns, rfl, ((hp26.mono e27).mono e28).mono e29, (tw26.ex ((e27.trans e28).trans e29)).wtab, sq_of (by rw [wo_ne hlp]; exact ((e27.trans e28).trans e29) l _ hl26), g, sm, by omega, fun H30 e30 hp30 => ⟨true, rfl, ?_⟩⟩))
      rw [if_neg (by decide)]
      have e269 := (e27.trans e28).trans e29
      have w30 : Ex (wo H pp) (wo H30 pp) := (w26.trans (wo_mono e269)).trans (wo_sub e30)
      have tw30 := (tw26.ex e269).exw e30
      have hl30 : H30 l = some (.lst (ns.map V.int)) := e30 l _ (by rw [wo_ne hlp]; exact e269 l _ hl26)
      refine q_lst (ac_v (v := .int 0) ev_c fun H31 e31 => ac_v (v := .int ((n : Int) - 1)) (ev_op (ev_var rfl) ev_c rv_I0) fun H32 e32 => ac_v (v := .int (-1)) (ev_un ev_c ru_neg) fun H33 e33 => ac_k (op_k (drawC (n := 100) (((hp30.mono e31).mono e32).mono e33) rfl ev_c (by decide) (by decide) fun d3 H34 d30 d31 e34 hp34 => ?_)))
      refine (ev_c (v := .int 50)) H34 (Ex.refl _) _ fun H35 e35 => ?_
      refine rv_I0 H35 (Ex.refl _) _ fun H36 e36 => ?_
      refine ac_k (pickC (xs := [.int 1000000000, .int (7 - 1000000000)]) ((hp34.mono e35).mono e36) rfl (ea_cons (ev_is (ev_op ev_c ev_c (rv_I ⟨by decide, by decide, by decide⟩)) rfl) (ea_cons (ev_is (ev_op ev_c (ev_op ev_c ev_c (rv_I ⟨by decide, by decide, by decide⟩)) rv_I0) rfl) ea_nil)) (by show 0 < 2; decide) (by show 2 ≤ 1000; decide) fun j v H37 hj e37 hp37 => ?_)
      have hv : ∃ x : Int, v = .int x := by
        match j, hj with
        | 0, hj => exact ⟨_, (Option.some.inj hj).symm⟩
        | 1, hj => exact ⟨_, (Option.some.inj hj).symm⟩
        | m + 2, hj => exact absurd hj (by simp)
      obtain ⟨xv, rfl⟩ := hv
      refine ac_nil ⟨sz_of (by show 5 ≤ 100000; decide), fun q hq => ?_⟩
      have x37 : Ex (wo H30 pp) (wo H37 pp) := (((wo_mono ((e31.trans e32).trans e33)).trans (wo_sub e34)).trans (wo_mono (e35.trans e36))).trans (wo_sub e37)
      obtain ⟨o37, ho37⟩ := hp37.some
      have hqp : q ≠ pp := (ne_of_none ho37 hq).symm
      generalize hL : [V.int 0, V.int ((n : Int) - 1), V.int (-1), V.int (d3 - 50), V.int xv] = xs
      have hxs : ∀ {i : Nat} {y : V}, xs[i]? = some y → ∃ z : Int, y = .int z := fun {i y} hy => by
        rw [← hL] at hy
        match i, hy with
        | 0, hy => exact ⟨_, (Option.some.inj hy).symm⟩
        | 1, hy => exact ⟨_, (Option.some.inj hy).symm⟩
        | 2, hy => exact ⟨_, (Option.some.inj hy).symm⟩
        | 3, hy => exact ⟨_, (Option.some.inj hy).symm⟩
        | 4, hy => exact ⟨_, (Option.some.inj hy).symm⟩
        | m + 5, hy => exact absurd hy (by simp)
      have hxl : xs.length ≤ 1000 := by rw [← hL]; show 5 ≤ 1000; decide
      have e38 : Ex H37 (upd H37 q (.lst xs)) := Ex.new hq
      have hq38 : upd H37 q (.lst xs) q = some (.lst xs) := upd_same
      have hp38 := hp37.mono e38
      generalize upd H37 q (.lst xs) = H38 at e38 hq38 hp38
      have x38 : Ex (wo H30 pp) (wo H38 pp) := x37.trans (wo_mono e38)
      have w38 := w30.trans x38
      have tw38 : Tw C H38 pp ta ns := tw30.exw (x38.trans wo_ex)
      have hl38 : H38 l = some (.lst (ns.map V.int)) := wo_ex l _ (x38 l _ (by rw [wo_ne hlp]; exact hl30))
      obtain ⟨o38, ho38⟩ := hp38.some
      refine ornot_k (all_k ⟨.ref q, rfl, all_at (xs := xs) (fun H' => Ex (wo H38 pp) H' ∧ PotAt H' pp) hq38 hxl (fun _ => rfl) (fun H2 h => h.1 q _ (by rw [wo_ne hqp]; exact hq38)) (fun H2 l' o ⟨h1, h2⟩ hl' => ⟨fun b u hb => ?_, ?_⟩) (fun i x H' hx ⟨h1, h2⟩ Q' q' => ?_) ⟨wo_ex, hp38⟩ (fun H39 ⟨e39, hp39⟩ => ⟨true, rfl, ?_⟩)⟩)
      · have hbl : b ≠ l' := fun e => by
          subst e
          have := wo_ex b _ hb
          rw [hl'] at this
          cases this
        rw [upd_ne hbl]
        exact h1 b u hb
      · exact pot_off h2 (ne_of_none ho38 hl')
      · obtain ⟨z, rfl⟩ := hxs hx
        have tw' : Tw C H' pp ta ns := tw38.exw h1
        have hl' : H' l = some (.lst (ns.map V.int)) := h1 l _ (by rw [wo_ne hlp]; exact hl38)
        refine call_k (ac_v (ev_var rfl) fun H40 e40 => ac_v (ev_var rfl) fun H41 e41 => ac_v (ev_var rfl) fun H42 e42 => ac_v (ev_var rfl) fun H43 e43 => ac_nil ⟨pp, ta, l, ns, z, rfl, (((h2.mono e40).mono e41).mono e42).mono e43, (tw'.ex (((e40.trans e41).trans e42).trans e43)).wtab, sq_of (by rw [wo_ne hlp]; exact (((e40.trans e41).trans e42).trans e43) l _ hl'), g, sm, fun H44 e44 hp44 => ?_⟩)
        have e04 := ((e40.trans e41).trans e42).trans e43
        have x44 : Ex (wo H' pp) H44 := (wo_mono e04).trans e44
        refine q' H44 ⟨(wo_sub h1).trans x44, hp44⟩ fun l' o hl' ho' => x44 l' _ ?_
        rw [wo_ne (ne_of_none ho38 hl').symm]
        exact ho'
      · rw [if_neg (by decide)]
        have tw39 : Tw C H39 pp ta ns := tw38.exw e39
        have hl39 : H39 l = some (.lst (ns.map V.int)) := e39 l _ (by rw [wo_ne hlp]; exact hl38)
        obtain ⟨dx, la, i1, i2⟩ := id (tw39.tab (K := K))
        refine q_when (b := false) (et_test (ev_neD (d := dInts ns) (evd_ints (el_meth (ev_var rfl) i1 rfl ea_nil (spl_days (tw39.tab (K := K))))) (evd_ref (ev_var rfl) (dp_ints (sq_of hl39))) (shaped_small (plain_ints ns) (by have := depth_ints ns; omega)) (plain_can (plain_ints ns)))) (fun q => nomatch q) fun _ H40 e40 => ?_
        have w40 : Ex (wo H pp) (wo H40 pp) := (w38.trans (wo_sub e39)).trans (wo_mono e40)
        refine ret_k (orV_k (op_k (drawC (n := 4) (hp39.mono e40) rfl ev_c (by decide) (by decide) fun d4 H41 _ _ e41 hp41 => ?_)))
        refine (ev_c (v := .int 0)) H41 (Ex.refl _) _ fun H42 e42 => ?_
        refine rv_I0 H42 (Ex.refl _) _ fun H43 e43 => ⟨_, rfl, ?_⟩
        have w43 : Ex (wo H pp) (wo H43 pp) := (w40.trans (wo_sub e41)).trans (wo_mono (e42.trans e43))
        have hp43 := (hp41.mono e42).mono e43
        split
        · exact k H43 (w43.trans wo_ex) hp43
        · exact call_k (ac_v (ev_var rfl) fun H44 e44 => ac_nil ⟨pp, rfl, hp43.mono e44, fun H45 e45 hp45 => k H45 ((w43.trans (wo_mono e44)).trans e45) hp45⟩)
theorem ok_law {f f1 f2 : Addr} {fd fd1 fd2 : FuncData} (F : Fun K "law" "law" s_law f fd) (T : Txt K mg C) (c__law_pot : Cal P w K mg base "_law_pot" f1 fd1 ["_law_script", "_law_k"] 1 (sp_pot K)) (c__law_right : CalG P w K mg base "_law_right" f2 fd2 ["_law_pot_here"] 12 sp_long) :
    FnG P w K mg base CX0 13 f fd ["_law_script"] (sp_law K) := by
  refine okG F sc_law (fun vs H Q E h => ?_) (fun cdv A outer s H vs Q E hg hr h => ?_)
  · obtain ⟨a, ns, rfl, _⟩ := h
    rfl
  · obtain ⟨a, ns, rfl, hs, hl, k⟩ := h
    have hu := hr.units
    have e0 : (ns.map V.int).length = ns.length := List.length_map ..
    refine ⟨_, (pss_one (ps_ret (pe_callB (allL (K := K) rfl rfl) (by rfl) T.b_all (by decide +kernel) (pa_cons (pe_lc (own := [("_law_k", 1)]) (g := (gName 1)) (by rfl) sc_law.nd (pi_range1 (by rfl) T.b_range (pa_cons (pe_callB (call_max2 rfl) (by rfl) T.b_max (by decide +kernel) (pa_cons pe_int (pa_cons (pe_callB (call_min2 rfl) (by rfl) T.b_min (by decide +kernel) (pa_cons pe_int (pa_cons (pe_callB (lenS (K := K) rfl) (by rfl) T.b_len (by decide +kernel) (pa_cons (pv 0) pa_nil)) pa_nil))) pa_nil))) pa_nil)) (blkOk_by (own := [("_law_k", 1)]) (N := ["_law_script", "_law_k"]) (sc := defScope s_law) (by decide +kernel)) (fun _ _ _ _ _ => (pg_name (i := 1) sc_law.nd rfl (Or.inl rfl))) (fun _ _ _ _ _ => pts_nil) (fun _ _ _ _ _ => (pe_callG c__law_right.ok hg (hr.mono (by decide)) (by rfl) c__law_right.mgx c__law_right.kp c__law_right.bd .nil pass0 (pa_cons (pe_call c__law_pot.ok (hr.mono (by decide)) (by rfl) c__law_pot.mgx c__law_pot.kp c__law_pot.bd .nil pass0 (pa_cons (pv 0) (pa_cons (pv 1) pa_nil))) pa_nil)))) pa_nil)))), ?_⟩
    refine s_ret (ev_allT (el_lcR1 (fun _ => true) (fun _ => V.bl true) (ea_cons (ev_cb (ea_cons ev_c (ea_cons (ev_cb (ea_cons ev_c (ea_cons (ev_cb (ea_cons (ev_var rfl) ea_nil) (rc_len (.inl hs) e0)) ea_nil)) rc_min2) ea_nil)) rc_max2) ea_nil) ?_ (fun _ => rfl) (fun _ _ _ _ => lc_yes) (fun i H1 e1 hi _ => ?_))) k
    · split <;> split <;> omega
    · refine fun Ha ea Qa qa => ⟨.ref a, rfl, .int (i : Int), rfl, a, ns, (i : Int), rfl, ex_l (e1.trans ea) hs, by omega, ?_, fun p H2 hp e2 pot => ⟨p, rfl, pot, fun H3 e3 hp3 => qa H3 ((ex_pot e2 hp).trans e3)⟩⟩
      split at hi <;> split at hi <;> omega
end
end K15
end
section
set_option maxHeartbeats 2000000
namespace G
open PySem PySem.Spec PyProof.Rows L2

/-! ### the end of a law whose promise is told where no repr is running -/
section
variable {P : Program} {w : World} {K : PySem.W.Frag} {mg mb : Str → Option Value} {CX : CXT} {k : Nat} {fa a : Addr} {fd : FuncData} {x : Str} {sp : Sp} {s₁ : Shared} {vs : List Value} {ns : List Int}
def scrObj (vs : List Value) : Obj := { cls := .type "list", data := .seq vs.toArray }
/-- the script alone, if the module does not know it -/
def scrHp (K : PySem.W.Frag) (a : Addr) (vs : List Value) (ns : List Int) : Hp := fun b => if b = a ∧ (K.lookup a).isNone = true then some (.frz (scrObj vs) (.lst (ns.map V.int))) else none
theorem scr_some {b : Addr} {u : HO} (h : scrHp K a vs ns b = some u) : (b = a ∧ (K.lookup a).isNone = true) ∧ u = .frz (scrObj vs) (.lst (ns.map V.int)) := by
  unfold scrHp at h
  by_cases q : b = a ∧ (K.lookup a).isNone = true
  · rw [if_pos q] at h
    exact ⟨q, (Option.some.inj h).symm⟩
  · rw [if_neg q] at h
    cases h
theorem scr_off {b : Addr} (h : ¬ (b = a ∧ (K.lookup a).isNone = true)) : scrHp K a vs ns b = none := if_neg h
theorem scr_only : Only (scrHp K a vs ns) := fun b => by
  cases q : scrHp K a vs ns b with
  | none => exact .inl rfl
  | some u => exact .inr ⟨_, _, by rw [(scr_some q).2]⟩
theorem scr_sq (KX : K.In s₁.heap) (ha : s₁.heap.get? a = some (scrObj vs)) (rv : Vals (ns.map V.int) vs) (hlen : vs.length = ns.length) (hl : ns.length ≤ sizeLine) : SqL K (scrHp K a vs ns) a (ns.map V.int) := by
  cases q : K.lookup a with
  | none => exact .inl (.inr ⟨scrObj vs, if_pos ⟨rfl, by rw [q]; rfl⟩⟩)
  | some o =>
    have e := KX a o q
    rw [ha] at e
    cases e
    exact .inr ⟨_, vs.toArray, _, q, rfl, rfl, rfl, by simpa [hlen] using hl, by simpa using rv⟩
theorem law_true (KX : K.In s₁.heap) (hns : s₁.heap.Ns mainGlobals mg) (hb : s₁.heap.Ns builtinsNs mb) (hbb : ∀ x : Str, x ≠ "__name__" → mb x = bootBuiltins x) (hlim : s₁.heap.NoLimit) (hg : s₁.gens = #[])
    (ha : s₁.heap.get? a = some (scrObj vs)) (hi : IntsAre vs ns) (hl : ns.length ≤ sizeLine) (hr : Room k callerA)
    (F : ∀ base : Heap, K.In base → base.Ns mainGlobals mg → FnG P w K mg base CX k fa fd [x] sp) (hbind : ∀ (s : Shared) (u : Value), BindsTo s fd ⟨[u], []⟩ [(x, u)])
    (hsp : ∀ H : Hp, Only H → SqL K H a (ns.map V.int) → sp [.ref a] H (fun v _ => v = .bl true) fun _ _ _ => False) (hCX : ∀ H e s', CX [] H s₁ (fun _ _ _ => False) e s' → False) :
    codeAny (model P w) callerA (.call (.ref fa) ⟨[.ref a], []⟩) (fun r s' => r = .ok (.ret (.bool true)) ∧ OldK s₁.heap s'.heap ∧ s'.os = s₁.os ∧ AllBare s'.gens) s₁ := by
  have rv := vals_ints hi
  have hok : HOk P w (scrHp K a vs ns) s₁.heap := fun b u z => by
    obtain ⟨⟨rfl, _⟩, rfl⟩ := scr_some z
    exact ⟨ha, by rw [List.length_map]; exact hl, vs, _, rv, ha⟩
  have keepK : ∀ {b : Addr} {o : Obj}, K.lookup b = some o → (hidT s₁.heap (scrHp K a vs ns)).get? b = some o := fun {b o} e => hidT_get (KX b o e) (scr_off fun q => by
    obtain ⟨rfl, q2⟩ := q
    rw [e] at q2
    cases q2)
  have keepN : ∀ {b : Addr} {m : Str → Option Value}, s₁.heap.Ns b m → (hidT s₁.heap (scrHp K a vs ns)).Ns b m := by
    rintro b m ⟨o, es, ep, e, d, r⟩
    refine ⟨o, es, ep, hidT_get e (scr_off fun q => ?_), d, r⟩
    obtain ⟨rfl, _⟩ := q
    rw [ha] at e
    cases e
    cases (show Data.seq vs.toArray _ = Data.dict es ep from d)
  have inK : K.In (hidT s₁.heap (scrHp K a vs ns)) := fun b o e => keepK e
  have M : Mod K mg (hidT s₁.heap (scrHp K a vs ns)) := ⟨inK, keepN hns, ⟨mb, keepN hb, hbb⟩, by obtain ⟨mc, q1, q2⟩ := hlim; exact ⟨mc, keepN q1, q2⟩⟩
  have out : ∀ b : Addr, b ∉ ([] : List Addr) := fun b q => nomatch q
  have env : Env0 P w K mg (hidT s₁.heap (scrHp K a vs ns)) callerA [] s₁ (scrHp K a vs ns) := { frames := rfl, mod := M, bs := fun b o e => of_hidT e, bsz := Nat.le_of_eq (hidT_size _ _), funs := trivial, frf := fun b q => (out b q).elim, hok := hok, bare := .of_eq hg }
  have go := (F _ inK (keepN hns)).run callerA [] s₁ (scrHp K a vs ns) ⟨[.ref a], []⟩ [.ref a] [.ref a] _ _ rfl hr env (hbind s₁ (.ref a)) (.cons rfl .nil) (hsp _ scr_only (scr_sq KX ha rv hi.length hl))
  refine codeAny_mono go fun r s' h => ?_
  match r, h with
  | .error e, h => exact (hCX _ e s' h).elim
  | .ok .next, h => exact h.elim
  | .ok .brk, h => exact h.elim
  | .ok .cont, h => exact h.elim
  | .ok (.ret u), h =>
    obtain ⟨v, H', os, bare, un, hok', r', rfl⟩ := h
    cases r'
    refine ⟨rfl, OldK.of_keep fun b o e => ?_, os, bare⟩
    cases q : scrHp K a vs ns b with
    | none => exact un.keep b o e q (out b) (by simp)
    | some u =>
      have q2 := (scr_some q).2
      subst q2
      have z1 := (hok b _ q).1
      have z2 := (hok' b _ (un.frzs b _ _ q)).1
      rw [e] at z1
      cases z1
      exact z2
end
theorem walkG {l : PySem.W.OpenLaw} {n k : Nat} {q : Program} {loose : List Str} {XP : (Str → Option Value) → Heap → Prop} {YP : World → Heap → Prop} {d : DefRec} {K : Params → PySem.W.Frag} {CX : CXT} {sp : PySem.W.Frag → Sp} {x : Str}
    (hn : l.most = some n) (hn2 : n ≤ sizeLine) (hdf : d.params.defaults = []) (hr : Room k callerA) (hY : ∀ (w : World) (h : Heap), YP w h → (K w.params).In h)
    (F : ∀ (w : World) (mg : Str → Option Value) (fa : Addr) (h : Heap), (K w.params).In h → h.Ns mainGlobals mg → mg d.name = some (.ref fa) → ∃ fd : FuncData, (∀ (s : Shared) (u : Value), BindsTo s fd ⟨[u], []⟩ [(x, u)]) ∧ ∀ base : Heap, (K w.params).In base → base.Ns mainGlobals mg → FnG l.prog w (K w.params) mg base CX k fa fd [x] (sp (K w.params)))
    (hsp : ∀ (K : PySem.W.Frag) (H : Hp) (a : Addr) (ns : List Int), ns.length ≤ n → Only H → SqL K H a (ns.map V.int) → sp K [.ref a] H (fun v _ => v = .bl true) fun _ _ _ => False)
    (hCX : ∀ (H : Hp) (s : Shared) (e : Value) (s' : Shared), CX [] H s (fun _ _ _ => False) e s' → False) : PySem.W.WalkO q loose XP YP l.row.toRowW d [] (fun f vs => PySem.call f vs) :=
  Att.attach_call hn hdf fun w s₀ s₁ mg mb fa o pm cd doc a vs ns G Y ho hd hcd hmg hobj hints hlen hg => by
    have KX := hY w _ Y
    obtain ⟨fd, hb, hF⟩ := F w mg fa _ KX G.T.g hmg
    exact law_true KX G.T.g G.T.b G.T.builtins G.T.nolimit hg hobj hints (Nat.le_trans hlen hn2) hr hF hb (fun H hO hS => hsp _ H a ns hlen hO hS) fun H e s' => hCX H s₁ e s'
/-- a def called with keywords, no defaults -/
theorem kb_of {K : PySem.W.Frag} {x qual : Str} {st : Stmt} {f : Addr} {fd : FuncData} {ps ks : List Str} {n : Nat} {g : List Value → List Value → List Value} {gV : List V → List V → List V} (F : Fun K x qual st f fd)
    (h : ∀ (kV doc pm : Value) (an : Option Addr) (cdv ct : Value) (us ws : List Value), us.length = n → ws.length = ks.length → bindArgs (PySem.W.fnOf x qual (defArgs st) (defBody st) (defScope st) .none kV doc pm an cdv ct) ⟨us, ks.zip ws⟩ = pure (ps.zip (g us ws)))
    (hrel : ∀ {vs : List V} {us : List Value} {zs : List V} {ws : List Value}, Vals vs us → Vals zs ws → Vals (gV vs zs) (g us ws)) : KBn K fd ps n ks g gV := by
  obtain ⟨oc, od, kV, doc, pm, an, cdv, ct, osl, rfl, lk, hcd⟩ := F.ex
  exact ⟨fun s us ws _ h1 h2 => BindsTo.of_looks fun M => by rw [h kV doc pm an cdv ct us ws h1 h2]; exact PySem.W.Looks.now, hrel⟩
theorem vals_rev : ∀ {vs : List V} {us : List Value}, Vals vs us → Vals vs.reverse us.reverse
  | _, _, .nil => .nil
  | _, _, .cons a b => by rw [List.reverse_cons, List.reverse_cons]; exact (vals_rev b).append (.cons a .nil)
end G
end
section
set_option maxHeartbeats 8000000
namespace K15
open PySem L2 Evl G TM
theorem us_nil {α : Type} {us : List α} (h : us.length = 0) : us = [] := List.eq_nil_of_length_eq_zero h
theorem us_cons {α : Type} {us : List α} {n : Nat} (h : us.length = n + 1) : ∃ a t, us = a :: t ∧ t.length = n := by
  cases us with
  | nil => exact absurd h (Nat.succ_ne_zero n).symm
  | cons a t => exact ⟨a, t, rfl, Nat.succ.inj h⟩
theorem us_0 {fn : FuncData} (h : bindArgs fn ⟨[], []⟩ = pure (([] : List Str).zip [])) (us : List Value) (hl : us.length = ([] : List Str).length) : bindArgs fn ⟨us, []⟩ = pure (([] : List Str).zip us) := by
  cases us_nil hl
  exact h
theorem us_1 {fn : FuncData} {p0 : Str} (h : ∀ a0, bindArgs fn ⟨[a0], []⟩ = pure ([p0].zip [a0])) (us : List Value) (hl : us.length = [p0].length) : bindArgs fn ⟨us, []⟩ = pure ([p0].zip us) := by
  obtain ⟨a0, t0, rfl, h0⟩ := us_cons (n := 0) hl
  cases us_nil h0
  exact h a0
theorem us_2 {fn : FuncData} {p0 p1 : Str} (h : ∀ a0 a1, bindArgs fn ⟨[a0, a1], []⟩ = pure ([p0, p1].zip [a0, a1])) (us : List Value) (hl : us.length = [p0, p1].length) : bindArgs fn ⟨us, []⟩ = pure ([p0, p1].zip us) := by
  obtain ⟨a0, t0, rfl, h0⟩ := us_cons (n := 1) hl
  obtain ⟨a1, t1, rfl, h1⟩ := us_cons (n := 0) h0
  cases us_nil h1
  exact h a0 a1
theorem us_3 {fn : FuncData} {p0 p1 p2 : Str} (h : ∀ a0 a1 a2, bindArgs fn ⟨[a0, a1, a2], []⟩ = pure ([p0, p1, p2].zip [a0, a1, a2])) (us : List Value) (hl : us.length = [p0, p1, p2].length) : bindArgs fn ⟨us, []⟩ = pure ([p0, p1, p2].zip us) := by
  obtain ⟨a0, t0, rfl, h0⟩ := us_cons (n := 2) hl
  obtain ⟨a1, t1, rfl, h1⟩ := us_cons (n := 1) h0
  obtain ⟨a2, t2, rfl, h2⟩ := us_cons (n := 0) h1
  cases us_nil h2
  exact h a0 a1 a2
theorem us_4 {fn : FuncData} {p0 p1 p2 p3 : Str} (h : ∀ a0 a1 a2 a3, bindArgs fn ⟨[a0, a1, a2, a3], []⟩ = pure ([p0, p1, p2, p3].zip [a0, a1, a2, a3])) (us : List Value) (hl : us.length = [p0, p1, p2, p3].length) : bindArgs fn ⟨us, []⟩ = pure ([p0, p1, p2, p3].zip us) := by
  obtain ⟨a0, t0, rfl, h0⟩ := us_cons (n := 3) hl
  obtain ⟨a1, t1, rfl, h1⟩ := us_cons (n := 2) h0
  obtain ⟨a2, t2, rfl, h2⟩ := us_cons (n := 1) h1
  obtain ⟨a3, t3, rfl, h3⟩ := us_cons (n := 0) h2
  cases us_nil h3
  exact h a0 a1 a2 a3
theorem bd_dfl {K : PySem.W.Frag} {x qual : Str} {st : Stmt} {f : Addr} {fd : FuncData} {p0 p1 : Str} (F : L2.FunD K x qual (defArgs st) (defBody st) (defScope st) [.int 1] [] f fd)
    (h : ∀ (T : Addr) (kV doc pm : Value) (an : Option Addr) (cdv ct : Value) (a0 a1 b0 : Value), ∃ k, bindArgs (PySem.W.fnOf x qual (defArgs st) (defBody st) (defScope st) (.ref T) kV doc pm an cdv ct) ⟨[a0, a1], []⟩ = seqItems? (.ref T) >>= k ∧ k (some [b0].toArray) = pure ([p0, p1].zip [a0, a1])) : Binds K fd [p0, p1] [] := by
  obtain ⟨ds, hv, hb⟩ := F.binds1 (ps := [p0, p1]) 2 1 (fun z => nomatch z) rfl (fun T kV doc pm an cdv ct us its h1 h2 => by
    obtain ⟨a0, t0, rfl, k0⟩ := us_cons (n := 1) h1
    obtain ⟨a1, t1, rfl, k1⟩ := us_cons (n := 0) k0
    cases us_nil k1
    obtain ⟨b0, s0, rfl, j0⟩ := us_cons (n := 0) h2
    cases us_nil j0
    obtain ⟨k, e1, e2⟩ := h T kV doc pm an cdv ct a0 a1 b0
    exact ⟨k, e1, e2⟩)
  cases hv
  exact hb
section
variable {P : Program} {w : World} {K : PySem.W.Frag} {mg : Str → Option Value} {base : Heap}
theorem all_mk {h : Heap} {fa : Addr} (X : K.In h) (G : h.Ns mainGlobals mg) (hmg : mg "law" = some (.ref fa))
    {C : Addr}
    {tk_MOST_LENGTH : Tok}
    {tq_MOST_LENGTH : Tok}
    {tk_MOST_ASKINGS : Tok}
    {f_is_day : Addr} {od_is_day an_is_day : Option Addr} {sl_is_day : Array (Option Value)} {oc_is_day kV_is_day dc_is_day pm_is_day cd_is_day ct_is_day : Value}
    {f_need_day : Addr} {od_need_day an_need_day : Option Addr} {sl_need_day : Array (Option Value)} {oc_need_day kV_need_day dc_need_day pm_need_day cd_need_day ct_need_day : Value}
    {f_is_count : Addr} {od_is_count an_is_count : Option Addr} {sl_is_count : Array (Option Value)} {oc_is_count kV_is_count dc_is_count pm_is_count cd_is_count ct_is_count : Value}
    {f_need_count : Addr} {od_need_count an_need_count : Option Addr} {sl_need_count : Array (Option Value)} {oc_need_count kV_need_count dc_need_count pm_need_count cd_need_count ct_need_count : Value}
    {f_need_length : Addr} {od_need_length an_need_length : Option Addr} {sl_need_length : Array (Option Value)} {oc_need_length kV_need_length dc_need_length pm_need_length cd_need_length ct_need_length : Value}
    {f_is_list : Addr} {od_is_list an_is_list : Option Addr} {sl_is_list : Array (Option Value)} {oc_is_list kV_is_list dc_is_list pm_is_list cd_is_list ct_is_list : Value}
    {f_is_table : Addr} {od_is_table an_is_table : Option Addr} {sl_is_table : Array (Option Value)} {oc_is_table kV_is_table dc_is_table pm_is_table cd_is_table ct_is_table : Value}
    {f_Table___init__ : Addr} {od_Table___init__ an_Table___init__ : Option Addr} {sl_Table___init__ : Array (Option Value)} {oc_Table___init__ kV_Table___init__ dc_Table___init__ pm_Table___init__ cd_Table___init__ ct_Table___init__ : Value}
    {f_Table_length : Addr} {od_Table_length an_Table_length : Option Addr} {sl_Table_length : Array (Option Value)} {oc_Table_length kV_Table_length dc_Table_length pm_Table_length cd_Table_length ct_Table_length : Value}
    {p_Table_length : Addr} {rs_Table_length : List Value}
    {f_Table_days : Addr} {od_Table_days an_Table_days : Option Addr} {sl_Table_days : Array (Option Value)} {oc_Table_days kV_Table_days dc_Table_days pm_Table_days cd_Table_days ct_Table_days : Value}
    {f_Table_asked_rows : Addr} {od_Table_asked_rows an_Table_asked_rows : Option Addr} {sl_Table_asked_rows : Array (Option Value)} {oc_Table_asked_rows kV_Table_asked_rows dc_Table_asked_rows pm_Table_asked_rows cd_Table_asked_rows ct_Table_asked_rows : Value}
    {f_Table_on : Addr} {od_Table_on an_Table_on : Option Addr} {sl_Table_on : Array (Option Value)} {oc_Table_on kV_Table_on dc_Table_on pm_Table_on cd_Table_on ct_Table_on : Value}
    {f_Table_fixed_days : Addr} {od_Table_fixed_days an_Table_fixed_days : Option Addr} {sl_Table_fixed_days : Array (Option Value)} {oc_Table_fixed_days kV_Table_fixed_days dc_Table_fixed_days pm_Table_fixed_days cd_Table_fixed_days ct_Table_fixed_days : Value}
    {f_Table_moved : Addr} {od_Table_moved an_Table_moved : Option Addr} {sl_Table_moved : Array (Option Value)} {oc_Table_moved kV_Table_moved dc_Table_moved pm_Table_moved cd_Table_moved ct_Table_moved : Value}
    {f_Table_asked_later : Addr} {od_Table_asked_later an_Table_asked_later : Option Addr} {sl_Table_asked_later : Array (Option Value)} {oc_Table_asked_later kV_Table_asked_later dc_Table_asked_later pm_Table_asked_later cd_Table_asked_later ct_Table_asked_later : Value}
    {f_Table_stretched : Addr} {od_Table_stretched an_Table_stretched : Option Addr} {sl_Table_stretched : Array (Option Value)} {oc_Table_stretched kV_Table_stretched dc_Table_stretched pm_Table_stretched cd_Table_stretched ct_Table_stretched : Value}
    {f_Table_shortest : Addr} {od_Table_shortest an_Table_shortest : Option Addr} {sl_Table_shortest : Array (Option Value)} {oc_Table_shortest kV_Table_shortest dc_Table_shortest pm_Table_shortest cd_Table_shortest ct_Table_shortest : Value}
    {f_Table_plain : Addr} {od_Table_plain an_Table_plain : Option Addr} {sl_Table_plain : Array (Option Value)} {oc_Table_plain kV_Table_plain dc_Table_plain pm_Table_plain cd_Table_plain ct_Table_plain : Value}
    {p_Table_plain dT_Table_plain : Addr} {rs_Table_plain : List Value} {tkd_Table_plain : Tok} {nT_Table_plain : Nat}
    {f_Table___eq__ : Addr} {od_Table___eq__ an_Table___eq__ : Option Addr} {sl_Table___eq__ : Array (Option Value)} {oc_Table___eq__ kV_Table___eq__ dc_Table___eq__ pm_Table___eq__ cd_Table___eq__ ct_Table___eq__ : Value}
    {f__repeats : Addr} {od__repeats an__repeats : Option Addr} {sl__repeats : Array (Option Value)} {oc__repeats kV__repeats dc__repeats pm__repeats cd__repeats ct__repeats : Value}
    {f_behind : Addr} {od_behind an_behind : Option Addr} {sl_behind : Array (Option Value)} {oc_behind kV_behind dc_behind pm_behind cd_behind ct_behind : Value}
    {f_times : Addr} {od_times an_times : Option Addr} {sl_times : Array (Option Value)} {oc_times kV_times dc_times pm_times cd_times ct_times : Value}
    {f_run_end : Addr} {od_run_end an_run_end : Option Addr} {sl_run_end : Array (Option Value)} {oc_run_end kV_run_end dc_run_end pm_run_end cd_run_end ct_run_end : Value}
    {f_rounds : Addr} {od_rounds an_rounds : Option Addr} {sl_rounds : Array (Option Value)} {oc_rounds kV_rounds dc_rounds pm_rounds cd_rounds ct_rounds : Value}
    {f_round_of : Addr} {od_round_of an_round_of : Option Addr} {sl_round_of : Array (Option Value)} {oc_round_of kV_round_of dc_round_of pm_round_of cd_round_of ct_round_of : Value}
    {f_pace : Addr} {od_pace an_pace : Option Addr} {sl_pace : Array (Option Value)} {oc_pace kV_pace dc_pace pm_pace cd_pace ct_pace : Value}
    {f__common_length : Addr} {od__common_length an__common_length : Option Addr} {sl__common_length : Array (Option Value)} {oc__common_length kV__common_length dc__common_length pm__common_length cd__common_length ct__common_length : Value}
    {f__need_askings : Addr} {od__need_askings an__need_askings : Option Addr} {sl__need_askings : Array (Option Value)} {oc__need_askings kV__need_askings dc__need_askings pm__need_askings cd__need_askings ct__need_askings : Value}
    {f__round_from : Addr} {od__round_from an__round_from : Option Addr} {sl__round_from : Array (Option Value)} {oc__round_from kV__round_from dc__round_from pm__round_from cd__round_from ct__round_from : Value}
    {f__law_pot : Addr} {od__law_pot an__law_pot : Option Addr} {sl__law_pot : Array (Option Value)} {oc__law_pot kV__law_pot dc__law_pot pm__law_pot cd__law_pot ct__law_pot : Value}
    {f__law_draw : Addr} {od__law_draw an__law_draw : Option Addr} {sl__law_draw : Array (Option Value)} {oc__law_draw kV__law_draw dc__law_draw pm__law_draw cd__law_draw ct__law_draw : Value}
    {f__law_pick : Addr} {od__law_pick an__law_pick : Option Addr} {sl__law_pick : Array (Option Value)} {oc__law_pick kV__law_pick dc__law_pick pm__law_pick cd__law_pick ct__law_pick : Value}
    {f__law_days : Addr} {od__law_days an__law_days : Option Addr} {sl__law_days : Array (Option Value)} {oc__law_days kV__law_days dc__law_days pm__law_days cd__law_days ct__law_days : Value}
    {f__law_on : Addr} {od__law_on an__law_on : Option Addr} {sl__law_on : Array (Option Value)} {oc__law_on kV__law_on dc__law_on pm__law_on cd__law_on ct__law_on : Value}
    {f__law_low : Addr} {od__law_low an__law_low : Option Addr} {sl__law_low : Array (Option Value)} {oc__law_low kV__law_low dc__law_low pm__law_low cd__law_low ct__law_low : Value}
    {f__law_place : Addr} {od__law_place an__law_place : Option Addr} {sl__law_place : Array (Option Value)} {oc__law_place kV__law_place dc__law_place pm__law_place cd__law_place ct__law_place : Value}
    {f__law_round : Addr} {od__law_round an__law_round : Option Addr} {sl__law_round : Array (Option Value)} {oc__law_round kV__law_round dc__law_round pm__law_round cd__law_round ct__law_round : Value}
    {f__law_rounds : Addr} {od__law_rounds an__law_rounds : Option Addr} {sl__law_rounds : Array (Option Value)} {oc__law_rounds kV__law_rounds dc__law_rounds pm__law_rounds cd__law_rounds ct__law_rounds : Value}
    {f__law_rounds_right : Addr} {od__law_rounds_right an__law_rounds_right : Option Addr} {sl__law_rounds_right : Array (Option Value)} {oc__law_rounds_right kV__law_rounds_right dc__law_rounds_right pm__law_rounds_right cd__law_rounds_right ct__law_rounds_right : Value}
    {f__law_day_right : Addr} {od__law_day_right an__law_day_right : Option Addr} {sl__law_day_right : Array (Option Value)} {oc__law_day_right kV__law_day_right dc__law_day_right pm__law_day_right cd__law_day_right ct__law_day_right : Value}
    {f__law_others_right : Addr} {od__law_others_right an__law_others_right : Option Addr} {sl__law_others_right : Array (Option Value)} {oc__law_others_right kV__law_others_right dc__law_others_right pm__law_others_right cd__law_others_right ct__law_others_right : Value}
    {f__law_long_right : Addr} {od__law_long_right an__law_long_right : Option Addr} {sl__law_long_right : Array (Option Value)} {oc__law_long_right kV__law_long_right dc__law_long_right pm__law_long_right cd__law_long_right ct__law_long_right : Value}
    {f__law_right : Addr} {od__law_right an__law_right : Option Addr} {sl__law_right : Array (Option Value)} {oc__law_right kV__law_right dc__law_right pm__law_right cd__law_right ct__law_right : Value}
    {f_law : Addr} {od_law an_law : Option Addr} {sl_law : Array (Option Value)} {oc_law kV_law dc_law pm_law cd_law ct_law : Value}
    (aC : PySem.W.nsIn K mainGlobals "Table" = some (some (.ref C)))
    (pg : PySem.W.plainGet K C Str.empty = true)
    (hd : PySem.W.hasDictIn K C = true)
    (po : PySem.W.plainOver K C = true)
    (sa : PySem.W.findIn K (.ref C) "__setattr__" = some (some (.builtin "object.__setattr__")))
    (mk : PySem.W.makesIn K C = true)
    (kc : PySem.W.keepIn K (.ref C) = true)
    (n_days : PySem.W.findIn K (.ref C) "_days" = some none)
    (vMOST_LENGTH : PySem.W.findIn K (.ref C) "MOST_LENGTH" = some (some (.int 600 tk_MOST_LENGTH)))
    (wMOST_LENGTH : PySem.W.specialIn K (.int 600 tk_MOST_LENGTH) "__get__" = some none)
    (rd : PySem.W.readsIn K C (.type "type") = true)
    (ga : PySem.W.specialIn K (.ref C) "__getattribute__" = some (some (.builtin "type.__getattribute__")))
    (xMOST_LENGTH : PySem.W.findCls K (.ref C) (.type "type") "MOST_LENGTH" = some (.val (.int 600 tq_MOST_LENGTH)))
    (ne : PySem.W.findIn K (.ref C) "__ne__" = some (some (.builtin "object.__ne__")))
    (mo : PySem.W.mroIn K C (.type "object") = some true)
    (tc1 : PySem.W.findIn K (.ref C) "__class__" = some (some (.builtin "object.__class__")))
    (tc2 : PySem.W.specialIn K (.builtin "object.__class__") "__get__" = some (some (.builtin "getset_descriptor.__get__")))
    (tc3 : PySem.W.takesIn K (.builtin "object.__class__") = some true)
    (a_MOST_ASKINGS : PySem.W.nsIn K mainGlobals "MOST_ASKINGS" = some (some (.int 1000000 tk_MOST_ASKINGS)))
    (a_is_day : PySem.W.nsIn K mainGlobals "is_day" = some (some (.ref f_is_day)))
    (l_is_day : K.lookup f_is_day = some ⟨oc_is_day, od_is_day, .func (PySem.W.fnOf "is_day" "is_day" (defArgs s_is_day) (defBody s_is_day) (defScope s_is_day) .none kV_is_day dc_is_day pm_is_day an_is_day cd_is_day ct_is_day), sl_is_day⟩)
    (c_is_day : PySem.W.codeIn K cd_is_day "is_day" = true)
    (k_is_day : PySem.W.keepIn K (.ref f_is_day) = true)
    (a_need_day : PySem.W.nsIn K mainGlobals "need_day" = some (some (.ref f_need_day)))
    (l_need_day : K.lookup f_need_day = some ⟨oc_need_day, od_need_day, .func (PySem.W.fnOf "need_day" "need_day" (defArgs s_need_day) (defBody s_need_day) (defScope s_need_day) .none kV_need_day dc_need_day pm_need_day an_need_day cd_need_day ct_need_day), sl_need_day⟩)
    (c_need_day : PySem.W.codeIn K cd_need_day "need_day" = true)
    (k_need_day : PySem.W.keepIn K (.ref f_need_day) = true)
    (a_is_count : PySem.W.nsIn K mainGlobals "is_count" = some (some (.ref f_is_count)))
    (l_is_count : K.lookup f_is_count = some ⟨oc_is_count, od_is_count, .func (PySem.W.fnOf "is_count" "is_count" (defArgs s_is_count) (defBody s_is_count) (defScope s_is_count) .none kV_is_count dc_is_count pm_is_count an_is_count cd_is_count ct_is_count), sl_is_count⟩)
    (c_is_count : PySem.W.codeIn K cd_is_count "is_count" = true)
    (k_is_count : PySem.W.keepIn K (.ref f_is_count) = true)
    (a_need_count : PySem.W.nsIn K mainGlobals "need_count" = some (some (.ref f_need_count)))
    (l_need_count : K.lookup f_need_count = some ⟨oc_need_count, od_need_count, .func (PySem.W.fnOf "need_count" "need_count" (defArgs s_need_count) (defBody s_need_count) (defScope s_need_count) .none kV_need_count dc_need_count pm_need_count an_need_count cd_need_count ct_need_count), sl_need_count⟩)
    (c_need_count : PySem.W.codeIn K cd_need_count "need_count" = true)
    (k_need_count : PySem.W.keepIn K (.ref f_need_count) = true)
    (a_need_length : PySem.W.nsIn K mainGlobals "need_length" = some (some (.ref f_need_length)))
    (l_need_length : K.lookup f_need_length = some ⟨oc_need_length, od_need_length, .func (PySem.W.fnOf "need_length" "need_length" (defArgs s_need_length) (defBody s_need_length) (defScope s_need_length) .none kV_need_length dc_need_length pm_need_length an_need_length cd_need_length ct_need_length), sl_need_length⟩)
    (c_need_length : PySem.W.codeIn K cd_need_length "need_length" = true)
    (k_need_length : PySem.W.keepIn K (.ref f_need_length) = true)
    (a_is_list : PySem.W.nsIn K mainGlobals "is_list" = some (some (.ref f_is_list)))
    (l_is_list : K.lookup f_is_list = some ⟨oc_is_list, od_is_list, .func (PySem.W.fnOf "is_list" "is_list" (defArgs s_is_list) (defBody s_is_list) (defScope s_is_list) .none kV_is_list dc_is_list pm_is_list an_is_list cd_is_list ct_is_list), sl_is_list⟩)
    (c_is_list : PySem.W.codeIn K cd_is_list "is_list" = true)
    (k_is_list : PySem.W.keepIn K (.ref f_is_list) = true)
    (a_is_table : PySem.W.nsIn K mainGlobals "is_table" = some (some (.ref f_is_table)))
    (l_is_table : K.lookup f_is_table = some ⟨oc_is_table, od_is_table, .func (PySem.W.fnOf "is_table" "is_table" (defArgs s_is_table) (defBody s_is_table) (defScope s_is_table) .none kV_is_table dc_is_table pm_is_table an_is_table cd_is_table ct_is_table), sl_is_table⟩)
    (c_is_table : PySem.W.codeIn K cd_is_table "is_table" = true)
    (k_is_table : PySem.W.keepIn K (.ref f_is_table) = true)
    (a_Table___init__ : PySem.W.findIn K (.ref C) "__init__" = some (some (.ref f_Table___init__)))
    (i_Table___init__ : PySem.W.isFn K (.ref f_Table___init__) = true)
    (l_Table___init__ : K.lookup f_Table___init__ = some ⟨oc_Table___init__, od_Table___init__, .func (PySem.W.fnOf "__init__" "Table.__init__" (defArgs s_Table___init__) (defBody s_Table___init__) (defScope s_Table___init__) .none kV_Table___init__ dc_Table___init__ pm_Table___init__ an_Table___init__ cd_Table___init__ ct_Table___init__), sl_Table___init__⟩)
    (c_Table___init__ : PySem.W.codeIn K cd_Table___init__ "Table.__init__" = true)
    (k_Table___init__ : PySem.W.keepIn K (.ref f_Table___init__) = true)
    (a_Table_length : PySem.W.findIn K (.ref C) "length" = some (some (.ref p_Table_length)))
    (g_Table_length : PySem.W.specialIn K (.ref p_Table_length) "__get__" = some (some (.builtin "property.__get__")))
    (t_Table_length : PySem.W.takesIn K (.ref p_Table_length) = some true)
    (r_Table_length : PySem.W.recIn K p_Table_length "property" = some (.ref f_Table_length :: rs_Table_length))
    (l_Table_length : K.lookup f_Table_length = some ⟨oc_Table_length, od_Table_length, .func (PySem.W.fnOf "length" "Table.length" (defArgs s_Table_length) (defBody s_Table_length) (defScope s_Table_length) .none kV_Table_length dc_Table_length pm_Table_length an_Table_length cd_Table_length ct_Table_length), sl_Table_length⟩)
    (c_Table_length : PySem.W.codeIn K cd_Table_length "Table.length" = true)
    (k_Table_length : PySem.W.keepIn K (.ref f_Table_length) = true)
    (a_Table_days : PySem.W.findIn K (.ref C) "days" = some (some (.ref f_Table_days)))
    (i_Table_days : PySem.W.isFn K (.ref f_Table_days) = true)
    (l_Table_days : K.lookup f_Table_days = some ⟨oc_Table_days, od_Table_days, .func (PySem.W.fnOf "days" "Table.days" (defArgs s_Table_days) (defBody s_Table_days) (defScope s_Table_days) .none kV_Table_days dc_Table_days pm_Table_days an_Table_days cd_Table_days ct_Table_days), sl_Table_days⟩)
    (c_Table_days : PySem.W.codeIn K cd_Table_days "Table.days" = true)
    (k_Table_days : PySem.W.keepIn K (.ref f_Table_days) = true)
    (a_Table_asked_rows : PySem.W.findIn K (.ref C) "asked_rows" = some (some (.ref f_Table_asked_rows)))
    (i_Table_asked_rows : PySem.W.isFn K (.ref f_Table_asked_rows) = true)
    (l_Table_asked_rows : K.lookup f_Table_asked_rows = some ⟨oc_Table_asked_rows, od_Table_asked_rows, .func (PySem.W.fnOf "asked_rows" "Table.asked_rows" (defArgs s_Table_asked_rows) (defBody s_Table_asked_rows) (defScope s_Table_asked_rows) .none kV_Table_asked_rows dc_Table_asked_rows pm_Table_asked_rows an_Table_asked_rows cd_Table_asked_rows ct_Table_asked_rows), sl_Table_asked_rows⟩)
    (c_Table_asked_rows : PySem.W.codeIn K cd_Table_asked_rows "Table.asked_rows" = true)
    (k_Table_asked_rows : PySem.W.keepIn K (.ref f_Table_asked_rows) = true)
    (a_Table_on : PySem.W.findIn K (.ref C) "on" = some (some (.ref f_Table_on)))
    (i_Table_on : PySem.W.isFn K (.ref f_Table_on) = true)
    (l_Table_on : K.lookup f_Table_on = some ⟨oc_Table_on, od_Table_on, .func (PySem.W.fnOf "on" "Table.on" (defArgs s_Table_on) (defBody s_Table_on) (defScope s_Table_on) .none kV_Table_on dc_Table_on pm_Table_on an_Table_on cd_Table_on ct_Table_on), sl_Table_on⟩)
    (c_Table_on : PySem.W.codeIn K cd_Table_on "Table.on" = true)
    (k_Table_on : PySem.W.keepIn K (.ref f_Table_on) = true)
    (a_Table_fixed_days : PySem.W.findIn K (.ref C) "fixed_days" = some (some (.ref f_Table_fixed_days)))
    (i_Table_fixed_days : PySem.W.isFn K (.ref f_Table_fixed_days) = true)
    (l_Table_fixed_days : K.lookup f_Table_fixed_days = some ⟨oc_Table_fixed_days, od_Table_fixed_days, .func (PySem.W.fnOf "fixed_days" "Table.fixed_days" (defArgs s_Table_fixed_days) (defBody s_Table_fixed_days) (defScope s_Table_fixed_days) .none kV_Table_fixed_days dc_Table_fixed_days pm_Table_fixed_days an_Table_fixed_days cd_Table_fixed_days ct_Table_fixed_days), sl_Table_fixed_days⟩)
    (c_Table_fixed_days : PySem.W.codeIn K cd_Table_fixed_days "Table.fixed_days" = true)
    (k_Table_fixed_days : PySem.W.keepIn K (.ref f_Table_fixed_days) = true)
    (a_Table_moved : PySem.W.findIn K (.ref C) "moved" = some (some (.ref f_Table_moved)))
    (i_Table_moved : PySem.W.isFn K (.ref f_Table_moved) = true)
    (l_Table_moved : K.lookup f_Table_moved = some ⟨oc_Table_moved, od_Table_moved, .func (PySem.W.fnOf "moved" "Table.moved" (defArgs s_Table_moved) (defBody s_Table_moved) (defScope s_Table_moved) .none kV_Table_moved dc_Table_moved pm_Table_moved an_Table_moved cd_Table_moved ct_Table_moved), sl_Table_moved⟩)
    (c_Table_moved : PySem.W.codeIn K cd_Table_moved "Table.moved" = true)
    (k_Table_moved : PySem.W.keepIn K (.ref f_Table_moved) = true)
    (a_Table_asked_later : PySem.W.findIn K (.ref C) "asked_later" = some (some (.ref f_Table_asked_later)))
    (i_Table_asked_later : PySem.W.isFn K (.ref f_Table_asked_later) = true)
    (l_Table_asked_later : K.lookup f_Table_asked_later = some ⟨oc_Table_asked_later, od_Table_asked_later, .func (PySem.W.fnOf "asked_later" "Table.asked_later" (defArgs s_Table_asked_later) (defBody s_Table_asked_later) (defScope s_Table_asked_later) .none kV_Table_asked_later dc_Table_asked_later pm_Table_asked_later an_Table_asked_later cd_Table_asked_later ct_Table_asked_later), sl_Table_asked_later⟩)
    (c_Table_asked_later : PySem.W.codeIn K cd_Table_asked_later "Table.asked_later" = true)
    (k_Table_asked_later : PySem.W.keepIn K (.ref f_Table_asked_later) = true)
    (a_Table_stretched : PySem.W.findIn K (.ref C) "stretched" = some (some (.ref f_Table_stretched)))
    (i_Table_stretched : PySem.W.isFn K (.ref f_Table_stretched) = true)
    (l_Table_stretched : K.lookup f_Table_stretched = some ⟨oc_Table_stretched, od_Table_stretched, .func (PySem.W.fnOf "stretched" "Table.stretched" (defArgs s_Table_stretched) (defBody s_Table_stretched) (defScope s_Table_stretched) .none kV_Table_stretched dc_Table_stretched pm_Table_stretched an_Table_stretched cd_Table_stretched ct_Table_stretched), sl_Table_stretched⟩)
    (c_Table_stretched : PySem.W.codeIn K cd_Table_stretched "Table.stretched" = true)
    (k_Table_stretched : PySem.W.keepIn K (.ref f_Table_stretched) = true)
    (a_Table_shortest : PySem.W.findIn K (.ref C) "shortest" = some (some (.ref f_Table_shortest)))
    (i_Table_shortest : PySem.W.isFn K (.ref f_Table_shortest) = true)
    (l_Table_shortest : K.lookup f_Table_shortest = some ⟨oc_Table_shortest, od_Table_shortest, .func (PySem.W.fnOf "shortest" "Table.shortest" (defArgs s_Table_shortest) (defBody s_Table_shortest) (defScope s_Table_shortest) .none kV_Table_shortest dc_Table_shortest pm_Table_shortest an_Table_shortest cd_Table_shortest ct_Table_shortest), sl_Table_shortest⟩)
    (c_Table_shortest : PySem.W.codeIn K cd_Table_shortest "Table.shortest" = true)
    (k_Table_shortest : PySem.W.keepIn K (.ref f_Table_shortest) = true)
    (a_Table_plain : PySem.W.findCls K (.ref C) (.type "type") "plain" = some (.get (.builtin "classmethod.__get__") (.ref p_Table_plain) .none (.ref C)))
    (r_Table_plain : PySem.W.recIn K p_Table_plain "classmethod" = some (.ref f_Table_plain :: rs_Table_plain))
    (fi_Table_plain : PySem.W.fnIn K f_Table_plain = true)
    (l_Table_plain : K.lookup f_Table_plain = some ⟨oc_Table_plain, od_Table_plain, .func (PySem.W.fnOf "plain" "Table.plain" (defArgs s_Table_plain) (defBody s_Table_plain) (defScope s_Table_plain) (.ref dT_Table_plain) kV_Table_plain dc_Table_plain pm_Table_plain an_Table_plain cd_Table_plain ct_Table_plain), sl_Table_plain⟩)
    (lT_Table_plain : K.lookup dT_Table_plain = some ⟨.type "tuple", none, .seq #[.int 1 tkd_Table_plain] nT_Table_plain, #[]⟩)
    (c_Table_plain : PySem.W.codeIn K cd_Table_plain "Table.plain" = true)
    (k_Table_plain : PySem.W.keepIn K (.ref f_Table_plain) = true)
    (a_Table___eq__ : PySem.W.findIn K (.ref C) "__eq__" = some (some (.ref f_Table___eq__)))
    (i_Table___eq__ : PySem.W.isFn K (.ref f_Table___eq__) = true)
    (l_Table___eq__ : K.lookup f_Table___eq__ = some ⟨oc_Table___eq__, od_Table___eq__, .func (PySem.W.fnOf "__eq__" "Table.__eq__" (defArgs s_Table___eq__) (defBody s_Table___eq__) (defScope s_Table___eq__) .none kV_Table___eq__ dc_Table___eq__ pm_Table___eq__ an_Table___eq__ cd_Table___eq__ ct_Table___eq__), sl_Table___eq__⟩)
    (c_Table___eq__ : PySem.W.codeIn K cd_Table___eq__ "Table.__eq__" = true)
    (k_Table___eq__ : PySem.W.keepIn K (.ref f_Table___eq__) = true)
    (a__repeats : PySem.W.nsIn K mainGlobals "_repeats" = some (some (.ref f__repeats)))
    (l__repeats : K.lookup f__repeats = some ⟨oc__repeats, od__repeats, .func (PySem.W.fnOf "_repeats" "_repeats" (defArgs s__repeats) (defBody s__repeats) (defScope s__repeats) .none kV__repeats dc__repeats pm__repeats an__repeats cd__repeats ct__repeats), sl__repeats⟩)
    (c__repeats : PySem.W.codeIn K cd__repeats "_repeats" = true)
    (k__repeats : PySem.W.keepIn K (.ref f__repeats) = true)
    (a_behind : PySem.W.nsIn K mainGlobals "behind" = some (some (.ref f_behind)))
    (l_behind : K.lookup f_behind = some ⟨oc_behind, od_behind, .func (PySem.W.fnOf "behind" "behind" (defArgs s_behind) (defBody s_behind) (defScope s_behind) .none kV_behind dc_behind pm_behind an_behind cd_behind ct_behind), sl_behind⟩)
    (c_behind : PySem.W.codeIn K cd_behind "behind" = true)
    (k_behind : PySem.W.keepIn K (.ref f_behind) = true)
    (a_times : PySem.W.nsIn K mainGlobals "times" = some (some (.ref f_times)))
    (l_times : K.lookup f_times = some ⟨oc_times, od_times, .func (PySem.W.fnOf "times" "times" (defArgs s_times) (defBody s_times) (defScope s_times) .none kV_times dc_times pm_times an_times cd_times ct_times), sl_times⟩)
    (c_times : PySem.W.codeIn K cd_times "times" = true)
    (k_times : PySem.W.keepIn K (.ref f_times) = true)
    (a_run_end : PySem.W.nsIn K mainGlobals "run_end" = some (some (.ref f_run_end)))
    (l_run_end : K.lookup f_run_end = some ⟨oc_run_end, od_run_end, .func (PySem.W.fnOf "run_end" "run_end" (defArgs s_run_end) (defBody s_run_end) (defScope s_run_end) .none kV_run_end dc_run_end pm_run_end an_run_end cd_run_end ct_run_end), sl_run_end⟩)
    (c_run_end : PySem.W.codeIn K cd_run_end "run_end" = true)
    (k_run_end : PySem.W.keepIn K (.ref f_run_end) = true)
    (a_rounds : PySem.W.nsIn K mainGlobals "rounds" = some (some (.ref f_rounds)))
    (l_rounds : K.lookup f_rounds = some ⟨oc_rounds, od_rounds, .func (PySem.W.fnOf "rounds" "rounds" (defArgs s_rounds) (defBody s_rounds) (defScope s_rounds) .none kV_rounds dc_rounds pm_rounds an_rounds cd_rounds ct_rounds), sl_rounds⟩)
    (c_rounds : PySem.W.codeIn K cd_rounds "rounds" = true)
    (k_rounds : PySem.W.keepIn K (.ref f_rounds) = true)
    (a_round_of : PySem.W.nsIn K mainGlobals "round_of" = some (some (.ref f_round_of)))
    (l_round_of : K.lookup f_round_of = some ⟨oc_round_of, od_round_of, .func (PySem.W.fnOf "round_of" "round_of" (defArgs s_round_of) (defBody s_round_of) (defScope s_round_of) .none kV_round_of dc_round_of pm_round_of an_round_of cd_round_of ct_round_of), sl_round_of⟩)
    (c_round_of : PySem.W.codeIn K cd_round_of "round_of" = true)
    (k_round_of : PySem.W.keepIn K (.ref f_round_of) = true)
    (a_pace : PySem.W.nsIn K mainGlobals "pace" = some (some (.ref f_pace)))
    (l_pace : K.lookup f_pace = some ⟨oc_pace, od_pace, .func (PySem.W.fnOf "pace" "pace" (defArgs s_pace) (defBody s_pace) (defScope s_pace) .none kV_pace dc_pace pm_pace an_pace cd_pace ct_pace), sl_pace⟩)
    (c_pace : PySem.W.codeIn K cd_pace "pace" = true)
    (k_pace : PySem.W.keepIn K (.ref f_pace) = true)
    (a__common_length : PySem.W.nsIn K mainGlobals "_common_length" = some (some (.ref f__common_length)))
    (l__common_length : K.lookup f__common_length = some ⟨oc__common_length, od__common_length, .func (PySem.W.fnOf "_common_length" "_common_length" (defArgs s__common_length) (defBody s__common_length) (defScope s__common_length) .none kV__common_length dc__common_length pm__common_length an__common_length cd__common_length ct__common_length), sl__common_length⟩)
    (c__common_length : PySem.W.codeIn K cd__common_length "_common_length" = true)
    (k__common_length : PySem.W.keepIn K (.ref f__common_length) = true)
    (a__need_askings : PySem.W.nsIn K mainGlobals "_need_askings" = some (some (.ref f__need_askings)))
    (l__need_askings : K.lookup f__need_askings = some ⟨oc__need_askings, od__need_askings, .func (PySem.W.fnOf "_need_askings" "_need_askings" (defArgs s__need_askings) (defBody s__need_askings) (defScope s__need_askings) .none kV__need_askings dc__need_askings pm__need_askings an__need_askings cd__need_askings ct__need_askings), sl__need_askings⟩)
    (c__need_askings : PySem.W.codeIn K cd__need_askings "_need_askings" = true)
    (k__need_askings : PySem.W.keepIn K (.ref f__need_askings) = true)
    (a__round_from : PySem.W.nsIn K mainGlobals "_round_from" = some (some (.ref f__round_from)))
    (l__round_from : K.lookup f__round_from = some ⟨oc__round_from, od__round_from, .func (PySem.W.fnOf "_round_from" "_round_from" (defArgs s__round_from) (defBody s__round_from) (defScope s__round_from) .none kV__round_from dc__round_from pm__round_from an__round_from cd__round_from ct__round_from), sl__round_from⟩)
    (c__round_from : PySem.W.codeIn K cd__round_from "_round_from" = true)
    (k__round_from : PySem.W.keepIn K (.ref f__round_from) = true)
    (a__law_pot : PySem.W.nsIn K mainGlobals "_law_pot" = some (some (.ref f__law_pot)))
    (l__law_pot : K.lookup f__law_pot = some ⟨oc__law_pot, od__law_pot, .func (PySem.W.fnOf "_law_pot" "_law_pot" (defArgs s__law_pot) (defBody s__law_pot) (defScope s__law_pot) .none kV__law_pot dc__law_pot pm__law_pot an__law_pot cd__law_pot ct__law_pot), sl__law_pot⟩)
    (c__law_pot : PySem.W.codeIn K cd__law_pot "_law_pot" = true)
    (k__law_pot : PySem.W.keepIn K (.ref f__law_pot) = true)
    (a__law_draw : PySem.W.nsIn K mainGlobals "_law_draw" = some (some (.ref f__law_draw)))
    (l__law_draw : K.lookup f__law_draw = some ⟨oc__law_draw, od__law_draw, .func (PySem.W.fnOf "_law_draw" "_law_draw" (defArgs s__law_draw) (defBody s__law_draw) (defScope s__law_draw) .none kV__law_draw dc__law_draw pm__law_draw an__law_draw cd__law_draw ct__law_draw), sl__law_draw⟩)
    (c__law_draw : PySem.W.codeIn K cd__law_draw "_law_draw" = true)
    (k__law_draw : PySem.W.keepIn K (.ref f__law_draw) = true)
    (a__law_pick : PySem.W.nsIn K mainGlobals "_law_pick" = some (some (.ref f__law_pick)))
    (l__law_pick : K.lookup f__law_pick = some ⟨oc__law_pick, od__law_pick, .func (PySem.W.fnOf "_law_pick" "_law_pick" (defArgs s__law_pick) (defBody s__law_pick) (defScope s__law_pick) .none kV__law_pick dc__law_pick pm__law_pick an__law_pick cd__law_pick ct__law_pick), sl__law_pick⟩)
    (c__law_pick : PySem.W.codeIn K cd__law_pick "_law_pick" = true)
    (k__law_pick : PySem.W.keepIn K (.ref f__law_pick) = true)
    (a__law_days : PySem.W.nsIn K mainGlobals "_law_days" = some (some (.ref f__law_days)))
    (l__law_days : K.lookup f__law_days = some ⟨oc__law_days, od__law_days, .func (PySem.W.fnOf "_law_days" "_law_days" (defArgs s__law_days) (defBody s__law_days) (defScope s__law_days) .none kV__law_days dc__law_days pm__law_days an__law_days cd__law_days ct__law_days), sl__law_days⟩)
    (c__law_days : PySem.W.codeIn K cd__law_days "_law_days" = true)
    (k__law_days : PySem.W.keepIn K (.ref f__law_days) = true)
    (a__law_on : PySem.W.nsIn K mainGlobals "_law_on" = some (some (.ref f__law_on)))
    (l__law_on : K.lookup f__law_on = some ⟨oc__law_on, od__law_on, .func (PySem.W.fnOf "_law_on" "_law_on" (defArgs s__law_on) (defBody s__law_on) (defScope s__law_on) .none kV__law_on dc__law_on pm__law_on an__law_on cd__law_on ct__law_on), sl__law_on⟩)
    (c__law_on : PySem.W.codeIn K cd__law_on "_law_on" = true)
    (k__law_on : PySem.W.keepIn K (.ref f__law_on) = true)
    (a__law_low : PySem.W.nsIn K mainGlobals "_law_low" = some (some (.ref f__law_low)))
    (l__law_low : K.lookup f__law_low = some ⟨oc__law_low, od__law_low, .func (PySem.W.fnOf "_law_low" "_law_low" (defArgs s__law_low) (defBody s__law_low) (defScope s__law_low) .none kV__law_low dc__law_low pm__law_low an__law_low cd__law_low ct__law_low), sl__law_low⟩)
    (c__law_low : PySem.W.codeIn K cd__law_low "_law_low" = true)
    (k__law_low : PySem.W.keepIn K (.ref f__law_low) = true)
    (a__law_place : PySem.W.nsIn K mainGlobals "_law_place" = some (some (.ref f__law_place)))
    (l__law_place : K.lookup f__law_place = some ⟨oc__law_place, od__law_place, .func (PySem.W.fnOf "_law_place" "_law_place" (defArgs s__law_place) (defBody s__law_place) (defScope s__law_place) .none kV__law_place dc__law_place pm__law_place an__law_place cd__law_place ct__law_place), sl__law_place⟩)
    (c__law_place : PySem.W.codeIn K cd__law_place "_law_place" = true)
    (k__law_place : PySem.W.keepIn K (.ref f__law_place) = true)
    (a__law_round : PySem.W.nsIn K mainGlobals "_law_round" = some (some (.ref f__law_round)))
    (l__law_round : K.lookup f__law_round = some ⟨oc__law_round, od__law_round, .func (PySem.W.fnOf "_law_round" "_law_round" (defArgs s__law_round) (defBody s__law_round) (defScope s__law_round) .none kV__law_round dc__law_round pm__law_round an__law_round cd__law_round ct__law_round), sl__law_round⟩)
    (c__law_round : PySem.W.codeIn K cd__law_round "_law_round" = true)
    (k__law_round : PySem.W.keepIn K (.ref f__law_round) = true)
    (a__law_rounds : PySem.W.nsIn K mainGlobals "_law_rounds" = some (some (.ref f__law_rounds)))
    (l__law_rounds : K.lookup f__law_rounds = some ⟨oc__law_rounds, od__law_rounds, .func (PySem.W.fnOf "_law_rounds" "_law_rounds" (defArgs s__law_rounds) (defBody s__law_rounds) (defScope s__law_rounds) .none kV__law_rounds dc__law_rounds pm__law_rounds an__law_rounds cd__law_rounds ct__law_rounds), sl__law_rounds⟩)
    (c__law_rounds : PySem.W.codeIn K cd__law_rounds "_law_rounds" = true)
    (k__law_rounds : PySem.W.keepIn K (.ref f__law_rounds) = true)
    (a__law_rounds_right : PySem.W.nsIn K mainGlobals "_law_rounds_right" = some (some (.ref f__law_rounds_right)))
    (l__law_rounds_right : K.lookup f__law_rounds_right = some ⟨oc__law_rounds_right, od__law_rounds_right, .func (PySem.W.fnOf "_law_rounds_right" "_law_rounds_right" (defArgs s__law_rounds_right) (defBody s__law_rounds_right) (defScope s__law_rounds_right) .none kV__law_rounds_right dc__law_rounds_right pm__law_rounds_right an__law_rounds_right cd__law_rounds_right ct__law_rounds_right), sl__law_rounds_right⟩)
    (c__law_rounds_right : PySem.W.codeIn K cd__law_rounds_right "_law_rounds_right" = true)
    (k__law_rounds_right : PySem.W.keepIn K (.ref f__law_rounds_right) = true)
    (a__law_day_right : PySem.W.nsIn K mainGlobals "_law_day_right" = some (some (.ref f__law_day_right)))
    (l__law_day_right : K.lookup f__law_day_right = some ⟨oc__law_day_right, od__law_day_right, .func (PySem.W.fnOf "_law_day_right" "_law_day_right" (defArgs s__law_day_right) (defBody s__law_day_right) (defScope s__law_day_right) .none kV__law_day_right dc__law_day_right pm__law_day_right an__law_day_right cd__law_day_right ct__law_day_right), sl__law_day_right⟩)
    (c__law_day_right : PySem.W.codeIn K cd__law_day_right "_law_day_right" = true)
    (k__law_day_right : PySem.W.keepIn K (.ref f__law_day_right) = true)
    (a__law_others_right : PySem.W.nsIn K mainGlobals "_law_others_right" = some (some (.ref f__law_others_right)))
    (l__law_others_right : K.lookup f__law_others_right = some ⟨oc__law_others_right, od__law_others_right, .func (PySem.W.fnOf "_law_others_right" "_law_others_right" (defArgs s__law_others_right) (defBody s__law_others_right) (defScope s__law_others_right) .none kV__law_others_right dc__law_others_right pm__law_others_right an__law_others_right cd__law_others_right ct__law_others_right), sl__law_others_right⟩)
    (c__law_others_right : PySem.W.codeIn K cd__law_others_right "_law_others_right" = true)
    (k__law_others_right : PySem.W.keepIn K (.ref f__law_others_right) = true)
    (a__law_long_right : PySem.W.nsIn K mainGlobals "_law_long_right" = some (some (.ref f__law_long_right)))
    (l__law_long_right : K.lookup f__law_long_right = some ⟨oc__law_long_right, od__law_long_right, .func (PySem.W.fnOf "_law_long_right" "_law_long_right" (defArgs s__law_long_right) (defBody s__law_long_right) (defScope s__law_long_right) .none kV__law_long_right dc__law_long_right pm__law_long_right an__law_long_right cd__law_long_right ct__law_long_right), sl__law_long_right⟩)
    (c__law_long_right : PySem.W.codeIn K cd__law_long_right "_law_long_right" = true)
    (k__law_long_right : PySem.W.keepIn K (.ref f__law_long_right) = true)
    (a__law_right : PySem.W.nsIn K mainGlobals "_law_right" = some (some (.ref f__law_right)))
    (l__law_right : K.lookup f__law_right = some ⟨oc__law_right, od__law_right, .func (PySem.W.fnOf "_law_right" "_law_right" (defArgs s__law_right) (defBody s__law_right) (defScope s__law_right) .none kV__law_right dc__law_right pm__law_right an__law_right cd__law_right ct__law_right), sl__law_right⟩)
    (c__law_right : PySem.W.codeIn K cd__law_right "_law_right" = true)
    (k__law_right : PySem.W.keepIn K (.ref f__law_right) = true)
    (a_law : PySem.W.nsIn K mainGlobals "law" = some (some (.ref f_law)))
    (l_law : K.lookup f_law = some ⟨oc_law, od_law, .func (PySem.W.fnOf "law" "law" (defArgs s_law) (defBody s_law) (defScope s_law) .none kV_law dc_law pm_law an_law cd_law ct_law), sl_law⟩)
    (c_law : PySem.W.codeIn K cd_law "law" = true)
    (k_law : PySem.W.keepIn K (.ref f_law) = true)
    (b_isinstance : PySem.W.nsIn K mainGlobals "isinstance" = some none)
    (b_int : PySem.W.nsIn K mainGlobals "int" = some none)
    (b_bool : PySem.W.nsIn K mainGlobals "bool" = some none)
    (b_list : PySem.W.nsIn K mainGlobals "list" = some none)
    (b_tuple : PySem.W.nsIn K mainGlobals "tuple" = some none)
    (b_len : PySem.W.nsIn K mainGlobals "len" = some none)
    (b_enumerate : PySem.W.nsIn K mainGlobals "enumerate" = some none)
    (b_range : PySem.W.nsIn K mainGlobals "range" = some none)
    (b_divmod : PySem.W.nsIn K mainGlobals "divmod" = some none)
    (b_min : PySem.W.nsIn K mainGlobals "min" = some none)
    (b_max : PySem.W.nsIn K mainGlobals "max" = some none)
    (b_all : PySem.W.nsIn K mainGlobals "all" = some none)
    (b_abs : PySem.W.nsIn K mainGlobals "abs" = some none)
    (b_repr : PySem.W.nsIn K mainGlobals "repr" = some none)
    (b_sorted : PySem.W.nsIn K mainGlobals "sorted" = some none)
    (b_set : PySem.W.nsIn K mainGlobals "set" = some none)
    (b_lcm : PySem.W.nsIn K mainGlobals "lcm" = some (some (.builtin "math.lcm")))
    (b_gcd : PySem.W.nsIn K mainGlobals "gcd" = some (some (.builtin "math.gcd")))
    : ∃ fd : FuncData, (∀ (s : Shared) (u : Value), BindsTo s fd ⟨[u], []⟩ [("_law_script", u)]) ∧ ∀ base : Heap, K.In base → base.Ns mainGlobals mg → FnG P w K mg base CX0 13 fa fd ["_law_script"] (sp_law K) := by
  have ef : fa = f_law := by
    have z := PySem.W.mg_of X G a_law
    rw [hmg] at z
    cases z
    rfl
  subst ef
  have T : Txt K mg C := { cl := ⟨pg, hd, po, sa⟩, nD := n_days, kc := kc, mki := mk, mg_Table := PySem.W.mg_of X G aC, tyC := fun H a dx fs e => .ins e ⟨pg, hd, po, sa⟩ tc1 tc2 tc3 mo, cM := ⟨_, _, ⟨rd, ga⟩, ⟨xMOST_LENGTH, ⟨_, rfl⟩⟩⟩, cL := ⟨_, vMOST_LENGTH, ⟨_, rfl⟩, wMOST_LENGTH, rfl⟩, mg_MOST_ASKINGS := ⟨_, PySem.W.mg_of X G a_MOST_ASKINGS⟩, b_isinstance := PySem.W.mg_none_of X G b_isinstance, b_int := PySem.W.mg_none_of X G b_int, b_bool := PySem.W.mg_none_of X G b_bool, b_list := PySem.W.mg_none_of X G b_list, b_tuple := PySem.W.mg_none_of X G b_tuple, b_len := PySem.W.mg_none_of X G b_len, b_enumerate := PySem.W.mg_none_of X G b_enumerate, b_range := PySem.W.mg_none_of X G b_range, b_divmod := PySem.W.mg_none_of X G b_divmod, b_min := PySem.W.mg_none_of X G b_min, b_max := PySem.W.mg_none_of X G b_max, b_all := PySem.W.mg_none_of X G b_all, b_abs := PySem.W.mg_none_of X G b_abs, b_repr := PySem.W.mg_none_of X G b_repr, b_sorted := PySem.W.mg_none_of X G b_sorted, b_set := PySem.W.mg_none_of X G b_set, b_lcm := PySem.W.mg_of X G b_lcm, b_gcd := PySem.W.mg_of X G b_gcd }
  have F_is_day := fun_mk (K := K) (st := s_is_day) l_is_day c_is_day k_is_day
  have bd_is_day : Binds K _ ["value"] [] := F_is_day.binds (fun _ _ _ _ _ _ => us_1 fun _ => rfl)
  have F_need_day := fun_mk (K := K) (st := s_need_day) l_need_day c_need_day k_need_day
  have bd_need_day : Binds K _ ["value"] [] := F_need_day.binds (fun _ _ _ _ _ _ => us_1 fun _ => rfl)
  have F_is_count := fun_mk (K := K) (st := s_is_count) l_is_count c_is_count k_is_count
  have bd_is_count : Binds K _ ["value"] [] := F_is_count.binds (fun _ _ _ _ _ _ => us_1 fun _ => rfl)
  have F_need_count := fun_mk (K := K) (st := s_need_count) l_need_count c_need_count k_need_count
  have bd_need_count : Binds K _ ["value"] [] := F_need_count.binds (fun _ _ _ _ _ _ => us_1 fun _ => rfl)
  have F_need_length := fun_mk (K := K) (st := s_need_length) l_need_length c_need_length k_need_length
  have bd_need_length : Binds K _ ["value"] [] := F_need_length.binds (fun _ _ _ _ _ _ => us_1 fun _ => rfl)
  have F_is_list := fun_mk (K := K) (st := s_is_list) l_is_list c_is_list k_is_list
  have bd_is_list : Binds K _ ["value"] [] := F_is_list.binds (fun _ _ _ _ _ _ => us_1 fun _ => rfl)
  have F_is_table := fun_mk (K := K) (st := s_is_table) l_is_table c_is_table k_is_table
  have bd_is_table : Binds K _ ["value"] [] := F_is_table.binds (fun _ _ _ _ _ _ => us_1 fun _ => rfl)
  have F_Table___init__ := fun_mk (K := K) (st := s_Table___init__) l_Table___init__ c_Table___init__ k_Table___init__
  have bd_Table___init__ : Binds K _ ["self", "days"] [] := F_Table___init__.binds (fun _ _ _ _ _ _ => us_2 fun _ _ => rfl)
  have F_Table_length := fun_mk (K := K) (st := s_Table_length) l_Table_length c_Table_length k_Table_length
  have bd_Table_length : Binds K _ ["self"] [] := F_Table_length.binds (fun _ _ _ _ _ _ => us_1 fun _ => rfl)
  have F_Table_days := fun_mk (K := K) (st := s_Table_days) l_Table_days c_Table_days k_Table_days
  have bd_Table_days : Binds K _ ["self"] [] := F_Table_days.binds (fun _ _ _ _ _ _ => us_1 fun _ => rfl)
  have F_Table_asked_rows := fun_mk (K := K) (st := s_Table_asked_rows) l_Table_asked_rows c_Table_asked_rows k_Table_asked_rows
  have bd_Table_asked_rows : Binds K _ ["self"] [] := F_Table_asked_rows.binds (fun _ _ _ _ _ _ => us_1 fun _ => rfl)
  have F_Table_on := fun_mk (K := K) (st := s_Table_on) l_Table_on c_Table_on k_Table_on
  have bd_Table_on : Binds K _ ["self", "day"] [] := F_Table_on.binds (fun _ _ _ _ _ _ => us_2 fun _ _ => rfl)
  have F_Table_fixed_days := fun_mk (K := K) (st := s_Table_fixed_days) l_Table_fixed_days c_Table_fixed_days k_Table_fixed_days
  have bd_Table_fixed_days : Binds K _ ["self"] [] := F_Table_fixed_days.binds (fun _ _ _ _ _ _ => us_1 fun _ => rfl)
  have F_Table_moved := fun_mk (K := K) (st := s_Table_moved) l_Table_moved c_Table_moved k_Table_moved
  have bd_Table_moved : Binds K _ ["self", "day"] [] := F_Table_moved.binds (fun _ _ _ _ _ _ => us_2 fun _ _ => rfl)
  have F_Table_asked_later := fun_mk (K := K) (st := s_Table_asked_later) l_Table_asked_later c_Table_asked_later k_Table_asked_later
  have bd_Table_asked_later : Binds K _ ["self", "day"] [] := F_Table_asked_later.binds (fun _ _ _ _ _ _ => us_2 fun _ _ => rfl)
  have F_Table_stretched := fun_mk (K := K) (st := s_Table_stretched) l_Table_stretched c_Table_stretched k_Table_stretched
  have bd_Table_stretched : Binds K _ ["self", "count"] [] := F_Table_stretched.binds (fun _ _ _ _ _ _ => us_2 fun _ _ => rfl)
  have F_Table_shortest := fun_mk (K := K) (st := s_Table_shortest) l_Table_shortest c_Table_shortest k_Table_shortest
  have bd_Table_shortest : Binds K _ ["self"] [] := F_Table_shortest.binds (fun _ _ _ _ _ _ => us_1 fun _ => rfl)
  have F_Table_plain : L2.FunD K "plain" "Table.plain" (defArgs s_Table_plain) (defBody s_Table_plain) (defScope s_Table_plain) [.int 1] [] f_Table_plain _ := ⟨⟨_, _, _, _, _, _, _, _, _, _, rfl, l_Table_plain, c_Table_plain, .inr ⟨fun z => (nomatch z), dT_Table_plain, _, [.int 1 tkd_Table_plain], _, rfl, lT_Table_plain, rfl, .cons ⟨_, rfl⟩ .nil⟩, .inl rfl⟩, k_Table_plain⟩
  have bd_Table_plain : Binds K _ ["cls", "count"] [] := bd_dfl F_Table_plain (fun _ _ _ _ _ _ _ _ _ _ => ⟨_, rfl, rfl⟩)
  have F_Table___eq__ := fun_mk (K := K) (st := s_Table___eq__) l_Table___eq__ c_Table___eq__ k_Table___eq__
  have bd_Table___eq__ : Binds K _ ["self", "other"] [] := F_Table___eq__.binds (fun _ _ _ _ _ _ => us_2 fun _ _ => rfl)
  have F__repeats := fun_mk (K := K) (st := s__repeats) l__repeats c__repeats k__repeats
  have bd__repeats : Binds K _ ["table", "length"] [] := F__repeats.binds (fun _ _ _ _ _ _ => us_2 fun _ _ => rfl)
  have F_behind := fun_mk (K := K) (st := s_behind) l_behind c_behind k_behind
  have bd_behind : Binds K _ ["table", "other_table"] [] := F_behind.binds (fun _ _ _ _ _ _ => us_2 fun _ _ => rfl)
  have F_times := fun_mk (K := K) (st := s_times) l_times c_times k_times
  have bd_times : Binds K _ ["table", "count"] [] := F_times.binds (fun _ _ _ _ _ _ => us_2 fun _ _ => rfl)
  have F_run_end := fun_mk (K := K) (st := s_run_end) l_run_end c_run_end k_run_end
  have bd_run_end : Binds K _ ["table", "day", "count"] [] := F_run_end.binds (fun _ _ _ _ _ _ => us_3 fun _ _ _ => rfl)
  have F_rounds := fun_mk (K := K) (st := s_rounds) l_rounds c_rounds k_rounds
  have bd_rounds : Binds K _ ["table"] [] := F_rounds.binds (fun _ _ _ _ _ _ => us_1 fun _ => rfl)
  have F_round_of := fun_mk (K := K) (st := s_round_of) l_round_of c_round_of k_round_of
  have bd_round_of : Binds K _ ["table", "day"] [] := F_round_of.binds (fun _ _ _ _ _ _ => us_2 fun _ _ => rfl)
  have F_pace := fun_mk (K := K) (st := s_pace) l_pace c_pace k_pace
  have bd_pace : Binds K _ ["table"] [] := F_pace.binds (fun _ _ _ _ _ _ => us_1 fun _ => rfl)
  have F__common_length := fun_mk (K := K) (st := s__common_length) l__common_length c__common_length k__common_length
  have bd__common_length : Binds K _ ["table", "other_table"] [] := F__common_length.binds (fun _ _ _ _ _ _ => us_2 fun _ _ => rfl)
  have F__need_askings := fun_mk (K := K) (st := s__need_askings) l__need_askings c__need_askings k__need_askings
  have bd__need_askings : Binds K _ ["count"] [] := F__need_askings.binds (fun _ _ _ _ _ _ => us_1 fun _ => rfl)
  have F__round_from := fun_mk (K := K) (st := s__round_from) l__round_from c__round_from k__round_from
  have bd__round_from : Binds K _ ["table", "first"] [] := F__round_from.binds (fun _ _ _ _ _ _ => us_2 fun _ _ => rfl)
  have F__law_pot := fun_mk (K := K) (st := s__law_pot) l__law_pot c__law_pot k__law_pot
  have bd__law_pot : Binds K _ ["_law_script", "_law_k"] [] := F__law_pot.binds (fun _ _ _ _ _ _ => us_2 fun _ _ => rfl)
  have F__law_draw := fun_mk (K := K) (st := s__law_draw) l__law_draw c__law_draw k__law_draw
  have bd__law_draw : Binds K _ ["_law_pot_here", "_law_size"] [] := F__law_draw.binds (fun _ _ _ _ _ _ => us_2 fun _ _ => rfl)
  have F__law_pick := fun_mk (K := K) (st := s__law_pick) l__law_pick c__law_pick k__law_pick
  have bd__law_pick : Binds K _ ["_law_pot_here", "_law_some"] [] := F__law_pick.binds (fun _ _ _ _ _ _ => us_2 fun _ _ => rfl)
  have F__law_days := fun_mk (K := K) (st := s__law_days) l__law_days c__law_days k__law_days
  have bd__law_days : Binds K _ ["_law_pot_here", "_law_length", "_law_first"] [] := F__law_days.binds (fun _ _ _ _ _ _ => us_3 fun _ _ _ => rfl)
  have F__law_on := fun_mk (K := K) (st := s__law_on) l__law_on c__law_on k__law_on
  have bd__law_on : Binds K _ ["_law_days_here", "_law_day"] [] := F__law_on.binds (fun _ _ _ _ _ _ => us_2 fun _ _ => rfl)
  have F__law_low := fun_mk (K := K) (st := s__law_low) l__law_low c__law_low k__law_low
  have bd__law_low : Binds K _ ["_law_above", "_law_below"] [] := F__law_low.binds (fun _ _ _ _ _ _ => us_2 fun _ _ => rfl)
  have F__law_place := fun_mk (K := K) (st := s__law_place) l__law_place c__law_place k__law_place
  have bd__law_place : Binds K _ ["_law_days_here", "_law_day"] [] := F__law_place.binds (fun _ _ _ _ _ _ => us_2 fun _ _ => rfl)
  have F__law_round := fun_mk (K := K) (st := s__law_round) l__law_round c__law_round k__law_round
  have bd__law_round : Binds K _ ["_law_days_here", "_law_day"] [] := F__law_round.binds (fun _ _ _ _ _ _ => us_2 fun _ _ => rfl)
  have F__law_rounds := fun_mk (K := K) (st := s__law_rounds) l__law_rounds c__law_rounds k__law_rounds
  have bd__law_rounds : Binds K _ ["_law_days_here"] [] := F__law_rounds.binds (fun _ _ _ _ _ _ => us_1 fun _ => rfl)
  have F__law_rounds_right := fun_mk (K := K) (st := s__law_rounds_right) l__law_rounds_right c__law_rounds_right k__law_rounds_right
  have bd__law_rounds_right : Binds K _ ["_law_table", "_law_days_here"] [] := F__law_rounds_right.binds (fun _ _ _ _ _ _ => us_2 fun _ _ => rfl)
  have F__law_day_right := fun_mk (K := K) (st := s__law_day_right) l__law_day_right c__law_day_right k__law_day_right
  have bd__law_day_right : Binds K _ ["_law_pot_here", "_law_table", "_law_days_here", "_law_day"] [] := F__law_day_right.binds (fun _ _ _ _ _ _ => us_4 fun _ _ _ _ => rfl)
  have F__law_others_right := fun_mk (K := K) (st := s__law_others_right) l__law_others_right c__law_others_right k__law_others_right
  have bd__law_others_right : Binds K _ ["_law_pot_here", "_law_table", "_law_days_here"] [] := F__law_others_right.binds (fun _ _ _ _ _ _ => us_3 fun _ _ _ => rfl)
  have F__law_long_right := fun_mk (K := K) (st := s__law_long_right) l__law_long_right c__law_long_right k__law_long_right
  have bd__law_long_right : Binds K _ ["_law_pot_here"] [] := F__law_long_right.binds (fun _ _ _ _ _ _ => us_1 fun _ => rfl)
  have F__law_right := fun_mk (K := K) (st := s__law_right) l__law_right c__law_right k__law_right
  have bd__law_right : Binds K _ ["_law_pot_here"] [] := F__law_right.binds (fun _ _ _ _ _ _ => us_1 fun _ => rfl)
  have F_law := fun_mk (K := K) (st := s_law) l_law c_law k_law
  have bd_law : Binds K _ ["_law_script"] [] := F_law.binds (fun _ _ _ _ _ _ => us_1 fun _ => rfl)
  have kb_rounds_table := kb_of (ps := ["table"]) (ks := ["table"]) (n := 0) (g := fun us ws => us ++ ws) (gV := fun vs zs => vs ++ zs) F_rounds (by intro _ _ _ _ _ _ us ws h1 h2; cases us_nil h1; obtain ⟨w0, tw0, rfl, kw0⟩ := us_cons (n := 0) h2; cases us_nil kw0; rfl) (fun a b => a.append b)
  have kb_pace_table := kb_of (ps := ["table"]) (ks := ["table"]) (n := 0) (g := fun us ws => us ++ ws) (gV := fun vs zs => vs ++ zs) F_pace (by intro _ _ _ _ _ _ us ws h1 h2; cases us_nil h1; obtain ⟨w0, tw0, rfl, kw0⟩ := us_cons (n := 0) h2; cases us_nil kw0; rfl) (fun a b => a.append b)
  have kb_round_of_day_table := kb_of (ps := ["table", "day"]) (ks := ["day", "table"]) (n := 0) (g := fun us ws => us ++ ws.reverse) (gV := fun vs zs => vs ++ zs.reverse) F_round_of (by intro _ _ _ _ _ _ us ws h1 h2; cases us_nil h1; obtain ⟨w0, tw0, rfl, kw0⟩ := us_cons (n := 1) h2; obtain ⟨w1, tw1, rfl, kw1⟩ := us_cons (n := 0) kw0; cases us_nil kw1; rfl) (fun a b => a.append (vals_rev b))
  refine ⟨PySem.W.fnOf "law" "law" (defArgs s_law) (defBody s_law) (defScope s_law) .none kV_law dc_law pm_law an_law cd_law ct_law, ?bb, fun base kb nb => ?_⟩
  rotate_left
  have mkI : Mk K C f_Table___init__ := ⟨mk, a_Table___init__, i_Table___init__, kc⟩
  have c_is_day : Cal P w K mg base "is_day" f_is_day _ _ _ _ := ⟨ok_is_day (P := P) (w := w) (base := base) F_is_day T, PySem.W.mg_of X G a_is_day, k_is_day, bd_is_day⟩
  have c_need_day : Cal P w K mg base "need_day" f_need_day _ _ _ _ := ⟨ok_need_day (P := P) (w := w) (base := base) F_need_day T c_is_day, PySem.W.mg_of X G a_need_day, k_need_day, bd_need_day⟩
  have c_is_list : Cal P w K mg base "is_list" f_is_list _ _ _ _ := ⟨ok_is_list (P := P) (w := w) (base := base) F_is_list T, PySem.W.mg_of X G a_is_list, k_is_list, bd_is_list⟩
  have c_is_table : Cal P w K mg base "is_table" f_is_table _ _ _ _ := ⟨ok_is_table (P := P) (w := w) (base := base) F_is_table T c_is_list c_is_day, PySem.W.mg_of X G a_is_table, k_is_table, bd_is_table⟩
  have m_init : Ini P w K mg base C f_Table___init__ _ := ⟨ok_init (P := P) (w := w) (base := base) F_Table___init__ T c_is_table, bd_Table___init__⟩
  have m_length : Prp P w K mg base C "length" p_Table_length f_Table_length _ _ _ _ := ⟨ok_length (P := P) (w := w) (base := base) F_Table_length T, ⟨a_Table_length, g_Table_length, t_Table_length, ⟨_, r_Table_length⟩⟩, bd_Table_length⟩
  have m_days : Met P w K mg base C "days" f_Table_days _ _ _ _ := ⟨ok_days (P := P) (w := w) (base := base) F_Table_days T, ⟨a_Table_days, i_Table_days, k_Table_days⟩, bd_Table_days⟩
  have m_asked_rows : Met P w K mg base C "asked_rows" f_Table_asked_rows _ _ _ _ := ⟨ok_rows (P := P) (w := w) (base := base) F_Table_asked_rows T, ⟨a_Table_asked_rows, i_Table_asked_rows, k_Table_asked_rows⟩, bd_Table_asked_rows⟩
  have m_on : Met P w K mg base C "on" f_Table_on _ _ _ _ := ⟨ok_on (P := P) (w := w) (base := base) F_Table_on T c_need_day m_length, ⟨a_Table_on, i_Table_on, k_Table_on⟩, bd_Table_on⟩
  have c__law_pot : Cal P w K mg base "_law_pot" f__law_pot _ _ _ _ := ⟨ok_pot (P := P) (w := w) (base := base) F__law_pot T, PySem.W.mg_of X G a__law_pot, k__law_pot, bd__law_pot⟩
  have c__law_draw : Cal P w K mg base "_law_draw" f__law_draw _ _ _ _ := ⟨ok_draw (P := P) (w := w) (base := base) F__law_draw T, PySem.W.mg_of X G a__law_draw, k__law_draw, bd__law_draw⟩
  have c__law_pick : Cal P w K mg base "_law_pick" f__law_pick _ _ _ _ := ⟨ok_pick (P := P) (w := w) (base := base) F__law_pick T c__law_draw, PySem.W.mg_of X G a__law_pick, k__law_pick, bd__law_pick⟩
  have c__law_days : Cal P w K mg base "_law_days" f__law_days _ _ _ _ := ⟨ok_ldays (P := P) (w := w) (base := base) F__law_days T c__law_pick, PySem.W.mg_of X G a__law_days, k__law_days, bd__law_days⟩
  have c__law_on : Cal P w K mg base "_law_on" f__law_on _ _ _ _ := ⟨ok_lon (P := P) (w := w) (base := base) F__law_on T, PySem.W.mg_of X G a__law_on, k__law_on, bd__law_on⟩
  have m_eq : Met P w K mg base C "__eq__" f_Table___eq__ _ _ _ _ := ⟨ok_eq (P := P) (w := w) (base := base) F_Table___eq__ T, ⟨a_Table___eq__, i_Table___eq__, k_Table___eq__⟩, bd_Table___eq__⟩
  have c__common_length : Cal P w K mg base "_common_length" f__common_length _ _ _ _ := ⟨ok_common (P := P) (w := w) (base := base) F__common_length T m_length, PySem.W.mg_of X G a__common_length, k__common_length, bd__common_length⟩
  have c_is_count : Cal P w K mg base "is_count" f_is_count _ _ _ _ := ⟨ok_isc (P := P) (w := w) (base := base) F_is_count T c_is_day, PySem.W.mg_of X G a_is_count, k_is_count, bd_is_count⟩
  have c_need_count : Cal P w K mg base "need_count" f_need_count _ _ _ _ := ⟨ok_need_count (P := P) (w := w) (base := base) F_need_count T c_is_count, PySem.W.mg_of X G a_need_count, k_need_count, bd_need_count⟩
  have c_need_length : Cal P w K mg base "need_length" f_need_length _ _ _ _ := ⟨ok_need_length (P := P) (w := w) (base := base) F_need_length T c_is_count, PySem.W.mg_of X G a_need_length, k_need_length, bd_need_length⟩
  have c__need_askings : Cal P w K mg base "_need_askings" f__need_askings _ _ _ _ := ⟨ok_ask (P := P) (w := w) (base := base) F__need_askings T c_need_count, PySem.W.mg_of X G a__need_askings, k__need_askings, bd__need_askings⟩
  have c__repeats : Cal P w K mg base "_repeats" f__repeats _ _ _ _ := ⟨ok_repeats (P := P) (w := w) (base := base) F__repeats T m_on m_asked_rows, PySem.W.mg_of X G a__repeats, k__repeats, bd__repeats⟩
  have m_shortest : Met P w K mg base C "shortest" f_Table_shortest _ _ _ _ := ⟨ok_shortest (P := P) (w := w) (base := base) F_Table_shortest T mkI m_length c__repeats m_init, ⟨a_Table_shortest, i_Table_shortest, k_Table_shortest⟩, bd_Table_shortest⟩
  have c_behind : Cal P w K mg base "behind" f_behind _ _ _ _ := ⟨ok_behind (P := P) (w := w) (base := base) F_behind T mkI c__common_length m_on m_init, PySem.W.mg_of X G a_behind, k_behind, bd_behind⟩
  have m_fixed_days : Met P w K mg base C "fixed_days" f_Table_fixed_days _ _ _ _ := ⟨ok_fixed (P := P) (w := w) (base := base) F_Table_fixed_days T m_asked_rows, ⟨a_Table_fixed_days, i_Table_fixed_days, k_Table_fixed_days⟩, bd_Table_fixed_days⟩
  have m_moved : Met P w K mg base C "moved" f_Table_moved _ _ _ _ := ⟨ok_moved (P := P) (w := w) (base := base) F_Table_moved T mkI c_need_day m_init, ⟨a_Table_moved, i_Table_moved, k_Table_moved⟩, bd_Table_moved⟩
  have m_asked_later : Met P w K mg base C "asked_later" f_Table_asked_later _ _ _ _ := ⟨ok_later (P := P) (w := w) (base := base) F_Table_asked_later T mkI c_need_day m_length m_on m_init, ⟨a_Table_asked_later, i_Table_asked_later, k_Table_asked_later⟩, bd_Table_asked_later⟩
  have m_stretched : Met P w K mg base C "stretched" f_Table_stretched _ _ _ _ := ⟨ok_str (P := P) (w := w) (base := base) F_Table_stretched T mkI c_need_length m_length m_on m_init, ⟨a_Table_stretched, i_Table_stretched, k_Table_stretched⟩, bd_Table_stretched⟩
  have m_plain : Cme P w K mg base C "plain" f_Table_plain _ _ _ _ := ⟨ok_plain (P := P) (w := w) (base := base) F_Table_plain T mkI c_need_length m_init, ⟨(.type "type", p_Table_plain), ⟨rd, ga⟩, ⟨a_Table_plain, ⟨_, r_Table_plain⟩, fi_Table_plain⟩⟩, bd_Table_plain⟩
  have c_times : Cal P w K mg base "times" f_times _ _ _ _ := ⟨ok_times (P := P) (w := w) (base := base) F_times T c__need_askings m_plain m_length c_behind, PySem.W.mg_of X G a_times, k_times, bd_times⟩
  have c_run_end : Cal P w K mg base "run_end" f_run_end _ _ _ _ := ⟨ok_run (P := P) (w := w) (base := base) F_run_end T c_need_day c_times m_on, PySem.W.mg_of X G a_run_end, k_run_end, bd_run_end⟩
  have c__round_from : Cal P w K mg base "_round_from" f__round_from _ _ _ _ := ⟨ok_from (P := P) (w := w) (base := base) F__round_from T m_on m_length, PySem.W.mg_of X G a__round_from, k__round_from, bd__round_from⟩
  have c_round_of : Cal P w K mg base "round_of" f_round_of _ _ _ _ := ⟨ok_rof (P := P) (w := w) (base := base) F_round_of T c_need_day c_run_end m_length c__round_from, PySem.W.mg_of X G a_round_of, k_round_of, bd_round_of⟩
  have c_pace : Cal P w K mg base "pace" f_pace _ _ _ _ := ⟨ok_pace (P := P) (w := w) (base := base) F_pace T c_round_of m_on, PySem.W.mg_of X G a_pace, k_pace, bd_pace⟩
  have c_rounds : Cal P w K mg base "rounds" f_rounds _ _ _ _ := ⟨ok_rounds (P := P) (w := w) (base := base) F_rounds T c_times m_days m_length c__round_from, PySem.W.mg_of X G a_rounds, k_rounds, bd_rounds⟩
  have c__law_low : Cal P w K mg base "_law_low" f__law_low _ _ _ _ := ⟨ok_low (P := P) (w := w) (base := base) F__law_low T, PySem.W.mg_of X G a__law_low, k__law_low, bd__law_low⟩
  have c__law_place : Cal P w K mg base "_law_place" f__law_place _ _ _ _ := ⟨ok_place (P := P) (w := w) (base := base) F__law_place T, PySem.W.mg_of X G a__law_place, k__law_place, bd__law_place⟩
  have c__law_round : Cal P w K mg base "_law_round" f__law_round _ _ _ _ := ⟨ok_lround (P := P) (w := w) (base := base) F__law_round T c__law_on c__law_place, PySem.W.mg_of X G a__law_round, k__law_round, bd__law_round⟩
  have c__law_rounds : Cal P w K mg base "_law_rounds" f__law_rounds _ _ _ _ := ⟨ok_lrounds (P := P) (w := w) (base := base) F__law_rounds T c__law_round, PySem.W.mg_of X G a__law_rounds, k__law_rounds, bd__law_rounds⟩
  have c__law_rounds_right : CalG P w K mg base "_law_rounds_right" f__law_rounds_right _ _ _ _ := ⟨ok_rr (P := P) (w := w) (base := base) F__law_rounds_right T c__law_rounds c_rounds kb_rounds_table c__law_round c__law_low c_pace kb_pace_table m_on, PySem.W.mg_of X G a__law_rounds_right, k__law_rounds_right, bd__law_rounds_right⟩
  have c__law_day_right : CalG P w K mg base "_law_day_right" f__law_day_right _ _ _ _ := ⟨ok_dr (P := P) (w := w) (base := base) F__law_day_right T c__law_rounds c_round_of kb_round_of_day_table c__law_round c_pace c_run_end c__law_draw c__law_pick, PySem.W.mg_of X G a__law_day_right, k__law_day_right, bd__law_day_right⟩
  have c__law_others_right : Cal P w K mg base "_law_others_right" f__law_others_right _ _ _ _ := ⟨ok_or (P := P) (w := w) (base := base) F__law_others_right T c_pace c__law_draw c_times c__law_low m_stretched m_shortest m_moved m_asked_later c_rounds m_fixed_days, PySem.W.mg_of X G a__law_others_right, k__law_others_right, bd__law_others_right⟩
  have c__law_long_right : CalG P w K mg base "_law_long_right" f__law_long_right _ _ _ _ := ⟨ok_long (P := P) (w := w) (base := base) F__law_long_right T mkI c__law_pick c_rounds c_pace c__law_draw c_round_of m_init, PySem.W.mg_of X G a__law_long_right, k__law_long_right, bd__law_long_right⟩
  have c__law_right : CalG P w K mg base "_law_right" f__law_right _ _ _ _ := ⟨ok_right (P := P) (w := w) (base := base) F__law_right T mkI c__law_pick c__law_draw c__law_days c__law_rounds_right c__law_others_right c__law_day_right m_days c__law_long_right m_init, PySem.W.mg_of X G a__law_right, k__law_right, bd__law_right⟩
  exact ok_law (P := P) (w := w) (base := base) F_law T c__law_pot c__law_right
  exact fun s u => BindsTo.of_looks fun M => PySem.W.Looks.of_pure rfl
end
end K15
end
section
open PySem PySem.W PyProof.Rows L2
set_option maxHeartbeats 0 in
theorem PySem.Challenge.cw_leadrules_k15_whole_rounds_and_pace_holds : PySem.Challenge.rw_leadrules_k15_whole_rounds_and_pace.Holds := by
  w_on; o_law; k_head; (case hw => w_witness2)
  k_fill
  refine G.walkG (l := PySem.Challenge.rw_leadrules_k15_whole_rounds_and_pace) (n := 63) (k := 13) (x := "_law_script") (CX := CX0) (sp := K15.sp_law) rfl (by decide) rfl ⟨rfl, by decide, by decide⟩ (fun w h Y => PySem.W.kIn_of Y) ?Fq ?Sq ?Nq
  case Sq => exact fun K H a ns hl hO hS => ⟨a, ns, rfl, hS, hl, fun H2 e => rfl⟩
  case Nq => exact fun H s e s' h => h
  case Fq =>
    intro w mg fa h KX G0 hmg
    refine' K15.all_mk KX G0 hmg ?aC ?pg ?hd ?po ?sa ?mk ?kc ?n_days ?vMOST_LENGTH ?wMOST_LENGTH ?rd ?ga ?xMOST_LENGTH ?ne ?mo ?tc1 ?tc2 ?tc3 ?a_MOST_ASKINGS ?a_is_day ?l_is_day ?c_is_day ?k_is_day ?a_need_day ?l_need_day ?c_need_day ?k_need_day ?a_is_count ?l_is_count ?c_is_count ?k_is_count ?a_need_count ?l_need_count ?c_need_count ?k_need_count ?a_need_length ?l_need_length ?c_need_length ?k_need_length ?a_is_list ?l_is_list ?c_is_list ?k_is_list ?a_is_table ?l_is_table ?c_is_table ?k_is_table ?a_Table___init__ ?i_Table___init__ ?l_Table___init__ ?c_Table___init__ ?k_Table___init__ ?a_Table_length ?g_Table_length ?t_Table_length ?r_Table_length ?l_Table_length ?c_Table_length ?k_Table_length ?a_Table_days ?i_Table_days ?l_Table_days ?c_Table_days ?k_Table_days ?a_Table_asked_rows ?i_Table_asked_rows ?l_Table_asked_rows ?c_Table_asked_rows ?k_Table_asked_rows ?a_Table_on ?i_Table_on ?l_Table_on ?c_Table_on ?k_Table_on ?a_Table_fixed_days ?i_Table_fixed_days ?l_Table_fixed_days ?c_Table_fixed_days ?k_Table_fixed_days ?a_Table_moved ?i_Table_moved ?l_Table_moved ?c_Table_moved ?k_Table_moved ?a_Table_asked_later ?i_Table_asked_later ?l_Table_asked_later ?c_Table_asked_later ?k_Table_asked_later ?a_Table_stretched ?i_Table_stretched ?l_Table_stretched ?c_Table_stretched ?k_Table_stretched ?a_Table_shortest ?i_Table_shortest ?l_Table_shortest ?c_Table_shortest ?k_Table_shortest ?a_Table_plain ?r_Table_plain ?fi_Table_plain ?l_Table_plain ?lT_Table_plain ?c_Table_plain ?k_Table_plain ?a_Table___eq__ ?i_Table___eq__ ?l_Table___eq__ ?c_Table___eq__ ?k_Table___eq__ ?a__repeats ?l__repeats ?c__repeats ?k__repeats ?a_behind ?l_behind ?c_behind ?k_behind ?a_times ?l_times ?c_times ?k_times ?a_run_end ?l_run_end ?c_run_end ?k_run_end ?a_rounds ?l_rounds ?c_rounds ?k_rounds ?a_round_of ?l_round_of ?c_round_of ?k_round_of ?a_pace ?l_pace ?c_pace ?k_pace ?a__common_length ?l__common_length ?c__common_length ?k__common_length ?a__need_askings ?l__need_askings ?c__need_askings ?k__need_askings ?a__round_from ?l__round_from ?c__round_from ?k__round_from ?a__law_pot ?l__law_pot ?c__law_pot ?k__law_pot ?a__law_draw ?l__law_draw ?c__law_draw ?k__law_draw ?a__law_pick ?l__law_pick ?c__law_pick ?k__law_pick ?a__law_days ?l__law_days ?c__law_days ?k__law_days ?a__law_on ?l__law_on ?c__law_on ?k__law_on ?a__law_low ?l__law_low ?c__law_low ?k__law_low ?a__law_place ?l__law_place ?c__law_place ?k__law_place ?a__law_round ?l__law_round ?c__law_round ?k__law_round ?a__law_rounds ?l__law_rounds ?c__law_rounds ?k__law_rounds ?a__law_rounds_right ?l__law_rounds_right ?c__law_rounds_right ?k__law_rounds_right ?a__law_day_right ?l__law_day_right ?c__law_day_right ?k__law_day_right ?a__law_others_right ?l__law_others_right ?c__law_others_right ?k__law_others_right ?a__law_long_right ?l__law_long_right ?c__law_long_right ?k__law_long_right ?a__law_right ?l__law_right ?c__law_right ?k__law_right ?a_law ?l_law ?c_law ?k_law ?b_isinstance ?b_int ?b_bool ?b_list ?b_tuple ?b_len ?b_enumerate ?b_range ?b_divmod ?b_min ?b_max ?b_all ?b_abs ?b_repr ?b_sorted ?b_set ?b_lcm ?b_gcd
    (case aC => k_is)
    (case pg => k_is)
    (case hd => k_is)
    (case po => k_is)
    (case sa => k_is)
    (case mk => k_is)
    (case kc => k_is)
    (case n_days => k_is)
    (case vMOST_LENGTH => k_is)
    (case wMOST_LENGTH => k_is)
    (case rd => k_is)
    (case ga => k_is)
    (case xMOST_LENGTH => k_is)
    (case ne => k_is)
    (case mo => k_is)
    (case tc1 => k_is)
    (case tc2 => k_is)
    (case tc3 => k_is)
    (case a_MOST_ASKINGS => k_is)
    (case a_is_day => k_is)
    (case l_is_day => k_is)
    (case c_is_day => k_is)
    (case k_is_day => k_is)
    (case a_need_day => k_is)
    (case l_need_day => k_is)
    (case c_need_day => k_is)
    (case k_need_day => k_is)
    (case a_is_count => k_is)
    (case l_is_count => k_is)
    (case c_is_count => k_is)
    (case k_is_count => k_is)
    (case a_need_count => k_is)
    (case l_need_count => k_is)
    (case c_need_count => k_is)
    (case k_need_count => k_is)
    (case a_need_length => k_is)
    (case l_need_length => k_is)
    (case c_need_length => k_is)
    (case k_need_length => k_is)
    (case a_is_list => k_is)
    (case l_is_list => k_is)
    (case c_is_list => k_is)
    (case k_is_list => k_is)
    (case a_is_table => k_is)
    (case l_is_table => k_is)
    (case c_is_table => k_is)
    (case k_is_table => k_is)
    (case a_Table___init__ => k_is)
    (case i_Table___init__ => k_is)
    (case l_Table___init__ => k_is)
    (case c_Table___init__ => k_is)
    (case k_Table___init__ => k_is)
    (case a_Table_length => k_is)
    (case g_Table_length => k_is)
    (case t_Table_length => k_is)
    (case r_Table_length => k_is)
    (case l_Table_length => k_is)
    (case c_Table_length => k_is)
    (case k_Table_length => k_is)
    (case a_Table_days => k_is)
    (case i_Table_days => k_is)
    (case l_Table_days => k_is)
    (case c_Table_days => k_is)
    (case k_Table_days => k_is)
    (case a_Table_asked_rows => k_is)
    (case i_Table_asked_rows => k_is)
    (case l_Table_asked_rows => k_is)
    (case c_Table_asked_rows => k_is)
    (case k_Table_asked_rows => k_is)
    (case a_Table_on => k_is)
    (case i_Table_on => k_is)
    (case l_Table_on => k_is)
    (case c_Table_on => k_is)
    (case k_Table_on => k_is)
    (case a_Table_fixed_days => k_is)
    (case i_Table_fixed_days => k_is)
    (case l_Table_fixed_days => k_is)
    (case c_Table_fixed_days => k_is)
    (case k_Table_fixed_days => k_is)
    (case a_Table_moved => k_is)
    (case i_Table_moved => k_is)
    (case l_Table_moved => k_is)
    (case c_Table_moved => k_is)
    (case k_Table_moved => k_is)
    (case a_Table_asked_later => k_is)
    (case i_Table_asked_later => k_is)
    (case l_Table_asked_later => k_is)
    (case c_Table_asked_later => k_is)
    (case k_Table_asked_later => k_is)
    (case a_Table_stretched => k_is)
    (case i_Table_stretched => k_is)
    (case l_Table_stretched => k_is)
    (case c_Table_stretched => k_is)
    (case k_Table_stretched => k_is)
    (case a_Table_shortest => k_is)
    (case i_Table_shortest => k_is)
    (case l_Table_shortest => k_is)
    (case c_Table_shortest => k_is)
    (case k_Table_shortest => k_is)
    (case a_Table_plain => k_is)
    (case r_Table_plain => k_is)
    (case fi_Table_plain => k_is)
    (case l_Table_plain => k_is)
    (case lT_Table_plain => k_is)
    (case c_Table_plain => k_is)
    (case k_Table_plain => k_is)
    (case a_Table___eq__ => k_is)
    (case i_Table___eq__ => k_is)
    (case l_Table___eq__ => k_is)
    (case c_Table___eq__ => k_is)
    (case k_Table___eq__ => k_is)
    (case a__repeats => k_is)
    (case l__repeats => k_is)
    (case c__repeats => k_is)
    (case k__repeats => k_is)
    (case a_behind => k_is)
    (case l_behind => k_is)
    (case c_behind => k_is)
    (case k_behind => k_is)
    (case a_times => k_is)
    (case l_times => k_is)
    (case c_times => k_is)
    (case k_times => k_is)
    (case a_run_end => k_is)
    (case l_run_end => k_is)
    (case c_run_end => k_is)
    (case k_run_end => k_is)
    (case a_rounds => k_is)
    (case l_rounds => k_is)
    (case c_rounds => k_is)
    (case k_rounds => k_is)
    (case a_round_of => k_is)
    (case l_round_of => k_is)
    (case c_round_of => k_is)
    (case k_round_of => k_is)
    (case a_pace => k_is)
    (case l_pace => k_is)
    (case c_pace => k_is)
    (case k_pace => k_is)
    (case a__common_length => k_is)
    (case l__common_length => k_is)
    (case c__common_length => k_is)
    (case k__common_length => k_is)
    (case a__need_askings => k_is)
    (case l__need_askings => k_is)
    (case c__need_askings => k_is)
    (case k__need_askings => k_is)
    (case a__round_from => k_is)
    (case l__round_from => k_is)
    (case c__round_from => k_is)
    (case k__round_from => k_is)
    (case a__law_pot => k_is)
    (case l__law_pot => k_is)
    (case c__law_pot => k_is)
    (case k__law_pot => k_is)
    (case a__law_draw => k_is)
    (case l__law_draw => k_is)
    (case c__law_draw => k_is)
    (case k__law_draw => k_is)
    (case a__law_pick => k_is)
    (case l__law_pick => k_is)
    (case c__law_pick => k_is)
    (case k__law_pick => k_is)
    (case a__law_days => k_is)
    (case l__law_days => k_is)
    (case c__law_days => k_is)
    (case k__law_days => k_is)
    (case a__law_on => k_is)
    (case l__law_on => k_is)
    (case c__law_on => k_is)
    (case k__law_on => k_is)
    (case a__law_low => k_is)
    (case l__law_low => k_is)
    (case c__law_low => k_is)
    (case k__law_low => k_is)
    (case a__law_place => k_is)
    (case l__law_place => k_is)
    (case c__law_place => k_is)
    (case k__law_place => k_is)
    (case a__law_round => k_is)
    (case l__law_round => k_is)
    (case c__law_round => k_is)
    (case k__law_round => k_is)
    (case a__law_rounds => k_is)
    (case l__law_rounds => k_is)
    (case c__law_rounds => k_is)
    (case k__law_rounds => k_is)
    (case a__law_rounds_right => k_is)
    (case l__law_rounds_right => k_is)
    (case c__law_rounds_right => k_is)
    (case k__law_rounds_right => k_is)
    (case a__law_day_right => k_is)
    (case l__law_day_right => k_is)
    (case c__law_day_right => k_is)
    (case k__law_day_right => k_is)
    (case a__law_others_right => k_is)
    (case l__law_others_right => k_is)
    (case c__law_others_right => k_is)
    (case k__law_others_right => k_is)
    (case a__law_long_right => k_is)
    (case l__law_long_right => k_is)
    (case c__law_long_right => k_is)
    (case k__law_long_right => k_is)
    (case a__law_right => k_is)
    (case l__law_right => k_is)
    (case c__law_right => k_is)
    (case k__law_right => k_is)
    (case a_law => k_is)
    (case l_law => k_is)
    (case c_law => k_is)
    (case k_law => k_is)
    (case b_isinstance => k_is)
    (case b_int => k_is)
    (case b_bool => k_is)
    (case b_list => k_is)
    (case b_tuple => k_is)
    (case b_len => k_is)
    (case b_enumerate => k_is)
    (case b_range => k_is)
    (case b_divmod => k_is)
    (case b_min => k_is)
    (case b_max => k_is)
    (case b_all => k_is)
    (case b_abs => k_is)
    (case b_repr => k_is)
    (case b_sorted => k_is)
    (case b_set => k_is)
    (case b_lcm => k_is)
    (case b_gcd => k_is)
end
