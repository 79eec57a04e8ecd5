import PyProof.Rows.All
import Wide.All
import OpenK.AllK
import Wide.FinOn
import HandS.ForMost
import HandS.Evl
import HandS.Property
import HandS.Star
import HandS.ClsMeth
import HandS.Defaults
import HandS.MakeKwOnly
import HandS.FStr
import HandS.Conv
import HandS.Gcd
import HandS.IsInst
import HandS.Wide
import PyProof.ReprRoads
import PyProof.ListNew
import PyProof.ListRange
import HandS.Style
import HandS.Ends
import PySem.Challenge.RW_leadrules_k11_whole_tables_asked
set_option Elab.async false
set_option linter.all false
set_option maxRecDepth 100000
section
set_option maxHeartbeats 2000000
namespace G
open PySem PySem.Spec PyProof.Rows L2

/-! ### a def's promise where no repr is running around it -/
structure FnG (P : Program) (w : World) (K : PySem.W.Frag) (mg : Str → Option Value) (base : Heap) (CX : CXT) (k : Nat) (f : Addr) (fd : FuncData) (ps : List Str) (sp : Sp) : Prop where
  len : ∀ vs H Q E, sp vs H Q E → vs.length = ps.length
  run : ∀ (A : Around) (outer : List Env) (s : Shared) (H : Hp) (args : Args) (us : List Value) (vs : List V) (Q : VK) (E : XK), A.guards = some [] → Room k A → Env0 P w K mg base A outer s H → BindsTo s fd args (ps.zip us) → Vals vs us → sp vs H Q E →
    codeAny (model P w) A (.call (.ref f) args) (CR CX outer P w H s Q E) s
theorem FnG.of {P : Program} {w : World} {K : PySem.W.Frag} {mg : Str → Option Value} {base : Heap} {CX : CXT} {k : Nat} {f : Addr} {fd : FuncData} {ps : List Str} {sp : Sp} (F : FnOk P w K mg base CX k f fd ps sp) : FnG P w K mg base CX k f fd ps sp :=
  ⟨F.len, fun A outer s H args us vs Q E _ => F.run A outer s H args us vs Q E⟩

theorem fnG_of {CX : CXT} {P : Program} {w : World} {K : PySem.W.Frag} {mg : Str → Option Value} {base : Heap} {k : Nat} {f : Addr} {name qual : Str} {params : Arguments} {body : List Stmt} {scope : Scope} {dV kV doc pm cdv ct oc : Value} {an od : Option Addr}
    {osl : Array (Option Value)} {N ps : List Str} {sp : Sp} (lk : K.lookup f = some ⟨oc, od, .func (PySem.W.fnOf name qual params body scope dV kV doc pm an cdv ct), osl⟩) (hcd : PySem.W.codeIn K cdv qual = true) (S : FnScope N ps scope)
    (len : ∀ vs H Q E, sp vs H Q E → vs.length = ps.length)
    (hbody : ∀ (A : Around) (outer : List Env) (s : Shared) (H : Hp) (vs : List V) (Q : VK) (E : XK), A.guards = some [] → Room k (A.deeper (envOfC qual scope s.heap.objs.size f cdv)) → sp vs H Q E →
      ∃ t, PSs (cxOf CX P w K mg base N qual scope f cdv A outer s H E) body t ∧ t { nx := fun _ H' => Q .non H', rt := Q } (start N vs) H) :
    FnG P w K mg base CX (k + 1) f (PySem.W.fnOf name qual params body scope dV kV doc pm an cdv ct) ps sp := by
  refine ⟨len, fun A outer s H args us vs Q E hgd hr e0 hb r hsp => ?_⟩
  have hl := len _ _ _ _ hsp
  have KX : K.In s.heap := e0.mod.kin.keeps fun b o e => (e0.bs b o e).1
  have lim : s.heap.NoLimit := e0.mod.nolimit.keeps fun b o e => (e0.bs b o e).1
  have hkind : ∀ y ∈ ps.zip us, scope.names.lookup y.1 = some .local ∨ (scope.names.lookup y.1 = some .cell ∧ ((cellsFrom (s.heap.objs.size + 1) scope.names []).lookup y.1).isSome = true) := fun ⟨n, v⟩ hy => by
    rcases S.par n (List.of_mem_zip hy).1 with q | q
    · exact .inl q
    · exact .inr ⟨q, PySem.W.cellsFrom_some _ _ _ (.inl q)⟩
  refine codeAny_call_function hr.depth (KX _ _ lk) rfl S.co S.gen rfl (PySem.W.codeRec_of KX hcd) (hb _ _ _ _ ?_)
  refine wpAny_newFunctionEnv_cells S.kind hkind fun env he s1 x => ?_
  subst he
  refine ⟨lim.keeps x.toInCall.keep, codeAny_func ?_⟩
  obtain ⟨t, ht, hq⟩ := hbody A outer s H vs Q E hgd (hr.deeper _) hsp
  have I : Inv (cxOf CX P w K mg base N qual scope f cdv A outer s H E) [] (start N vs) H s1 := inv_start S hr.hd e0 hl r x
  refine wpAny_mono (ht.run [] s1 (start N vs) H _ I hq) (fun fl s' hs => ?_) fun e s' hs => hs
  have fin : ∀ {σ' : L2.St} {H' : Hp} {v : V} {u : Value}, Inv (cxOf CX P w K mg base N qual scope f cdv A outer s H E) [] σ' H' s' → RelV v u → Q v H' → CE outer P w H s Q u s' :=
    fun {σ' H' v u} J rv q => ⟨v, H', J.os, J.bare, J.base, J.hok, rv, q⟩
  cases fl with
  | ret u =>
    obtain ⟨v, σ', H', J, rv, q⟩ := hs
    exact fin J rv q
  | next =>
    obtain ⟨σ', H', J, q⟩ := hs
    exact fin (v := V.non) (u := Value.none) J rfl q
  | brk =>
    obtain ⟨_, _, _, q⟩ := hs
    exact False.elim q
  | cont =>
    obtain ⟨_, _, _, q⟩ := hs
    exact False.elim q

theorem okG {P : Program} {w : World} {K : PySem.W.Frag} {mg : Str → Option Value} {base : Heap} {x qual : Str} {st : Stmt} {f : Addr} {fd : FuncData} {N ps : List Str} {k : Nat} {sp : Sp} (F : Fun K x qual st f fd) (S : FnScope N ps (defScope st)) (len : ∀ vs H Q E, sp vs H Q E → vs.length = ps.length)
    (hbody : ∀ (cdv : Value) (A : Around) (outer : List Env) (s : Shared) (H : Hp) (vs : List V) (Q : VK) (E : XK), A.guards = some [] → Room k (A.deeper (envOfC qual (defScope st) s.heap.objs.size f cdv)) → sp vs H Q E →
      ∃ t, PSs (cxOf CX0 P w K mg base N qual (defScope st) f cdv A outer s H E).nox (defBody st) t ∧ t { nx := fun _ H' => Q .non H', rt := Q } (start N vs) H) : FnG P w K mg base CX0 (k + 1) f fd ps sp := by
  obtain ⟨oc, od, kV, doc, pm, an, cdv, ct, osl, rfl, lk, hcd⟩ := F.ex
  refine fnG_of lk hcd S len fun A outer s H vs Q E hg hr hsp => ?_
  obtain ⟨t, h, q⟩ := hbody cdv A outer s H vs Q E hg hr hsp
  exact ⟨t, h.nox, q⟩

section
variable {X : Cx} {CX : CXT} {k n : Nat} {f C : Addr} {fd : FuncData} {ps ks : List Str} {sp : Sp} {dvs : List V} {ds : List Value} {E : XK} {x m : Str} {p pos apos : Pos} {e o : Expr} {es : List Expr} {kws : List Keyword} {ta : TE} {t tk : TA} {g : List Value → List Value → List Value} {gV : List V → List V → List V}
theorem run_fnG {pins : List (Addr × Obj)} {σ : L2.St} {H : Hp} {s : Shared} {Q : VK} {us : List Value} {vs : List V} (F : FnG X.prog X.w X.K X.mg X.base CX k f fd ps sp) (hgd : X.A.guards = some []) (hr : Room k X.A) (hb : Binds X.K fd ps ds) (hd : Vals dvs ds) (hx : Passes CX X E)
    (I : Inv X pins σ H s) (r : Vals vs us) (h : sp (vs ++ dvs) H Q E) : wpAny (model X.prog X.w) X.A (call (.ref f) us) (EP X pins σ Q) X.xe s := by
  have r2 : Vals (vs ++ dvs) (us ++ ds) := r.append hd
  have hl : (us ++ ds).length = ps.length := by rw [← r2.length]; exact F.len _ _ _ _ h
  refine wpAny_call (codeAny_mono (F.run X.A X.stack s H ⟨us, []⟩ (us ++ ds) (vs ++ dvs) Q E hgd hr I.env0 (hb s us I.kIn hl) r2 h) fun r s' hq => ?_)
  cases r with
  | error e => exact hx pins σ H s e s' I hq
  | ok fl =>
    cases fl with
    | ret u => exact I.after hq
    | next => exact False.elim hq
    | brk => exact False.elim hq
    | cont => exact False.elim hq
/-- f(e, ..) -/
theorem pe_callG (F : FnG X.prog X.w X.K X.mg X.base CX k f fd ps sp) (hgd : X.A.guards = some []) (hr : Room k X.A) (hg : Gl X x) (hm : X.mg x = some (.ref f)) (hk : PySem.W.keepIn X.K (.ref f) = true) (hb : Binds X.K fd ps ds) (hd : Vals dvs ds) (hx : Passes CX X E)
    (ha : PA X (e :: es) t) (hdb : (x == ("__debug__" : Str)) = false := by decide) (he : starEach (e :: es) X.env = (false, eval e X.env) :: starEach es X.env := by rfl) (hpl : (backTo pos (starEach es X.env)).any (·.1) = false := by rfl) :
    PE X (.Call (.Name x p) (e :: es) [] pos) (tCall sp dvs E t) := by
  refine ⟨fun pins s σ H Q I h => ?_⟩
  refine wpAny_Call_Name_kw (ld_glob I hg hm ?_ hdb)
  refine PySem.W.callWith_K (h₀ := X.base) I.ok.mod.kin hk (thn (ha.run pos pins s σ H _ I h) fun us s1 ⟨vs, H1, I1, r, q⟩ => ⟨I1.kIn, ?_⟩) he hpl
  exact run_fnG F hgd hr hb hd hx I1 r q
/-- o.m(k = v, ..) -/
def tMethN (C : Addr) (m : Str) (n j : Nat) (sp : Sp) (gV : List V → List V → List V) (E : XK) (ta : TE) (t tk : TA) : TE := fun σ H Q => ta σ H fun x H1 => ∃ a dx fs, x = .ref a ∧ H1 a = some (.ins C dx fs) ∧ fs.lookup m = none ∧
  t σ H1 fun vs H2 => tk σ H2 fun zs H3 => vs.length = n ∧ zs.length = j ∧ sp (gV (x :: vs) zs) H3 Q E
theorem pe_methN0 {pl : Sem Bool} (he : PE X o ta) (c : Cls X.K C) (hm : Meth X.K C m f) (F : FnOk X.prog X.w X.K X.mg X.base CX k f fd ps sp) (hr : Room k X.A) (hb : KBn X.K fd ps 1 ks g gV) (hx : Passes CX X E) (hkw : PK X kws tk)
    (hall : (backToKw pos (keywordEach kws X.env)).all (·.1.isSome) = true := by rfl) (hks : (backToKw pos (keywordEach kws X.env)).filterMap (·.1) = ks := by rfl)
    (hpl : ((backTo pos (starEach [] X.env)).any (·.1) || (backToKw pos (keywordEach kws X.env)).any (·.1.isNone)) = false := by rfl)
    (ht : eval (.Call (.Attribute o m apos) [] kws pos) X.env = (do
      let ov ← eval o X.env
      standAt apos.atName
      let (f, first) ← holding [ov] (getMethod ov m pl)
      callWith pos f first (backTo pos (starEach [] X.env)) (backToKw pos (keywordEach kws X.env))) := by rfl) :
    PE X (.Call (.Attribute o m apos) [] kws pos) (tMethN C m 0 ks.length sp gV E ta tNil tk) := by
  refine ⟨fun pins s σ H Q I h => ?_⟩
  refine PySem.W.methodCall_KW (pl := pl) (thn (he.run pins s σ H _ I h) fun u s1 ⟨x, H1, I1, rx, a, dx, fs, ex, ea, l, q⟩ => ?_) ht
  subst ex
  obtain rfl : u = Value.ref a := rx
  refine getmeth_ok I1 ea c hm l ?_
  refine PySem.W.callWith_KW0 (first := [.ref a]) (h₀ := X.base) I.ok.mod.kin hm.kp hall ?_ hpl
  refine thn (hkw.run pos pins s1 σ H1 _ I1 q) fun ws s2 ⟨zs, H2, I2, rz, l1, l2, q2⟩ => ⟨I2.kIn, ?_⟩
  rw [hks]
  exact run_fnN (us := [.ref a]) (vs := [.ref a]) F hr hb hx I2 (.cons rfl .nil) rz rfl l2 q2
end

/-! ### repr of data; repr of an own instance; {x} of data -/
mutual
theorem dp_nodict {K : PySem.W.Frag} {H : Hp} : ∀ {d : PyData} {v : V}, Dp K H v d → d.hasDict = false
  | .none, _, _ => by simp [PyData.hasDict]
  | .bool _, _, _ => by simp [PyData.hasDict]
  | .int _, _, _ => by simp [PyData.hasDict]
  | .str _, _, _ => by simp [PyData.hasDict]
  | .list ds, _, h => by
    cases h with
    | lst _ ha => simpa [PyData.hasDict] using dp_nodictAll ha
  | .tuple ds, _, h => by
    cases h with
    | tup _ ha => simpa [PyData.hasDict] using dp_nodictAll ha
  | .dict _, _, h => by cases h
theorem dp_nodictAll {K : PySem.W.Frag} {H : Hp} : ∀ {ds : List PyData} {vs : List V}, DpAll K H vs ds → PyData.hasDictAll ds = false
  | [], _, _ => by simp [PyData.hasDictAll]
  | d :: ds, _, h => by
    cases h with
    | cons h1 h2 => simp [PyData.hasDictAll, dp_nodict h1, dp_nodictAll h2]
end
def rRepr (K : PySem.W.Frag) : List V → Hp → VK → Prop := fun xs H Q => ∃ (a : Addr) (d : PyData), xs = [.ref a] ∧ Dp K H (.ref a) d ∧ d.showable = true ∧ d.depth ≤ 60 ∧ d.shown.length ≤ sizeLine ∧ Q (.str d.shown) H
theorem call_reprD {X : Cx} (hgd : X.A.guards = some []) (hu : X.A.units + 64 < cLine) : CallR X (.builtin "repr") (rRepr X.K) := by
  intro pins s σ H xs us Q I r h
  obtain ⟨a, d, rfl, hd, hs, hdp, hz, q⟩ := h
  obtain ⟨u, rfl, ru⟩ := vals1 r
  obtain rfl : u = Value.ref a := ru
  obtain ⟨as, hr⟩ := Dp.reads I d _ _ hd rfl
  refine repr_of_reads' hr hs (PyData.noDict_hsm (dp_nodict hd)) hgd (by omega) (fun _ _ e => e) (fun h' u tk hk => ?_) hz
  exact ⟨.str d.shown, H, I.kept hk, ⟨_, rfl⟩, q⟩
end G
end
section
set_option maxHeartbeats 2000000
namespace G
open PySem PySem.Spec PyProof.Rows L2
section
variable {X : Cx} {CX : CXT} {k : Nat} {f C : Addr} {fd : FuncData} {ps : List Str} {sp : Sp} {E : XK}
def rReprO (C : Addr) (sp : Sp) (E : XK) : List V → Hp → VK → Prop := fun xs H Q => ∃ (a dx : Addr) (fs : List (Str × V)), xs = [.ref a] ∧ H a = some (.ins C dx fs) ∧ sp [.ref a] H (fun v H' => (∃ y, v = .str y) ∧ Q v H') E
theorem call_reprO (hs : PySem.W.findIn X.K (.ref C) "__repr__" = some (some (.ref f))) (hf : PySem.W.isFn X.K (.ref f) = true) (FF : FnG X.prog X.w X.K X.mg X.base CX k f fd ps sp) (hgd : X.A.guards = some []) (hr : Room (k + 1) X.A)
    (hb : Binds X.K fd ps []) (hx : Passes CX X E) : CallR X (.builtin "repr") (rReprO C sp E) := by
  intro pins s σ H xs us Q I r h
  obtain ⟨a, dx, fs, rfl, ea, hsp⟩ := h
  obtain ⟨u, rfl, ru⟩ := vals1 r
  obtain rfl : u = Value.ref a := ru
  obtain ⟨mA, O, _, _, _, _⟩ := ins_get I.hok ea
  obtain ⟨od, J, _⟩ := O.look
  refine Calls.call_function_entry F.kind_repr F.plain_repr F.entry_repr (F.args_repr1 _) ?_
  unfold Builtin.«repr»
  refine wpAny_bind (m := oneArg "repr" _) (wpAny_pure ?_)
  refine wpAny_bind (m := cRoomFor _ _) (wpAny_cRoomFor (by have := hr.units; show X.A.units + 1 < cLine; omega) ?_)
  refine wpAny_bind ?_
  unfold specialOf
  refine wpAny_bind (J.type.here ((PySem.W.looks_findIn I.kIn hs).here ?_))
  show wpAny _ _ (if (some (Value.ref f)).isNone = true then _ else _) _ _ _
  rw [if_neg (by simp)]
  have hl : ([Value.ref a] ++ []).length = ps.length := by
    rw [← FF.len _ _ _ _ hsp] <;> rfl
  refine wpAny_bind (m := callSpecialIfBound? (.ref a) (Str.ofString "__repr__") _) (PySem.W.ifBound_K I.kIn J hs hf ?_)
  refine wpAny_call (codeAny_mono (FF.run X.A.in1 X.stack s H ⟨[.ref a], []⟩ [.ref a] [.ref a] _ E hgd hr.in1 I.env0.in1 (hb _ [.ref a] I.kIn hl) (.cons rfl .nil) hsp) fun r s' hq => ?_)
  cases r with
  | error er => exact hx pins σ H s er s' I hq
  | ok fl =>
    cases fl with
    | ret u =>
      obtain ⟨v, H', I3, rv, ⟨y, ey⟩, q3⟩ := I.after hq
      subst ey
      obtain ⟨tk, rfl⟩ := rv
      show wpAny _ _ _ _ _ _
      refine wpAny_bind (wpAny_isInstance (typeIs_str _ _ _) isSubtype_str_str ?_)
      first
        | exact wpAny_pure ⟨_, rfl, ⟨.str y, H', I3, ⟨tk, rfl⟩, q3⟩⟩
        | (rw [if_pos rfl]; exact wpAny_pure ⟨_, rfl, ⟨.str y, H', I3, ⟨tk, rfl⟩, q3⟩⟩)
        | (simp only [if_true]; exact wpAny_pure ⟨_, rfl, ⟨.str y, H', I3, ⟨tk, rfl⟩, q3⟩⟩)
    | next => exact False.elim hq
    | brk => exact False.elim hq
    | cont => exact False.elim hq

/-- {x} of data, as a text -/
def tFmtD (K : PySem.W.Frag) (te : TE) : TE := fun σ H Q => te σ H fun x H1 => ∃ (a : Addr) (d : PyData), x = .ref a ∧ Dp K H1 (.ref a) d ∧ d.showable = true ∧ d.depth ≤ 60 ∧ d.shown.length ≤ sizeLine ∧ Q (.str d.shown) H1
theorem pe_fmtD {e : Expr} {te : TE} {pos : Pos} (hgd : X.A.guards = some []) (hu : X.A.units + 64 < cLine) (he : PE X e te) : PE X (.FormattedValue e (-1) none pos) (tFmtD X.K te) := by
  refine ⟨fun pins s σ H Q I h => ?_⟩
  refine wpAny_FormattedValue_plain (thn (he.run pins s σ H _ I h) fun v s1 hv => ?_)
  obtain ⟨x, H1, I1, r1, a, d, rfl, hd, hs, hdp, hz, q⟩ := hv
  obtain rfl : v = Value.ref a := r1
  obtain ⟨as, hr⟩ := Dp.reads I1 d _ _ hd rfl
  exact formatField_of_reads hr hs (PyData.noDict_hsm (dp_nodict hd)) hgd (by omega) (fun _ _ e => e) (fun h' u tk hk => ⟨.str d.shown, H1, I1.kept hk, ⟨_, rfl⟩, q⟩) hz
end
end G
end
section
set_option maxHeartbeats 2000000
namespace G
open PySem PySem.Spec PyProof.Rows L2

/-! ### list(enumerate(xs)) -/
def enObj (f0 f1 : Value) (it : Addr) (i : Int) (old : Value) : Obj := { cls := .type "enumerate", dict := none, data := .fields #[f0, f1, .ref it, rawInt i, .none, old], slots := #[] }
def IsEn (h : Heap) (e it : Addr) (i : Int) : Prop := ∃ f0 f1 old, h.get? e = some (enObj f0 f1 it i old) ∧ (f0 = .none ∨ ∃ a : Addr, f0 = rawInt a)
section
variable {prog : Program} {w : World} {A : Around} {E : Value → Shared → Prop} {s : Shared}
theorem wpAny_loadIfAlive {a : Addr} {Q : Option Obj → Shared → Prop} (h : Q (s.heap.get? a) s) : wpAny (model prog w) A (loadIfAlive a) Q E s := fun Γ p _ => by
  show Sem.wp _ Γ (.loadIfAlive a .pure) _ _ p s
  rw [Sem.wp_loadIfAlive]
  exact h

theorem en_handOut {e it T : Addr} {i : Int} {f0 f1 old x : Value} {Q : Unit → Shared → Prop} (he : s.heap.get? e = some (enObj f0 f1 it i old))
    (hQ : ∀ h', h'.get? e = some (enObj (rawInt T) (.bool false) it i old) → Heap.SameBut e s.heap h' → Q () { s with heap := h' }) :
    wpAny (model prog w) A (Builtin.SmallTypes.ownedTupleHandOut (.ref e) (.ref T)) Q E s := by
  unfold Builtin.SmallTypes.ownedTupleHandOut
  refine wpAny_bind (wpAny_setField_rec he (by simp [enObj]) fun h₆ he₆ hs₆ => ?_)
  refine wpAny_setField_rec he₆ (by simp [enObj]) fun h₇ he₇ hs₇ => ?_
  refine hQ h₇ ?_ ?_
  · simpa [enObj] using he₇
  · exact ⟨by rw [hs₇.1, hs₆.1], fun b hb => (hs₇.2 b hb).trans (hs₆.2 b hb)⟩

theorem en_next {e it l : Addr} {i : Nat} {items : Array Value} {x : Value} {Q : Value → Shared → Prop}
    (he : IsEn s.heap e it i) (hit : s.heap.IsListIter it l i) (hl : s.heap.IsList l items) (hx : items[i]? = some x) (hne : e ≠ it)
    (hQ : ∀ h', IsEn h' e it ((i : Int) + 1) → h'.IsListIter it l (i + 1) →
      h'.get? s.heap.objs.size = some { cls := .type "tuple", data := .seq #[.int i s.toks, x] } → 
      (∀ b o, b ≠ e → b ≠ it → s.heap.get? b = some o → h'.get? b = some o) → Q (.ref s.heap.objs.size) { s with heap := h', toks := s.toks + 1 }) :
    wpAny (model prog w) A (Builtin.«enumerate.__next__» ⟨[.ref e], []⟩) (fun fin s' => ∃ v, fin = .done (.ret v) ∧ Q v s') E s := by
  obtain ⟨f0, f1, old, he, hf0⟩ := he
  obtain ⟨hp, g, d, tk, os⟩ := s
  show wpAny _ _ (field (.ref e) 2 >>= _) _ _ _
  refine wpAny_bind (wpAny_field he rfl (x := .ref it) rfl ?_)
  refine wpAny_bind (wpAny_nextOf_list_item hit hl hx fun h₁ hit₁ hs₁ => ?_)
  replace hs₁ : Heap.SameBut it hp h₁ := hs₁
  have he₁ : h₁.get? e = some (enObj f0 f1 it i old) := (hs₁.2 e hne).trans he
  show wpAny _ _ (field (.ref e) 3 >>= _) _ _ ⟨h₁, g, d, tk, os⟩
  refine wpAny_bind (wpAny_field he₁ rfl (x := rawInt i) rfl ?_)
  show wpAny _ _ (field (.ref e) 4 >>= _) _ _ ⟨h₁, g, d, tk, os⟩
  refine wpAny_bind (wpAny_field he₁ rfl (x := .none) rfl ?_)
  show wpAny _ _ (mkInt i >>= _) _ _ ⟨h₁, g, d, tk, os⟩
  refine wpAny_bind (wpAny_mkInt ?_)
  show wpAny _ _ (setField (.ref e) 3 (rawInt ((i : Int) + 1)) >>= _) _ _ ⟨h₁, g, d, tk + 1, os⟩
  refine wpAny_bind (wpAny_setField_rec he₁ (by simp) fun h₂ he₂ hs₂ => ?_)
  replace hs₂ : Heap.SameBut e h₁ h₂ := hs₂
  replace he₂ : h₂.get? e = some (enObj f0 f1 it ((i : Int) + 1) old) := he₂
  show wpAny _ _ (setField (.ref e) 4 .none >>= _) _ _ ⟨h₂, g, d, tk + 1, os⟩
  refine wpAny_bind (wpAny_setField_rec he₂ (by simp) fun h₃ he₃ hs₃ => ?_)
  replace hs₃ : Heap.SameBut e h₂ h₃ := hs₃
  replace he₃ : h₃.get? e = some (enObj f0 f1 it ((i : Int) + 1) old) := he₃
  show wpAny _ _ (newTuple [.int i tk, x] >>= _) _ _ ⟨h₃, g, d, tk + 1, os⟩
  refine wpAny_bind (wpAny_newTuple ?_)
  have he₄ : (h₃.push { cls := .type "tuple", data := .seq #[.int i tk, x] }).get? e = some (enObj f0 f1 it ((i : Int) + 1) old) := Heap.get?_push_of_some _ he₃
  generalize hh₄ : h₃.push { cls := .type "tuple", data := .seq #[.int i tk, x] } = h₄ at he₄
  have hsz : h₃.objs.size = hp.objs.size := by rw [hs₃.1, hs₂.1, hs₁.1]
  have hel : e < hp.objs.size := Heap.lt_size he
  have ht₄ : h₄.get? hp.objs.size = some { cls := .type "tuple", data := .seq #[.int i tk, x] } := by rw [← hh₄, ← hsz]; exact Heap.get?_push_size _ rfl
  have hk₄ : ∀ b o, b ≠ e → b ≠ it → hp.get? b = some o → h₄.get? b = some o := fun b o hbe hbi hb => by
    rw [← hh₄]; exact Heap.get?_push_of_some _ (hs₃.extBut b o hbe (hs₂.extBut b o hbe (hs₁.extBut b o hbi hb)))
  have hit₄ : h₄.IsListIter it l (i + 1) := by
    rw [← hh₄]; obtain ⟨o, ho, r⟩ := (hit₁.extBut hs₂.extBut (Ne.symm hne)).extBut hs₃.extBut (Ne.symm hne); exact ⟨o, Heap.get?_push_of_some _ ho, r⟩
  show wpAny _ _ (Builtin.SmallTypes.ownedTupleIsFree (.ref e) >>= _) _ _ ⟨h₄, g, d, tk + 1, os⟩
  rw [hsz]
  clear hh₄ he₃ hs₃ he₂ hs₂ he₁ hs₁ hit₁ hsz h₃ h₂ h₁
  -- the tuple that is free is handed out, and the object is as before otherwise
  have free : wpAny (model prog w) A (do
      rule "enumerate.__next__.owned-tuple-again"
      let old ← field (.ref e) 5
      setField (.ref e) 5 x
      Builtin.SmallTypes.ownedTupleHandOut (.ref e) (.ref hp.objs.size)
      letGo [old] [.ref hp.objs.size]
      ret (.ref hp.objs.size)) (fun fin s' => ∃ v, fin = .done (.ret v) ∧ Q v s') E ⟨h₄, g, d, tk + 1, os⟩ := by
    refine wpAny_bind (wpAny_rule ?_)
    refine wpAny_bind (wpAny_field he₄ rfl (x := old) rfl ?_)
    refine wpAny_bind (wpAny_setField_rec he₄ (by simp [enObj]) fun h₅ he₅ hs₅ => ?_)
    replace hs₅ : Heap.SameBut e h₄ h₅ := hs₅
    replace he₅ : h₅.get? e = some (enObj f0 f1 it ((i : Int) + 1) x) := he₅
    refine wpAny_bind (en_handOut (x := x) he₅ fun h₇ he₇ hs₇ => ?_)
    replace hs₇ : Heap.SameBut e h₅ h₇ := hs₇
    refine wpAny_bind (wpAny_letGo (wpAny_pure ⟨_, rfl, hQ h₇ ⟨_, _, _, he₇, .inr ⟨_, rfl⟩⟩ ?_ ?_ ?_⟩))
    · exact (hit₄.extBut hs₅.extBut (Ne.symm hne)).extBut hs₇.extBut (Ne.symm hne)
    · exact hs₇.extBut _ _ (Nat.ne_of_gt hel) (hs₅.extBut _ _ (Nat.ne_of_gt hel) ht₄)
    · exact fun b o hbe hbi hb => hs₇.extBut b o hbe (hs₅.extBut b o hbe (hk₄ b o hbe hbi hb))
  refine wpAny_bind ?_
  unfold Builtin.SmallTypes.ownedTupleIsFree
  rcases hf0 with rfl | ⟨a, rfl⟩
  · refine wpAny_bind (wpAny_field he₄ rfl (x := .none) rfl (wpAny_pure ?_))
    simp only [if_true]
    exact free
  · refine wpAny_bind (wpAny_field he₄ rfl (x := rawInt a) rfl ?_)
    show wpAny _ _ (loadIfAlive (Int.toNat (a : Int)) >>= _) _ _ _
    refine wpAny_bind (wpAny_loadIfAlive ?_)
    cases hal : h₄.get? (Int.toNat (a : Int)) with
    | none =>
      simp only [Option.isNone_none, if_true]
      refine wpAny_pure ?_
      simp only [if_true]
      exact free
    | some oa =>
      simp only [Option.isNone_some, Bool.false_eq_true, if_false]
      refine wpAny_bind (wpAny_field he₄ rfl (x := f1) rfl ?_)
      have fin : ∀ h₅ : Heap, IsEn h₅ e it ((i : Int) + 1) → Heap.SameBut e h₄ h₅ → ∃ v, Fin.done (Flow.ret (.ref hp.objs.size)) = .done (.ret v) ∧ Q v ⟨h₅, g, d, tk + 1, os⟩ := fun h₅ he₅ hs₅ => by
        refine ⟨_, rfl, hQ h₅ he₅ ?_ ?_ ?_⟩
        · exact hit₄.extBut hs₅.extBut (Ne.symm hne)
        · exact hs₅.extBut _ _ (Nat.ne_of_gt hel) ht₄
        · exact fun b o hbe hbi hb => hs₅.extBut b o hbe (hk₄ b o hbe hbi hb)
      by_cases hb : (f1 != .bool true) = true
      · rw [if_pos hb]
        refine wpAny_bind (wpAny_setField_rec he₄ (by simp [enObj]) fun h₅ he₅ hs₅ => ?_)
        refine wpAny_pure ?_
        simp only [Bool.false_eq_true, if_false]
        exact wpAny_pure (fin h₅ ⟨_, _, _, (by simpa [enObj] using he₅), .inr ⟨_, rfl⟩⟩ hs₅)
      · rw [if_neg hb]
        refine wpAny_bind (wpAny_pure (wpAny_pure ?_))
        simp only [Bool.false_eq_true, if_false]
        exact wpAny_pure (fin h₄ ⟨_, _, _, he₄, .inr ⟨_, rfl⟩⟩ ⟨rfl, fun _ _ => rfl⟩)
end
end G
end
section
set_option maxHeartbeats 2000000
namespace G
open PySem PySem.Spec PyProof.Rows L2
namespace F
theorem enum_no_len : typeLookup (.type "enumerate") "__len__" = pure none := by rw [typeLookup_type, builtinLookup_eq_fast]; kernel_rfl
theorem enum_no_hint : typeLookup (.type "enumerate") "__length_hint__" = pure none := by rw [typeLookup_type, builtinLookup_eq_fast]; kernel_rfl
end F
section
variable {prog : Program} {w : World} {A : Around} {E : Value → Shared → Prop} {s : Shared} {R : Result → Shared → Prop}
theorem IsEn.typeIs {e it : Addr} {i : Int} (he : IsEn s.heap e it i) : s.TypeIs (.ref e) "enumerate" := by
  obtain ⟨f0, f1, old, he, _⟩ := he
  exact ⟨_, he, rfl⟩
theorem en_pyNext {e it l : Addr} {i : Nat} {items : Array Value} {x : Value} {Q : Option Value → Shared → Prop}
    (he : IsEn s.heap e it i) (hit : s.heap.IsListIter it l i) (hl : s.heap.IsList l items) (hx : items[i]? = some x) (hne : e ≠ it)
    (hQ : ∀ h', IsEn h' e it ((i : Int) + 1) → h'.IsListIter it l (i + 1) →
      h'.get? s.heap.objs.size = some { cls := .type "tuple", data := .seq #[.int i s.toks, x] } → 
      (∀ b o, b ≠ e → b ≠ it → s.heap.get? b = some o → h'.get? b = some o) → Q (some (.ref s.heap.objs.size)) { s with heap := h', toks := s.toks + 1 }) :
    wpAny (model prog w) A (pyNext (.ref e)) Q E s := by
  have hT := he.typeIs
  unfold pyNext
  exact wpAny_bind (wpAny_attempt (wpAny_callSpecial?_slot (name := Str.ofString "__next__") hT PySem.F.slot_enumerate_next
    (wpAny_call_entry PySem.F.slot_enumerate_next hT PySem.F.entry_enumerate_next
      (en_next he hit hl hx hne fun h' a b c k => wpAny_pure (hQ h' a b c k)) (PySem.F.args_enumerate_next_1 _))))
theorem en_pyEnd {e it l : Addr} {i : Nat} {items : Array Value} {Q : Option Value → Shared → Prop} (hh : A.handled = none)
    (he : IsEn s.heap e it i) (hit : s.heap.IsListIter it l i) (hl : s.heap.IsList l items) (hx : items[i]? = none)
    (hQ : ∀ h', Heap.ExtBut it s.heap h' → Q none { s with heap := h' }) : wpAny (model prog w) A (pyNext (.ref e)) Q E s := by
  have hT := he.typeIs
  obtain ⟨f0, f1, old, he, _⟩ := he
  unfold pyNext
  refine wpAny_bind (wpAny_attempt (wpAny_callSpecial?_slot (name := Str.ofString "__next__") hT PySem.F.slot_enumerate_next
    (wpAny_call_entry PySem.F.slot_enumerate_next hT PySem.F.entry_enumerate_next ?_ (PySem.F.args_enumerate_next_1 _))))
  show wpAny _ _ (field (.ref e) 2 >>= _) _ _ _
  refine wpAny_bind (wpAny_field he rfl (x := .ref it) rfl ?_)
  refine wpAny_bind (wpAny_nextOf_list_end hh hit hl hx fun h' x he' hx' => ?_)
  obtain ⟨o, ho, hc⟩ := hx'
  refine wpAny_bind (wpAny_isInstance (T := "StopIteration") (b := true) ⟨o, ho, hc⟩ isSubtype_stop ?_)
  exact wpAny_pure (hQ _ he')

theorem en_pyIter {e it : Addr} {i : Int} {Q : Value → Shared → Prop} (he : IsEn s.heap e it i) (h : Q (.ref e) s) : wpAny (model prog w) A (pyIter (.ref e)) Q E s := by
  have hT := he.typeIs
  refine wpAny_pyIter_slot hT PySem.F.slot_enumerate_iter (wpAny_call_entry PySem.F.slot_enumerate_iter hT PySem.F.entry_enumerate_iter ?_ (PySem.F.args_enumerate_iter_1 _))
  show wpAny _ _ (ret (.ref e)) _ _ s
  exact wpAny_pure ⟨_, rfl, "enumerate", _, hT, PySem.F.slot_enumerate_next.lookup, h⟩
/-- the tuples made so far -/
def Tups (h : Heap) (acc items : Array Value) (n B : Nat) : Prop := acc.size = n ∧ ∀ j, j < n → ∃ (T : Addr) (tk : Tok) (x : Value), acc[j]? = some (.ref T) ∧ items[j]? = some x ∧ B ≤ T ∧ h.get? T = some { cls := .type "tuple", data := .seq #[.int j tk, x] }

theorem en_loop {e it l S : Addr} {items : Array Value} {res : Value} (hh : A.handled = none) (hei : e ≠ it) (hle : l ≠ e) (hli : l ≠ it) (hSe : S ≠ e) (hSi : S ≠ it) (hSl : S ≠ l) (hn : items.size ≤ sizeLine) {B : Nat} (hBe : e < B) (hBi : it < B) (hBS : S < B) :
    ∀ (k i : Nat) (s : Shared) (acc : Array Value) (c : Nat), items.size - i = k → i ≤ items.size → B ≤ s.heap.objs.size → IsEn s.heap e it i → s.heap.IsListIter it l i → s.heap.IsList l items →
    s.heap.get? S = some { cls := .type "list", dict := none, data := .seq acc c, slots := #[] } → Tups s.heap acc items i B →
    (∀ h' tk acc' c', (∀ b o, b ≠ S → b ≠ e → b ≠ it → s.heap.get? b = some o → h'.get? b = some o) → h'.get? S = some { cls := .type "list", dict := none, data := .seq acc' c', slots := #[] } → Tups h' acc' items items.size B → R (.ok (.ret res)) { s with heap := h', toks := tk }) →
    codeAny (model prog w) A (.builtin "list.extend.loop" ⟨[.ref S, .ref e, res], []⟩) R s := by
  intro k
  induction k with
  | zero =>
    intro i s acc c hk hi hB he hit hl hS hT hR
    have hin : i = items.size := by omega
    subst hin
    refine codeAny_builtin PySem.F.entry_extend_loop ?_
    rw [Around.under_plainId PySem.F.plain_extend_loop _]
    show wpAny _ A.in1 (pyNext (.ref e) >>= _) _ _ s
    refine wpAny_bind (en_pyEnd (A := A.in1) hh he hit hl (Array.getElem?_eq_none (Nat.le_refl _)) fun h' hx => ?_)
    refine wpAny_pure (hR h' s.toks acc c (fun b o _ _ hb q => hx b o hb q) (hx S _ hSi hS) ⟨hT.1, fun j hj => ?_⟩)
    obtain ⟨T, tk, x, a1, a2, a3, a4⟩ := hT.2 j hj
    exact ⟨T, tk, x, a1, a2, a3, hx T _ (Nat.ne_of_gt (Nat.lt_of_lt_of_le hBi a3)) a4⟩
  | succ k ih =>
    intro i s acc c hk hi hB he hit hl hS hT hR
    have hlt : i < items.size := by omega
    refine codeAny_builtin PySem.F.entry_extend_loop ?_
    rw [Around.under_plainId PySem.F.plain_extend_loop _]
    show wpAny _ A.in1 (pyNext (.ref e) >>= _) _ _ s
    have hx : items[i]? = some items[i] := Array.getElem?_eq_getElem hlt
    refine wpAny_bind (en_pyNext (A := A.in1) he hit hl hx hei fun h' he' hit' hT' hk' => ?_)
    have hS' := hk' S _ hSe hSi hS
    show wpAny _ A.in1 (updateSeq S (·.push (.ref s.heap.objs.size)) >>= _) _ _ _
    refine wpAny_bind ?_
    have hSz : S ≠ s.heap.objs.size := Nat.ne_of_lt (Heap.lt_size hS)
    have oth : ∀ b o, b ≠ S → h'.get? b = some o → (h'.update S (Obj.mapSeq (·.push (Value.ref s.heap.objs.size)))).get? b = some o := fun b o hb q => (Heap.get?_update_other _ _ (Ne.symm hb)).trans q
    refine wpAny_updateSeq hS' rfl (wpAny_pure ⟨plainId_quiet PySem.F.plain_extend_loop _, ih (i + 1) _ (acc.push (.ref s.heap.objs.size)) _ (by omega) hlt ?hB ?he ?hit ?hl (Heap.get?_update_self _ hS' rfl) ?hT ?hR⟩) (by rw [hT.1]; exact Nat.le_trans hi hn) (by show (acc.push _).size ≤ sizeLine + 1; rw [Array.size_push, hT.1]; exact Nat.succ_le_succ (Nat.le_trans hi hn))
    case hB =>
      have q := Heap.lt_size (oth _ _ hSz.symm hT')
      exact Nat.le_trans hB (Nat.le_of_lt q)
    case he =>
      obtain ⟨f0, f1, old, q, r⟩ := he'
      exact ⟨f0, f1, old, by
        show (h'.update S _).get? e = _
        have e1 : (((i + 1 : Nat)) : Int) = (i : Int) + 1 := by omega
        rw [e1]
        exact oth e _ hSe.symm q, r⟩
    case hit => exact hit'.at fun o q => oth it o hSi.symm q
    case hl => exact hl.at fun o q => oth l o hSl.symm (hk' l o hle hli q)
    case hT =>
      refine ⟨by rw [Array.size_push, hT.1], fun j hj => ?_⟩
      by_cases hji : j < i
      · obtain ⟨T, tk, x, a1, a2, a3, a4⟩ := hT.2 j hji
        refine ⟨T, tk, x, ?_, a2, a3, oth T _ (Nat.ne_of_gt (Nat.lt_of_lt_of_le hBS a3)) (hk' T _ (Nat.ne_of_gt (Nat.lt_of_lt_of_le hBe a3)) (Nat.ne_of_gt (Nat.lt_of_lt_of_le hBi a3)) a4)⟩
        rw [Array.getElem?_push, if_neg (by rw [hT.1]; omega)]
        exact a1
      · have hje : j = i := by omega
        subst hje
        refine ⟨s.heap.objs.size, s.toks, _, ?_, hx, hB, oth _ _ hSz.symm hT'⟩
        rw [Array.getElem?_push, if_pos hT.1.symm]
    case hR =>
      intro h2 tk2 acc2 c2 hk2 hS2 hT2
      exact hR h2 tk2 acc2 c2 (fun b o b1 b2 b3 q => hk2 b o b1 b2 b3 (oth b o b1 (hk' b o b2 b3 q))) hS2 hT2

theorem en_init {e it l S : Addr} {items : Array Value} (hh : A.handled = none) (hei : e ≠ it) (hle : l ≠ e) (hli : l ≠ it) (hSe : S ≠ e) (hSi : S ≠ it) (hSl : S ≠ l) (hn : items.size ≤ sizeLine)
    (he : IsEn s.heap e it 0) (hit : s.heap.IsListIter it l 0) (hl : s.heap.IsList l items) (hS : s.heap.get? S = some { cls := .type "list", data := .seq #[] })
    (hR : ∀ h' tk acc' c', (∀ b o, b ≠ S → b ≠ e → b ≠ it → s.heap.get? b = some o → h'.get? b = some o) → h'.get? S = some { cls := .type "list", dict := none, data := .seq acc' c', slots := #[] } → Tups h' acc' items items.size s.heap.objs.size → R (.ok (.ret .none)) { s with heap := h', toks := tk }) :
    wpAny (model prog w) A.in1 (Builtin.«list.__init__» ⟨[.ref S, .ref e], []⟩)
      (fun fin s' => match fin with | .done f => R (.ok f) s' | .again c' => c'.quiet = true ∧ codeAny (model prog w) A c' R s') (fun e s' => R (.error e) s') s := by
  show wpAny _ A.in1 (do let old ← Builtin.List.listItems (.ref S); Builtin.List.listUpdate (.ref S) (fun _ => #[]); letGo old.toList.reverse; Builtin.List.listExtendWith (.ref S) (.ref e) .none) _ _ s
  refine wpAny_bind ?_
  unfold Builtin.List.listItems
  refine wpAny_bind (wpAny_seqItems hS rfl (wpAny_pure ?_))
  show wpAny _ A.in1 (updateSeq S (fun _ => #[]) >>= fun _ => letGo (#[] : Array Value).toList.reverse >>= fun _ => Builtin.List.listExtendWith (.ref S) (.ref e) .none) _ _ s
  refine wpAny_bind (wpAny_updateSeq hS rfl ?_)
  have hS₂ := Heap.get?_update_self (Obj.mapSeq (fun _ => (#[] : Array Value))) hS rfl
  have oth : ∀ b o, b ≠ S → s.heap.get? b = some o → (s.heap.update S (Obj.mapSeq (fun _ => (#[] : Array Value)))).get? b = some o :=
    fun b o hb e => (Heap.get?_update_other _ _ (Ne.symm hb)).trans e
  have en2 : ∀ {h h' : Heap}, (∀ o, h.get? e = some o → h'.get? e = some o) → IsEn h e it 0 → IsEn h' e it 0 := fun k ⟨f0, f1, old, q, r⟩ => ⟨f0, f1, old, k _ q, r⟩
  refine wpAny_bind (wpAny_letGo ?_)
  have he₂ := en2 (fun o q => oth e o hSe.symm q) he
  unfold Builtin.List.listExtendWith
  refine wpAny_bind (wpAny_typeOf (IsEn.typeIs (s := { s with heap := s.heap.update S (Obj.mapSeq (fun _ => (#[] : Array Value))) }) he₂) ?_)
  have h1 : Builtin.List.listSameRef (.ref S) (.ref e) = false := by simp [Builtin.List.listSameRef, hSe]
  have h2 : (Value.type "enumerate" == Value.type "list") = false := by decide
  have h3 : (Value.type "enumerate" == Value.type "tuple") = false := by decide
  simp only [h1, h2, h3, Bool.or_false, Bool.false_eq_true, if_false]
  have he3 := he₂
  obtain ⟨f0, f1, old, q0, r0⟩ := he3
  refine wpAny_bind (en_pyIter (s := { s with heap := s.heap.update S (Obj.mapSeq (fun _ => (#[] : Array Value))) }) he₂ ?_)
  refine wpAny_bind (wpAny_holding ?_)
  unfold Builtin.List.listLengthHint
  refine wpAny_bind (wpAny_specialOf (IsEn.typeIs (s := { s with heap := s.heap.update S (Obj.mapSeq (fun _ => (#[] : Array Value))) }) he₂) F.enum_no_len ?_)
  show wpAny _ A.in1 (specialOf (Value.ref e) (Str.ofString "__length_hint__") >>= _) _ _ _
  refine wpAny_bind (wpAny_specialOf (IsEn.typeIs (s := { s with heap := s.heap.update S (Obj.mapSeq (fun _ => (#[] : Array Value))) }) he₂) F.enum_no_hint ?_)
  refine wpAny_pure ?_
  show wpAny _ A.in1 (rule "list.extend.makes-room" >>= fun _ => Builtin.List.listTouch (.ref S) >>= fun _ =>
    again (.builtin "list.extend.loop" ⟨[.ref S, .ref e, .none], []⟩)) _ _ _
  refine wpAny_bind (wpAny_rule ?_)
  refine wpAny_bind ?_
  show wpAny _ A.in1 (updateSeq S (·.push .none) >>= fun _ => updateSeq S (·.pop)) _ _ _
  refine wpAny_bind (wpAny_updateSeq hS₂ rfl ?_)
  have hS₃ := Heap.get?_update_self (Obj.mapSeq (·.push Value.none)) hS₂ rfl
  refine wpAny_updateSeq (hz := by seq_fits) hS₃ rfl ?_
  have hS₄ := Heap.get?_update_self (Obj.mapSeq (·.pop)) hS₃ rfl
  have oth2 : ∀ b o, b ≠ S → s.heap.get? b = some o → (((s.heap.update S (Obj.mapSeq (fun _ => (#[] : Array Value)))).update S (Obj.mapSeq (·.push Value.none))).update S (Obj.mapSeq (·.pop))).get? b = some o :=
    fun b o hb q => (Heap.get?_update_other _ _ (Ne.symm hb)).trans ((Heap.get?_update_other _ _ (Ne.symm hb)).trans (oth b o hb q))
  have hlt : ∀ b o, s.heap.get? b = some o → b < s.heap.objs.size := fun b o q => Heap.lt_size q
  obtain ⟨_, _, _, qe, _⟩ := id he
  obtain ⟨oi, qi, _⟩ := id hit
  refine wpAny_pure ⟨plainId_quiet PySem.F.plain_extend_loop _, en_loop hh hei hle hli hSe hSi hSl hn (hlt _ _ qe) (hlt _ _ qi) (hlt _ _ hS) items.size 0 _ _ _ rfl (Nat.zero_le _) ?_
    (en2 (fun o q => oth2 e o hSe.symm q) he) (hit.at fun o q => oth2 it o hSi.symm q) (hl.at fun o q => oth2 l o hSl.symm q) hS₄ ⟨rfl, fun j hj => absurd hj (Nat.not_lt_zero _)⟩ fun h' tk acc' c' hk hS' hT => ?_⟩
  · show _ ≤ (((s.heap.update S _).update S _).update S _).objs.size
    simp
  · exact hR h' tk acc' c' (fun b o b1 b2 b3 q => hk b o b1 b2 b3 (oth2 b o b1 q)) hS' hT
end
end G
end
section
set_option maxHeartbeats 2000000
namespace G
open PySem PySem.Spec PyProof.Rows L2
section
variable {prog : Program} {w : World} {A : Around} {E : Value → Shared → Prop} {s : Shared}
theorem call_list_enum {e it l : Addr} {items : Array Value} {Q : Value → Shared → Prop} (hh : A.handled = none) (hei : e ≠ it) (hle : l ≠ e) (hli : l ≠ it) (hn : items.size ≤ sizeLine)
    (he : IsEn s.heap e it 0) (hit : s.heap.IsListIter it l 0) (hl : s.heap.IsList l items)
    (hQ : ∀ h' tk acc' c', (∀ b o, b ≠ e → b ≠ it → s.heap.get? b = some o → h'.get? b = some o) → h'.get? s.heap.objs.size = some { cls := .type "list", dict := none, data := .seq acc' c', slots := #[] } →
      Tups h' acc' items items.size (s.heap.objs.size + 1) → Q (.ref s.heap.objs.size) { s with heap := h', toks := tk }) :
    wpAny (model prog w) A (call (.type "list") [.ref e]) Q E s := by
  obtain ⟨_, _, _, qe, _⟩ := id he
  obtain ⟨oi, qi, _⟩ := id hit
  obtain ⟨ol, ql, _⟩ := id hl
  have lt : ∀ {b : Addr} {o : Obj}, s.heap.get? b = some o → s.heap.objs.size ≠ b := fun q => Nat.ne_of_gt (Heap.lt_size q)
  refine callType_codes (Q₁ := fun obj s₁ => obj = .ref s.heap.objs.size ∧ s₁ = { s with heap := s.heap.push { cls := .type "list", data := .seq #[] } }) PySem.F.called_list (PySem.F.typeCall_list_1 _) PySem.F.entry_list_init
    (code_list_new _ ⟨rfl, rfl⟩) fun obj s₁ h₁ => ?_
  obtain ⟨rfl, rfl⟩ := h₁
  have hS : (s.heap.push { cls := .type "list", data := .seq #[] }).get? s.heap.objs.size = some { cls := .type "list", data := .seq #[] } := Heap.get?_push_size _ rfl
  refine ⟨⟨_, hS, rfl⟩, PySem.F.args_list_init_2 _ _, en_init (s := { s with heap := s.heap.push { cls := .type "list", data := .seq #[] } }) (A := A.in1) hh hei hle hli (lt qe) (lt qi) (lt ql) hn ?_
    (hit.at fun o q => Heap.get?_push_of_some _ q) (hl.at fun o q => Heap.get?_push_of_some _ q) hS fun h' tk acc' c' hk hS' hT => ?_⟩
  · obtain ⟨f0, f1, old, q, r⟩ := he
    exact ⟨f0, f1, old, Heap.get?_push_of_some _ q, r⟩
  · refine ⟨rfl, hQ h' tk acc' c' (fun b o b1 b2 q => hk b o (lt q).symm b1 b2 (Heap.get?_push_of_some _ q)) hS' ?_⟩
    have e1 : (s.heap.push { cls := .type "list", data := .seq #[] }).objs.size = s.heap.objs.size + 1 := Heap.size_push ..
    rw [← e1]
    exact hT
end

open Classical in
/-- what is new: the list at S, a pair for each item -/
noncomputable def enH (H : Hp) (S : Addr) (acc : List Addr) (xs : List V) : Hp := fun b =>
  if b = S then some (.lst (acc.map V.ref)) else if h : ∃ (j : Nat) (x : V), acc[j]? = some b ∧ xs[j]? = some x then some (.tup [.int ((Classical.choose h : Nat) : Int), Classical.choose (Classical.choose_spec h)]) else H b

section
variable {X : Cx}
def tListEn (K : PySem.W.Frag) (te : TE) : TE := fun σ H Q => te σ H fun x H1 => ∃ (a : Addr) (xs : List V), x = .ref a ∧ SqL K H1 a xs ∧
  ∀ (l : Addr) (ts : List Addr) (H2 : Hp), H1 l = none → Evl.Ex H1 H2 → H2 l = some (.lst (ts.map V.ref)) → ts.length = xs.length → (∀ (j : Nat) (T : Addr) (x : V), ts[j]? = some T → xs[j]? = some x → H2 T = some (.tup [.int (j : Int), x])) → Q (.ref l) H2
theorem pe_listEn {e : Expr} {te : TE} {p pos p2 pos2 : Pos} (hc : X.calm = true) (hg : Gl X "list") (hm : X.mg "list" = none) (hg2 : Gl X "enumerate") (hm2 : X.mg "enumerate" = none) (ha : PE X e te)
    (na2 : starEach [e] X.env = (false, eval e X.env) :: starEach [] X.env := by rfl)
    (na : starEach [.Call (.Name "enumerate" p2) [e] [] pos2] X.env = (false, eval (.Call (.Name "enumerate" p2) [e] [] pos2) X.env) :: starEach [] X.env := by rfl) :
    PE X (.Call (.Name "list" p) [.Call (.Name "enumerate" p2) [e] [] pos2] [] pos) (tListEn X.K te) := by
  refine ⟨fun pins s σ H Q I h => ?_⟩
  refine Call_ (ld_blt I hg hm boot_list (PyProof.Rows.callWith_type1 (args_cons ?_ na) na))
  refine Call_ (ld_blt I hg2 hm2 boot_enumerate (PyProof.Rows.callWith_type1 (one_arg ha I h (fun v s1 x H1 I1 r q => ?_) na2) na2))
  obtain ⟨a, xs, rfl, hs, q⟩ := q
  obtain rfl : v = Value.ref a := r
  obtain ⟨its, rv, pl, hz⟩ := I1.list hs
  have lits : its.length = xs.length := rv.length.symm
  refine call_enumerate_list pl.isList fun h1 he hit hsz hk => args_nil ?_
  have hal : a < s1.heap.objs.size := by obtain ⟨o, q, _⟩ := pl.isList; exact Heap.lt_size q
  refine call_list_enum (s := { s1 with heap := h1 }) (A := X.A) (I1.ok.hd hc) (Nat.succ_ne_self _) (Nat.ne_of_lt (Nat.lt_succ_of_lt hal)) (Nat.ne_of_lt hal) (by rw [List.size_toArray, lits]; exact hz)
    ⟨_, _, _, he, .inl rfl⟩ hit (pl.isList.at fun o q => hk a o q) fun h' tk acc c' hk' hS' hT => ?_
  -- the addresses
  have hacc : ∀ j, j < acc.size → ∃ T : Addr, acc[j]? = some (.ref T) := fun j hj => by
    obtain ⟨T, _, _, e1, _⟩ := hT.2 j (by rw [← hT.1]; exact hj)
    exact ⟨T, e1⟩
  let adr : Value → Addr := fun v => match v with | .ref T => T | _ => 0
  let ts : List Addr := acc.toList.map adr
  have tsl : ts.length = xs.length := by
    show (acc.toList.map adr).length = _
    rw [List.length_map, Array.length_toList, hT.1, List.size_toArray, lits]
  have tsj : ∀ j (T : Addr), ts[j]? = some T → acc[j]? = some (.ref T) ∧ j < its.length := fun j T hj => by
    have hlt : j < ts.length := (List.getElem?_eq_some_iff.mp hj).1
    have hlt2 : j < acc.size := by rw [hT.1, List.size_toArray, lits, ← tsl]; exact hlt
    obtain ⟨T', e1⟩ := hacc j hlt2
    have e2 : ts[j]? = some T' := by
      show (acc.toList.map adr)[j]? = some T'
      rw [List.getElem?_map, Array.getElem?_toList, e1] <;> rfl
    rw [hj] at e2
    cases e2
    exact ⟨e1, by rw [lits, ← tsl]; exact hlt⟩
  -- what stands at each
  have tup : ∀ (j : Nat) (T : Addr) (x : V), ts[j]? = some T → xs[j]? = some x → ∃ (tk : Tok) (u : Value), RelV x u ∧ s1.heap.objs.size ≤ T ∧ T ≠ h1.objs.size ∧ h'.get? T = some { cls := .type "tuple", data := .seq #[.int (j : Int) tk, u] } := fun j T x hj hx => by
    obtain ⟨e1, hj2⟩ := tsj j T hj
    obtain ⟨T', tk, u, a1, a2, a3, a4⟩ := hT.2 j (by rw [List.size_toArray]; exact hj2)
    rw [e1] at a1
    cases a1
    obtain ⟨u', hu', ru⟩ := rv.get hx
    have e3 : its[j]? = some u := by simpa using a2
    rw [hu'] at e3
    have e4 := Option.some.inj e3
    subst e4
    have a3' : h1.objs.size + 1 ≤ T := a3
    refine ⟨tk, _, ru, Nat.le_trans (by rw [hsz]; exact Nat.le_add_right _ _) (Nat.le_of_succ_le a3'), Nat.ne_of_gt a3', a4⟩
  have ltS : s1.heap.objs.size ≤ h1.objs.size := by rw [hsz]; exact Nat.le_add_right _ _
  have kept : ∀ b o, s1.heap.get? b = some o → h'.get? b = some o := fun b o q => by
    have hb := Heap.lt_size q
    exact hk' b o (Nat.ne_of_lt (Nat.lt_succ_of_lt hb)) (Nat.ne_of_lt hb) (hk b o q)
  have low : ∀ b, b < s1.heap.objs.size → enH H1 h1.objs.size ts xs b = H1 b := fun b hb => by
    unfold enH
    rw [if_neg (Nat.ne_of_lt (Nat.lt_of_lt_of_le hb ltS)), dif_neg]
    rintro ⟨j, x, e1, e2⟩
    obtain ⟨_, _, _, e3, _⟩ := tup j b x e1 e2
    exact absurd hb (Nat.not_lt_of_le e3)
  have old : ∀ b o, H1 b = some o → enH H1 h1.objs.size ts xs b = some o := fun b o q => by rw [low b (I1.hok.lt q)]; exact q
  have atS : enH H1 h1.objs.size ts xs h1.objs.size = some (.lst (ts.map V.ref)) := by unfold enH; rw [if_pos rfl]
  have atT : ∀ (j : Nat) (T : Addr) (x : V), ts[j]? = some T → xs[j]? = some x → enH H1 h1.objs.size ts xs T = some (.tup [.int (j : Int), x]) := fun j T x hj hx => by
    obtain ⟨tk, u, ru, _, hne, e1⟩ := tup j T x hj hx
    have hex : ∃ (j : Nat) (x : V), ts[j]? = some T ∧ xs[j]? = some x := ⟨j, x, hj, hx⟩
    unfold enH
    rw [if_neg hne, dif_pos hex]
    have key : ∀ (j0 : Nat) (x0 : V), ts[j0]? = some T → xs[j0]? = some x0 → j0 = j ∧ x0 = x := fun j0 x0 q1 q2 => by
      obtain ⟨tk2, u2, ru2, _, _, e2⟩ := tup j0 T x0 q1 q2
      rw [e1] at e2
      have e3 : (Value.int (j : Int) tk) = Value.int (j0 : Int) tk2 := by
        have := Option.some.inj e2
        injection this with _ _ d _
        injection d with d1 _
        have := congrArg (fun a : Array Value => a[0]?) d1
        simpa using this
      injection e3 with e4 _
      have e5 : j0 = j := by omega
      subst e5
      rw [hx] at q2
      exact ⟨rfl, (Option.some.inj q2).symm⟩
    obtain ⟨k1, k2⟩ := key _ _ (Classical.choose_spec (Classical.choose_spec hex)).1 (Classical.choose_spec (Classical.choose_spec hex)).2
    have e7 : V.int ((Classical.choose hex : Nat) : Int) = V.int (j : Int) := by rw [k1]
    rw [e7, k2]
  have un : Un X.fs [] H1 (enH H1 h1.objs.size ts xs) s1.heap h' := by
    refine ⟨fun b o q _ _ _ => kept b o q, fun b o q _ _ _ => ⟨o.slots, kept b o q⟩, fun b o q n _ => by rw [low b (Heap.lt_size q)]; exact n, fun b o q _ => ⟨o, kept b o q⟩, fun b xs q => old b _ q, fun b o u q => old b _ q, fun b ps q => ⟨#[], by rw [old b _ q]; simp⟩⟩
  have hok : HOk X.prog X.w (enH H1 h1.objs.size ts xs) h' := fun b o q => by
    by_cases hb : b = h1.objs.size
    · subst hb
      rw [atS] at q
      cases q
      refine ⟨?_, acc.toList, c', ?_, ?_⟩
      · rw [List.length_map, tsl]; exact hz
      · have : ∀ (l : List Value), (∀ v ∈ l, ∃ T : Addr, v = .ref T) → Vals ((l.map adr).map V.ref) l := fun l => by
          induction l with
          | nil => exact fun _ => .nil
          | cons v l ih =>
            intro hv
            obtain ⟨T, rfl⟩ := hv v (List.mem_cons_self ..)
            exact .cons rfl (ih fun u hu => hv u (List.mem_cons_of_mem _ hu))
        refine this acc.toList fun v hv => ?_
        obtain ⟨j, hj⟩ := List.getElem?_of_mem hv
        have hj' : acc[j]? = some v := by rw [← hj, Array.getElem?_toList]
        have hlt : j < acc.size := by
          have := (List.getElem?_eq_some_iff.mp hj).1
          rwa [Array.length_toList] at this
        obtain ⟨T, e1⟩ := hacc j hlt
        rw [hj'] at e1
        exact ⟨T, Option.some.inj e1⟩
      · rw [Array.toArray_toList]; exact hS'
    · by_cases hex : ∃ (j : Nat) (x : V), ts[j]? = some b ∧ xs[j]? = some x
      · obtain ⟨j, x, e1, e2⟩ := hex
        rw [atT j b x e1 e2] at q
        cases q
        obtain ⟨tk, u, ru, _, _, e3⟩ := tup j b x e1 e2
        exact ⟨by show 2 ≤ sizeLine; decide, [.int j tk, u], .cons ⟨_, rfl⟩ (.cons ru .nil), ⟨_, e3, rfl, _, rfl⟩⟩
      · have e0 : enH H1 h1.objs.size ts xs b = H1 b := by unfold enH; rw [if_neg hb, dif_neg hex]
        rw [e0] at q
        exact (I1.hok b o q).stay (fun c v _ r => kept c v r) (fun c r => old c _ r) fun c ys r => old c _ r
  exact ⟨.ref h1.objs.size, _, I1.un (t' := tk) un hok, rfl, q h1.objs.size ts _ (I1.hok.fresh ltS) (fun b o q => old b o q) atS tsl atT⟩
end
end G
end
section
set_option maxHeartbeats 2000000
namespace G
open PySem L2 Evl

/-! ### data at any depth -/
mutual
theorem dp_mono {K : PySem.W.Frag} {H H' : Hp} (e : Ex H H') : ∀ {d : PyData} {v : V}, Dp K H v d → Dp K H' v d
  | .none, _, h => by cases h; exact .non
  | .bool _, _, h => by cases h; exact .bl _
  | .int _, _, h => by cases h; exact .int _
  | .str _, _, h => by cases h; exact .str _
  | .list ds, _, h => by
    cases h with
    | lst hs ha => exact .lst (ex_l e hs) (dp_monoAll e ha)
  | .tuple ds, _, h => by
    cases h with
    | tup hs ha => exact .tup (ex_t e hs) (dp_monoAll e ha)
  | .dict _, _, h => by cases h
theorem dp_monoAll {K : PySem.W.Frag} {H H' : Hp} (e : Ex H H') : ∀ {ds : List PyData} {vs : List V}, DpAll K H vs ds → DpAll K H' vs ds
  | [], _, h => by cases h; exact .nil
  | d :: ds, _, h => by
    cases h with
    | cons h1 h2 => exact .cons (dp_mono e h1) (dp_monoAll e h2)
end
def dInts (ns : List Int) : PyData := .list (ns.map PyData.int)
theorem dpAll_ints {K : PySem.W.Frag} {H : Hp} : ∀ (ns : List Int), DpAll K H (ns.map V.int) (ns.map PyData.int)
  | [] => .nil
  | n :: ns => .cons (.int n) (dpAll_ints ns)
theorem dp_ints {K : PySem.W.Frag} {H : Hp} {a : Addr} {ns : List Int} (h : SqL K H a (ns.map V.int)) : Dp K H (.ref a) (dInts ns) := .lst h (dpAll_ints ns)
theorem dp_get {K : PySem.W.Frag} {H : Hp} : ∀ {ds : List PyData} {vs : List V} {j : Nat} {d : PyData}, DpAll K H vs ds → ds[j]? = some d → ∃ v, vs[j]? = some v ∧ Dp K H v d
  | _, _, _, _, .nil, e => by simp at e
  | _, _, 0, _, .cons h _, e => by simp at e; subst e; exact ⟨_, rfl, h⟩
  | _, _, j + 1, _, .cons _ h, e => by
    obtain ⟨v, h1, h2⟩ := dp_get (j := j) h (by simpa using e)
    exact ⟨v, by simpa using h1, h2⟩
theorem dp_len {K : PySem.W.Frag} {H : Hp} : ∀ {ds : List PyData} {vs : List V}, DpAll K H vs ds → vs.length = ds.length
  | _, _, .nil => rfl
  | _, _, .cons _ h => by simp [dp_len h]

/-! ### what evaluates to data -/
variable {K : PySem.W.Frag} {σ : L2.St} {H H' : Hp} {ta tb te tx : TE} {tt : TT} {x y z v : V} {d : PyData} {ds : List PyData} {p C dx : Addr} {fs : List (Str × V)} {f m : Str} {sp : Sp} {dvs vs : List V} {E : XK} {tA tr tk : TA}
def EvD (K : PySem.W.Frag) (te : TE) (σ : L2.St) (H : Hp) (d : PyData) : Prop := ∀ H1, Ex H H1 → ∀ Q : VK, (∀ v H2, Ex H1 H2 → Dp K H2 v d → Q v H2) → te σ H1 Q
def EvAD (K : PySem.W.Frag) (ta : TA) (σ : L2.St) (H : Hp) (ds : List PyData) : Prop := ∀ H1, Ex H H1 → ∀ Q : List V → Hp → Prop, (∀ vs H2, Ex H1 H2 → DpAll K H2 vs ds → Q vs H2) → ta σ H1 Q
theorem EvD.mono (e : Ex H H') (h : EvD K te σ H d) : EvD K te σ H' d := fun H1 a Q q => h H1 (e.trans a) Q q
theorem EvL.mono (e : Ex H H') {xs : List V} (h : EvL te σ H xs) : EvL te σ H' xs := fun H1 a Q q => h H1 (e.trans a) Q q
theorem evd_v (h : Ev te σ H v) (hd : ∀ H1, Ex H H1 → Dp K H1 v d) : EvD K te σ H d := fun H1 e Q q => h H1 e Q fun H2 e2 => q v H2 e2 (hd H2 (e.trans e2))
theorem evd_int {i : Int} (h : Ev te σ H (.int i)) : EvD K te σ H (.int i) := evd_v h fun _ _ => .int i
theorem evd_bl {b : Bool} (h : Ev te σ H (.bl b)) : EvD K te σ H (.bool b) := evd_v h fun _ _ => .bl b
theorem evd_ref (h : Ev te σ H v) (hd : Dp K H v d) : EvD K te σ H d := evd_v h fun _ e => dp_mono e hd
theorem evd_l {xs : List V} (h : EvL te σ H xs) (hd : ∀ H1, Ex H H1 → DpAll K H1 xs ds) : EvD K te σ H (.list ds) := fun H1 e Q q => h H1 e Q fun p H2 _ e2 h2 => q _ H2 e2 (.lst (sq_of h2) (hd H2 (e.trans e2)))
theorem evd_ints {ns : List Int} (h : EvL te σ H (ns.map V.int)) : EvD K te σ H (dInts ns) := evd_l h fun _ _ => dpAll_ints ns
theorem evd_u {xs : List V} (h : EvU te σ H xs) (hd : ∀ H1, Ex H H1 → DpAll K H1 xs ds) : EvD K te σ H (.tuple ds) := fun H1 e Q q => h H1 e Q fun p H2 _ e2 h2 => q _ H2 e2 (.tup (st_of h2) (hd H2 (e.trans e2)))
theorem evad_nil : EvAD K tNil σ H [] := fun H1 _ _ q => q [] H1 (Ex.refl H1) .nil
theorem evad_cons (h : EvD K ta σ H d) (hr : EvAD K tr σ H ds) : EvAD K (tCons ta tr) σ H (d :: ds) := fun H1 e Q q =>
  h H1 e _ fun v H2 e2 hv => hr H2 (e.trans e2) _ fun vs H3 e3 hvs => q _ H3 (e2.trans e3) (.cons (dp_mono e3 hv) hvs)
theorem evd_lst (h : EvAD K tA σ H ds) (hl : ds.length ≤ 100000) : EvD K (tLst tA) σ H (.list ds) := fun H1 e Q q =>
  h H1 e _ fun vs H2 e2 hv => ⟨sz_of (by rw [dp_len hv]; exact hl), fun p hp => q _ _ (e2.trans (Ex.new hp)) (.lst (sq_of upd_same) (dp_monoAll (Ex.new hp) hv))⟩
theorem evd_tup (h : EvAD K tA σ H ds) (hl : ds.length ≤ 100000) : EvD K (tTup tA) σ H (.tuple ds) := fun H1 e Q q =>
  h H1 e _ fun vs H2 e2 hv => ⟨sz_of (by rw [dp_len hv]; exact hl), fun p hp => q _ _ (e2.trans (Ex.new hp)) (.tup (st_of upd_same) (dp_monoAll (Ex.new hp) hv))⟩
theorem evd_is {d' : PyData} (h : EvD K te σ H d) (e : d = d') : EvD K te σ H d' := e ▸ h
theorem dp_app {Hx : Hp} : ∀ {as bs : List V} {cs es : List PyData}, DpAll K Hx as cs → DpAll K Hx bs es → DpAll K Hx (as ++ bs) (cs ++ es)
  | _, _, _, _, .nil, h2 => h2
  | _, _, _, _, .cons q1 q2, h2 => .cons q1 (dp_app q2 h2)
theorem dp_repl {Hx : Hp} {as : List V} {cs : List PyData} (h : DpAll K Hx as cs) : ∀ k : Nat, DpAll K Hx (List.replicate k as).flatten (List.replicate k cs).flatten
  | 0 => .nil
  | k + 1 => by
    rw [List.replicate_succ, List.replicate_succ, List.flatten_cons, List.flatten_cons]
    exact dp_app h (dp_repl h k)
/-- xs * k of a new list of data -/
theorem evd_rep {k : Nat} (h : EvAD K tA σ H ds) (hl : ds.length ≤ 1000) (hk : k ≤ 10) (hb : Ev tb σ H (.int (k : Int))) : EvD K (tOp rRep (tLst tA) tb) σ H (.list ((List.replicate k ds).flatten)) := fun H1 e Q q => by
  refine h H1 e _ fun vs H2 e2 hv => ⟨sz_of (by rw [dp_len hv]; omega), fun p hp => ?_⟩
  refine hb _ (e.trans (e2.trans (Ex.new hp))) _ fun H3 e3 => ?_
  have hvl := dp_len hv
  have hm : vs.length * k ≤ 10000 := Nat.le_trans (Nat.mul_le_mul (by rw [hvl]; exact hl) hk) (by decide)
  refine ⟨p, (k : Int), vs, rfl, rfl, e3 p _ upd_same, by omega, by omega, by rw [Int.toNat_natCast]; exact sz_of (by omega), fun q' hq' => ?_⟩
  refine q _ _ (((e2.trans (Ex.new hp)).trans e3).trans (Ex.new hq')) (.lst (sq_of upd_same) ?_)
  rw [Int.toNat_natCast]
  exact dp_repl (dp_monoAll (((Ex.new hp).trans e3).trans (Ex.new hq')) hv) k

/-! ### fields, methods, properties -/
theorem ev_fld {tv : V} (h : Ev ta σ H (.ref p)) (ho : H p = some (.ins C dx fs)) (hc : Cls K C) (hn : NoAttr K C f) (hl : fs.lookup f = some tv) : Ev (tFld K ta f) σ H tv := fun H1 e Q q =>
  h H1 e _ fun H2 e2 => ⟨p, C, dx, fs, tv, rfl, (e.trans e2) p _ ho, hc, hn, hl, q H2 e2⟩
theorem ev_con {u : Value} (h : Ev ta σ H (.ref p)) (ho : H p = some (.ins C dx fs)) (hc : Cls K C) (hk : Con K C f v u) (hl : fs.lookup f = none) : Ev (tCon K ta f) σ H v := fun H1 e Q q =>
  h H1 e _ fun H2 e2 => ⟨p, C, dx, fs, v, u, rfl, (e.trans e2) p _ ho, hc, hk, hl, q H2 e2⟩
theorem ev_prop (h : Ev ta σ H (.ref p)) (ho : H p = some (.ins C dx fs)) (hs : SpV sp (.ref p :: dvs) H z) : Ev (tProp C sp dvs E ta) σ H z := fun H1 e Q q =>
  h H1 e _ fun H2 e2 => ⟨p, dx, fs, rfl, (e.trans e2) p _ ho, hs H2 (e.trans e2) Q (fun H3 e3 => q H3 (e2.trans e3)) E⟩
theorem ev_meth (h : Ev ta σ H (.ref p)) (ho : H p = some (.ins C dx fs)) (hl : fs.lookup m = none) (ha : EvA tA σ H vs) (hs : SpV sp (.ref p :: (vs ++ dvs)) H z) : Ev (tMeth C m sp dvs E ta tA) σ H z := fun H1 e Q q =>
  h H1 e _ fun H2 e2 => ⟨p, dx, fs, rfl, (e.trans e2) p _ ho, hl, ha H2 (e.trans e2) _ fun H3 e3 => hs H3 ((e.trans e2).trans e3) Q (fun H4 e4 => q H4 ((e2.trans e3).trans e4)) E⟩
theorem el_meth {xs : List V} (h : Ev ta σ H (.ref p)) (ho : H p = some (.ins C dx fs)) (hl : fs.lookup m = none) (ha : EvA tA σ H vs) (hs : SpL sp (.ref p :: (vs ++ dvs)) H xs) : EvL (tMeth C m sp dvs E ta tA) σ H xs := fun H1 e Q q =>
  h H1 e _ fun H2 e2 => ⟨p, dx, fs, rfl, (e.trans e2) p _ ho, hl, ha H2 (e.trans e2) _ fun H3 e3 => hs H3 ((e.trans e2).trans e3) Q (fun q' H4 n4 e4 h4 => q q' H4 (fresh_back (e2.trans e3) n4) ((e2.trans e3).trans e4) h4) E⟩
def SpD (K : PySem.W.Frag) (sp : Sp) (vs : List V) (H : Hp) (d : PyData) : Prop := ∀ H1, Ex H H1 → ∀ Q : VK, (∀ v H2, Ex H1 H2 → Dp K H2 v d → Q v H2) → ∀ E : XK, sp vs H1 Q E
theorem evd_meth (h : Ev ta σ H (.ref p)) (ho : H p = some (.ins C dx fs)) (hl : fs.lookup m = none) (ha : EvA tA σ H vs) (hs : SpD K sp (.ref p :: (vs ++ dvs)) H d) : EvD K (tMeth C m sp dvs E ta tA) σ H d := fun H1 e Q q =>
  h H1 e _ fun H2 e2 => ⟨p, dx, fs, rfl, (e.trans e2) p _ ho, hl, ha H2 (e.trans e2) _ fun H3 e3 => hs H3 ((e.trans e2).trans e3) Q (fun v H4 e4 h4 => q v H4 ((e2.trans e3).trans e4) h4) E⟩
theorem evd_call (ha : EvA tA σ H vs) (hs : SpD K sp (vs ++ dvs) H d) : EvD K (tCall sp dvs E tA) σ H d := fun H1 e Q q =>
  ha H1 e _ fun H2 e2 => hs H2 (e.trans e2) Q (fun v H3 e3 h3 => q v H3 (e2.trans e3) h3) E
theorem ev_methN {n j : Nat} {gV : List V → List V → List V} {zs : List V} (h : Ev ta σ H (.ref p)) (ho : H p = some (.ins C dx fs)) (hl : fs.lookup m = none) (ha : EvA tA σ H vs) (hk : EvA tk σ H zs) (h1 : vs.length = n) (h2 : zs.length = j)
    (hs : SpV sp (gV (.ref p :: vs) zs) H z) : Ev (tMethN C m n j sp gV E ta tA tk) σ H z := fun H1 e Q q =>
  h H1 e _ fun H2 e2 => ⟨p, dx, fs, rfl, (e.trans e2) p _ ho, hl, ha H2 (e.trans e2) _ fun H3 e3 => hk H3 ((e.trans e2).trans e3) _ fun H4 e4 => ⟨h1, h2, hs H4 (((e.trans e2).trans e3).trans e4) Q (fun H5 e5 => q H5 (((e2.trans e3).trans e4).trans e5)) E⟩⟩
theorem el_methN {n j : Nat} {gV : List V → List V → List V} {zs xs : List V} (h : Ev ta σ H (.ref p)) (ho : H p = some (.ins C dx fs)) (hl : fs.lookup m = none) (ha : EvA tA σ H vs) (hk : EvA tk σ H zs) (h1 : vs.length = n) (h2 : zs.length = j)
    (hs : SpL sp (gV (.ref p :: vs) zs) H xs) : EvL (tMethN C m n j sp gV E ta tA tk) σ H xs := fun H1 e Q q =>
  h H1 e _ fun H2 e2 => ⟨p, dx, fs, rfl, (e.trans e2) p _ ho, hl, ha H2 (e.trans e2) _ fun H3 e3 => hk H3 ((e.trans e2).trans e3) _ fun H4 e4 => ⟨h1, h2, hs H4 (((e.trans e2).trans e3).trans e4) Q (fun q' H5 n5 e5 h5 => q q' H5 (fresh_back ((e2.trans e3).trans e4) n5) (((e2.trans e3).trans e4).trans e5) h5) E⟩⟩
theorem evd_methL {xs : List V} {ds : List PyData} (h : EvL te σ H xs) (hd : ∀ H1, Ex H H1 → DpAll K H1 xs ds) : EvD K te σ H (.list ds) := evd_l h hd

/-- repr of data -/
theorem ev_repr {ds : List PyData} (h : EvD K ta σ H (.list ds)) (hs : PyData.showable (.list ds) = true) (hdp : PyData.depth (.list ds) ≤ 60) (hz : (PyData.shown (.list ds)).length ≤ sizeLine) : Ev (tCB (rRepr K) (tCons ta tNil)) σ H (.str (PyData.shown (.list ds))) := fun H1 e Q q =>
  h H1 e _ fun v H2 e2 hv => by
    cases hv with
    | lst h1 h2 => exact ⟨_, _, rfl, .lst h1 h2, hs, hdp, hz, q H2 e2⟩
variable {D : Ends} {tu tw tz : TS}
theorem s_asgD {i : Nat} (h : EvD K te σ H d) (k : ∀ v H1, Ex H H1 → Dp K H1 v d → D.nx (σ.set i (some v)) H1) : tAsg te (gName i) D σ H := h H (Ex.refl H) _ fun v H1 e hv => k v H1 e hv
theorem q_asgD {i : Nat} (h : EvD K te σ H d) (k : ∀ v H1, Ex H H1 → Dp K H1 v d → tz D (σ.set i (some v)) H1) : tSeq (tAsg te (gName i)) tz D σ H := s_asgD (D := { D with nx := tz D }) h k
theorem s_retD (h : EvD K te σ H d) (k : ∀ v H1, Ex H H1 → Dp K H1 v d → D.rt v H1) : tRet te D σ H := h H (Ex.refl H) _ k
end G
end
section
set_option maxHeartbeats 2000000
namespace G
open PySem L2 Evl
variable {K : PySem.W.Frag} {σ : L2.St} {H H' : Hp} {ta tb te tx : TE} {tt : TT} {x y z v : V} {p C dx : Addr} {tA tr tk : TA}

/-! ### calls of built-ins, by their answers -/
theorem rc_len {n : Nat} {ys : List V} (h : SqL K H p ys ∨ SqT K H p ys) (hn : ys.length = n) : RC (fun xs H Q => ∃ p ys, xs = [.ref p] ∧ (SqL K H p ys ∨ SqT K H p ys) ∧ Q (.int (ys.length : Int)) H) [.ref p] H (.int (n : Int)) := fun H1 e Q q =>
  ⟨p, ys, rfl, h.imp (ex_l e) (ex_t e), by rw [hn]; exact q H1 (Ex.refl _)⟩
theorem rc_abs {i : Int} : RC (fun xs H Q => ∃ i, xs = [.int i] ∧ Q (.int (if i < 0 then -i else i)) H) [.int i] H (.int (if i < 0 then -i else i)) := fun H1 e Q q => ⟨i, rfl, q H1 (Ex.refl _)⟩
theorem rc_max2 {i j : Int} : RC (fun xs H Q => ∃ i j, xs = [.int i, .int j] ∧ Q (.int (if j > i then j else i)) H) [.int i, .int j] H (.int (if j > i then j else i)) := fun H1 e Q q => ⟨i, j, rfl, q H1 (Ex.refl _)⟩
theorem rc_min2 {i j : Int} : RC (fun xs H Q => ∃ i j, xs = [.int i, .int j] ∧ Q (.int (if j < i then j else i)) H) [.int i, .int j] H (.int (if j < i then j else i)) := fun H1 e Q q => ⟨i, j, rfl, q H1 (Ex.refl _)⟩
theorem rc_int1 {i : Int} : RC (fun xs H Q => (∃ i, xs = [.int i] ∧ Q (.int i) H) ∨ ∃ k, xs = [.bl k] ∧ Q (.int (if k then 1 else 0)) H) [.int i] H (.int i) := fun H1 e Q q => .inl ⟨i, rfl, q H1 (Ex.refl _)⟩
theorem rc_sum {ns : List Int} (h : SqL K H p (ns.map V.int)) : RC (rSum K) [.ref p] H (.int ns.sum) := fun H1 e Q q => ⟨p, ns, rfl, ex_l e h, q H1 (Ex.refl _)⟩
theorem rc_all {bs : List Bool} (h : SqL K H p (bs.map V.bl)) : RC (rAll K) [.ref p] H (.bl (bs.all id)) := fun H1 e Q q => ⟨p, bs, rfl, ex_l e h, q H1 (Ex.refl _)⟩
theorem rc_max {ns : List Int} {m : Int} (h : SqL K H p (ns.map V.int)) (hm : m ∈ ns) (hle : ∀ y, y ∈ ns → y ≤ m) : RC (rMax K) [.ref p] H (.int m) := fun H1 e Q q =>
  ⟨p, ns, rfl, ex_l e h, List.length_pos_of_mem hm, fun k hk hkl => by
    have e1 : k = m := Int.le_antisymm (hle k hk) (hkl m hm)
    rw [e1]; exact q H1 (Ex.refl _)⟩
theorem rc_min {ns : List Int} {m : Int} (h : SqL K H p (ns.map V.int)) (hm : m ∈ ns) (hle : ∀ y, y ∈ ns → m ≤ y) : RC (rMin K) [.ref p] H (.int m) := fun H1 e Q q =>
  ⟨p, ns, rfl, ex_l e h, List.length_pos_of_mem hm, fun k hk hkl => by
    have e1 : k = m := Int.le_antisymm (hkl m hm) (hle k hk)
    rw [e1]; exact q H1 (Ex.refl _)⟩
theorem rc_gcd {a b : Int} : RC rGcd [.int a, .int b] H (.int ((Nat.gcd a.natAbs b.natAbs : Nat) : Int)) := fun H1 e Q q => ⟨a, b, rfl, q H1 (Ex.refl _)⟩
theorem rc_isi {c : V} {t u : Value} {b : Bool} (k : ClsV c u) (ty : ∀ H1, Ex H H1 → TyX K H1 x t) (hb : PySem.W.kitOne K t u = some b) : RC (rIsi K) [x, c] H (.bl b) := fun H1 e Q q => ⟨x, c, t, u, b, rfl, k, ty H1 e, hb, q H1 (Ex.refl _)⟩
theorem rc_list {xs : List V} (h : SqL K H p xs ∨ SqT K H p xs) : RCL (fun xs H Q => ∃ p ys, xs = [.ref p] ∧ (SqL K H p ys ∨ SqT K H p ys) ∧ ∀ l, H l = none → Q (.ref l) (upd H l (.lst ys))) [.ref p] H xs := fun H1 e Q q =>
  ⟨p, xs, rfl, h.imp (ex_l e) (ex_t e), fun l hl => q l _ hl (Ex.new hl) upd_same⟩
/-- a built-in asked of a list that is new -/
theorem ev_cbL {r : List V → Hp → VK → Prop} {xs : List V} (h : EvL ta σ H xs) (hr : ∀ p H1, Ex H H1 → H1 p = some (.lst xs) → RC r [.ref p] H1 z) : Ev (tCB r (tCons ta tNil)) σ H z := fun H1 e Q q =>
  h H1 e _ fun p H2 _ e2 h2 => hr p H2 (e.trans e2) h2 H2 (Ex.refl _) Q fun H3 e3 => q H3 (e2.trans e3)

theorem q_par {D : Ends} {tz : TS} {i j : Nat} {v w : V} (h : EvA tA σ H [v, w]) (k : ∀ H1, Ex H H1 → tz D ((σ.set i (some v)).set j (some w)) H1) : tSeq (tPar i j tA) tz D σ H := h H (Ex.refl H) _ fun H1 e => ⟨v, w, rfl, k H1 e⟩
theorem s_par {D : Ends} {i j : Nat} {v w : V} (h : EvA tA σ H [v, w]) (k : ∀ H1, Ex H H1 → D.nx ((σ.set i (some v)).set j (some w)) H1) : tPar i j tA D σ H := h H (Ex.refl H) _ fun H1 e => ⟨v, w, rfl, k H1 e⟩
theorem ev_allT {n : Nat} (h : EvL te σ H (given n (fun _ => true) (fun _ => V.bl true))) : Ev (tCB (rAll K) (tCons te tNil)) σ H (.bl true) := ev_cbL h fun p H1 e h1 => by
  have e1 : given n (fun _ => true) (fun _ => V.bl true) = (List.replicate n true).map V.bl := by
    unfold given
    rw [List.filter_eq_self.mpr (fun _ _ => rfl)]
    apply List.ext_getElem <;> simp
  have := rc_all (K := K) (H := H1) (p := p) (bs := List.replicate n true) (sq_of (by rw [← e1]; exact h1))
  have e2 : (List.replicate n true).all id = true := by simp
  rw [e2] at this
  exact this
theorem ev_chain {tc : TE} {r r' : R2} {w : V} (ha : Ev ta σ H x) (hb : Ev tb σ H y) (hr : RV r x y H (.bl true)) (hc : Ev tc σ H w) (hr' : RV r' y w H z) : Ev (tChain r r' ta tb tc) σ H z := fun H1 e Q q =>
  ha H1 e _ fun H2 e2 => hb H2 (e.trans e2) _ fun H3 e3 => hr H3 ((e.trans e2).trans e3) _ fun H4 e4 => ⟨true, rfl, by
    rw [if_pos rfl]
    exact hc H4 (((e.trans e2).trans e3).trans e4) _ fun H5 e5 => hr' H5 ((((e.trans e2).trans e3).trans e4).trans e5) Q fun H6 e6 => q H6 ((((e2.trans e3).trans e4).trans e5).trans e6)⟩
theorem el_lcT {a : Addr} {xs : List V} {tl : TE} {j : Nat} {vs : List Nat} (f : Nat → Bool) (v : Nat → V) (h : Ev tl σ H (.ref a)) (hx : SqT K H a xs) (hz : xs.length ≤ 40000) (hw : ∀ x, wipe ((wipe σ vs).set j (some x)) vs = wipe σ vs)
    (ht : ∀ (i : Nat) (x : V) H1, Ex H H1 → xs[i]? = some x → EvT tt ((wipe σ vs).set j (some x)) H1 (f i)) (he : ∀ (i : Nat) (x : V) H1, Ex H H1 → xs[i]? = some x → f i = true → Ev te ((wipe σ vs).set j (some x)) H1 (v i)) :
    EvL (tLc (iTup K tl) (gName j) tt te vs) σ H (given xs.length f v) := fun H0 e Q q => h H0 e _ fun H1 e1 => ⟨a, rfl, ⟨xs, ex_t (e.trans e1) hx⟩, fun Dl hD =>
  lc_tup (xs := xs) (Cw H1 f v Dl) ⟨hD, Ex.new hD, upd_same⟩ (fun i H' _ p => ex_t ((e.trans e1).trans p.2.1) hx) (fun i x H' hi p => ⟨hw x, cw_turn p (by have := (List.getElem?_eq_some_iff.mp hi).1; omega) (ht i x H1 (e.trans e1) hi) (fun hf => he i x H1 (e.trans e1) hi hf)⟩)
    (fun H' p => q Dl H' (fresh_back e1 p.1) (e1.trans p.2.1) p.2.2)⟩
theorem lc_yes : EvT tYes σ H true := fun H1 _ _ q => q H1 (Ex.refl _)
theorem rv_ixTn {xs : List V} {k : Int} (h : SqT K H p xs) (ha : atI xs k = some v) : RV (rIxT K) (.ref p) (.int k) H v := rv_ixT h ha
section
variable {X : Cx} {e : Expr} {f : Str} {pos : Pos}
theorem ixL (hK : X.K = K) : IxR X (rIxL K) := hK ▸ ix_list
theorem ixT (hK : X.K = K) : IxR X (rIxT K) := hK ▸ ix_tup
theorem lenS (hK : X.K = K) : CallR X (.builtin "len") (fun xs H Q => ∃ p ys, xs = [.ref p] ∧ (SqL K H p ys ∨ SqT K H p ys) ∧ Q (.int (ys.length : Int)) H) := hK ▸ call_len_seq
theorem pe_fldK (hK : X.K = K) (he : PE X e ta) (hb : attributeBase e f X.env (eval e X.env) = eval e X.env) : PE X (.Attribute e f pos) (tFld K ta f) := hK ▸ pe_fld he hb
theorem eqD (hK : X.K = K) (hu : X.A.units + 64 < cLine) : OpR X (compareOp .Eq) (rEqD K) := hK ▸ op_eqD hu
theorem neD (hK : X.K = K) (hu : X.A.units + 64 < cLine) : OpR X (compareOp .NotEq) (rNeD K) := hK ▸ op_neD hu
theorem maxL (hK : X.K = K) (hc : X.calm = true) : CallR X (.builtin "max") (rMax K) := hK ▸ cr_max hc
theorem minL (hK : X.K = K) (hc : X.calm = true) : CallR X (.builtin "min") (rMin K) := hK ▸ cr_min hc
theorem sumL (hK : X.K = K) (hc : X.calm = true) : CallR X (.builtin "sum") (rSum K) := hK ▸ cr_sum hc
theorem allL (hK : X.K = K) (hc : X.calm = true) : CallR X (.builtin "all") (rAll K) := hK ▸ cr_all hc
end
theorem eu_divmod {i j : Int} (ha : Ev ta σ H (.int i)) (hb : Ev tb σ H (.int j)) (h0 : 0 < j) (h1 : j < 1073741824) :
    EvU (tCB (fun xs H Q => ∃ i j, xs = [.int i, .int j] ∧ CDiv i j ∧ ∀ p, H p = none → Q (.ref p) (upd H p (.tup [.int (i / j), .int (i % j)]))) (tCons ta (tCons tb tNil))) σ H [.int (i / j), .int (i % j)] := fun H1 e Q q =>
  ha H1 e _ fun H2 e2 => hb H2 (e.trans e2) _ fun H3 e3 => ⟨i, j, rfl, ⟨h0, h1⟩, fun p hp => q p _ (fresh_back (e2.trans e3) hp) ((e2.trans e3).trans (Ex.new hp)) upd_same⟩
theorem q_asgT2 {D : Ends} {tz : TS} {i j : Nat} {v w : V} (h : EvU te σ H [v, w]) (k : ∀ H1, Ex H H1 → tz D ((σ.set i (some v)).set j (some w)) H1) : tSeq (tAsg te (gTup K 2 (gCons (gName i) (gCons (gName j) gNil)))) tz D σ H :=
  h H (Ex.refl H) _ fun u H1 _ e hu => ⟨u, [v, w], rfl, st_of hu, rfl, _, _, rfl, _, _, rfl, rfl, k H1 e⟩
theorem q_asgG {D : Ends} {tz : TS} {g : TG} {xs : List V} (h : EvU te σ H xs) (k : ∀ p H1, H p = none → Ex H H1 → H1 p = some (.tup xs) → g (.ref p) σ H1 fun σ' H' => tz D σ' H') : tSeq (tAsg te g) tz D σ H := h H (Ex.refl H) _ fun p H1 hp e h1 => k p H1 hp e h1
theorem rv_cat {i j : Str} (h : i.length + j.length ≤ sizeLine) : RV (fun x y H Q => ∃ i j, x = .str i ∧ y = .str j ∧ i.length + j.length ≤ sizeLine ∧ Q (.str (i ++ j)) H) (.str i) (.str j) H (.str (i ++ j)) := fun H1 _ Q q => ⟨i, j, rfl, rfl, h, q H1 (Ex.refl _)⟩
/-! ### comprehensions whose target is a pair -/
section
variable {D : Ends} {f : Nat → Bool} {g : Nat → V} {i j : Nat} {vs : List Nat}
/-- what evaluates to a new list of new pairs (number, item) -/
def EvR (te : TE) (σ : L2.St) (H : Hp) (xs : List V) : Prop := ∀ H1, Ex H H1 → ∀ Q : VK, (∀ (l : Addr) (ts : List Addr) (H2 : Hp), H1 l = none → Ex H1 H2 → H2 l = some (.lst (ts.map V.ref)) → ts.length = xs.length → (∀ (j : Nat) (T : Addr) (x : V), ts[j]? = some T → xs[j]? = some x → H2 T = some (.tup [.int (j : Int), x])) → Q (.ref l) H2) → te σ H1 Q
theorem evr_en {a : Addr} {xs : List V} (h : Ev ta σ H (.ref a)) (hs : SqL K H a xs) : EvR (tListEn K ta) σ H xs := fun H1 e Q q => h H1 e _ fun H2 e2 => ⟨a, xs, rfl, ex_l (e.trans e2) hs, fun l ts H3 hl e3 h3 hz ht => q l ts H3 (fresh_back e2 hl) (e2.trans e3) h3 hz ht⟩
def SpR (sp : Sp) (vs : List V) (H : Hp) (xs : List V) : Prop := ∀ H1, Ex H H1 → ∀ Q : VK, (∀ (l : Addr) (ts : List Addr) (H2 : Hp), H1 l = none → Ex H1 H2 → H2 l = some (.lst (ts.map V.ref)) → ts.length = xs.length → (∀ (j : Nat) (T : Addr) (x : V), ts[j]? = some T → xs[j]? = some x → H2 T = some (.tup [.int (j : Int), x])) → Q (.ref l) H2) → ∀ E : XK, sp vs H1 Q E
theorem evr_meth {m : Str} {sp : Sp} {dvs ws : List V} {E : XK} {fs : List (Str × V)} {xs : List V} (h : Ev ta σ H (.ref p)) (ho : H p = some (.ins C dx fs)) (hl : fs.lookup m = none) (ha : EvA tA σ H ws) (hs : SpR sp (.ref p :: (ws ++ dvs)) H xs) : EvR (tMeth C m sp dvs E ta tA) σ H xs := fun H1 e Q q =>
  h H1 e _ fun H2 e2 => ⟨p, dx, fs, rfl, (e.trans e2) p _ ho, hl, ha H2 (e.trans e2) _ fun H3 e3 => hs H3 ((e.trans e2).trans e3) Q (fun l ts H4 n4 e4 h4 hz ht => q l ts H4 (fresh_back (e2.trans e3) n4) ((e2.trans e3).trans e4) h4 hz ht) E⟩
theorem evd_r {ns : List Int} (h : EvR te σ H (ns.map V.int)) : EvD K te σ H (.list (ns.mapIdx fun j n => .tuple [.int (j : Int), .int n])) := fun H1 e Q q => h H1 e _ fun l ts H2 _ e2 h2 hz ht => by
  refine q _ H2 e2 (.lst (sq_of h2) ?_)
  have key : ∀ (k : Nat) (us : List Addr) (ms : List Int), us.length = ms.length → (∀ (j : Nat) (T : Addr) (n : Int), us[j]? = some T → ms[j]? = some n → H2 T = some (.tup [.int ((k + j : Nat) : Int), .int n])) →
      DpAll K H2 (us.map V.ref) (ms.mapIdx fun j n => .tuple [.int ((k + j : Nat) : Int), .int n]) := by
    intro k us
    induction us generalizing k with
    | nil =>
      intro ms hl _
      cases ms with
      | nil => exact .nil
      | cons m ms => simp at hl
    | cons u us ih =>
      intro ms hl hh
      cases ms with
      | nil => simp at hl
      | cons m ms =>
        rw [List.mapIdx_cons]
        refine .cons (.tup (st_of (hh 0 u m rfl rfl)) (.cons (.int _) (.cons (.int _) .nil))) ?_
        have := ih (k + 1) ms (by simpa using hl) (fun j T n q1 q2 => by
          have := hh (j + 1) T n (by simpa using q1) (by simpa using q2)
          have e1 : k + 1 + j = k + (j + 1) := by omega
          rw [e1]; exact this)
        have e2 : (fun (j : Nat) (n : Int) => PyData.tuple [.int ((k + 1 + j : Nat) : Int), .int n]) = (fun (j : Nat) (n : Int) => PyData.tuple [.int ((k + (j + 1) : Nat) : Int), .int n]) := by
          funext j n
          have e1 : k + 1 + j = k + (j + 1) := by omega
          rw [e1]
        rw [e2] at this
        exact this
  have := key 0 ts ns (by simpa using hz) (fun j T n q1 q2 => by
    have := ht j T (.int n) q1 (by simp [q2])
    rw [Nat.zero_add]; exact this)
  simpa using this
theorem cw_pair {a : Addr} {Dl : Addr} {n : Nat} {H1 Hc : Hp} {i0 : Nat} {k w : V} {σ2 : L2.St} (p : Cw H1 f g Dl i0 Hc) (hi : i0 < 50000) (ht : EvT tt σ2 H1 (f i0)) (he : f i0 = true → Ev te σ2 H1 (g i0)) :
    tt σ2 Hc fun b H3 => if b = true then te σ2 H3 fun y H4 => ∃ acc, H4 Dl = some (.lst acc) ∧ acc.length < sizeLine ∧ Cw H1 f g Dl (i0 + 1) (upd H4 Dl (.lst (acc ++ [y]))) else Cw H1 f g Dl (i0 + 1) H3 := cw_turn p hi ht he
/-- [e for a, b in rows if ..] -/
theorem el_lcR {tl : TE} {xs : List V} (f : Nat → Bool) (g : Nat → V) (h : EvR tl σ H xs) (hz : xs.length ≤ 40000) (hw : ∀ x y, wipe (((wipe σ vs).set i (some x)).set j (some y)) vs = wipe σ vs)
    (ht : ∀ (k : Nat) (x : V) H1, Ex H H1 → xs[k]? = some x → EvT tt (((wipe σ vs).set i (some (.int (k : Int)))).set j (some x)) H1 (f k))
    (he : ∀ (k : Nat) (x : V) H1, Ex H H1 → xs[k]? = some x → f k = true → Ev te (((wipe σ vs).set i (some (.int (k : Int)))).set j (some x)) H1 (g k)) :
    EvL (tLc (iList K tl) (gTup K 2 (gCons (gName i) (gCons (gName j) gNil))) tt te vs) σ H (given xs.length f g) := fun H0 e Q q => h H0 e _ fun a ts H1 ha e1 h1 hl htp => ⟨a, rfl, ⟨ts.map V.ref, sq_of h1⟩, fun Dl hD =>
  lc_list (xs := ts.map V.ref) (Cw H1 f g Dl) ⟨hD, Ex.new hD, upd_same⟩ (fun i0 H' _ p => sq_of (p.2.1 a _ h1)) (fun i0 x0 H' hi p => by
    have hlt : i0 < ts.length := by have := (List.getElem?_eq_some_iff.mp hi).1; simpa using this
    obtain ⟨T, hT⟩ : ∃ T, ts[i0]? = some T := ⟨ts[i0], List.getElem?_eq_getElem hlt⟩
    obtain ⟨w, hw'⟩ : ∃ w, xs[i0]? = some w := ⟨xs[i0]'(by omega), List.getElem?_eq_getElem (by omega)⟩
    have e0 : x0 = V.ref T := by rw [List.getElem?_map, hT] at hi; simpa using hi.symm
    subst e0
    refine ⟨T, [.int (i0 : Int), w], rfl, st_of (p.2.1 T _ (htp i0 T w hT hw')), rfl, _, _, rfl, _, _, rfl, rfl, ?_⟩
    exact ⟨hw _ _, cw_turn p (by omega) (ht i0 w H1 (e.trans e1) hw') (fun hf => he i0 w H1 (e.trans e1) hw' hf)⟩)
    (fun H' p => by
      have e9 : (ts.map V.ref).length = xs.length := by rw [List.length_map, hl]
      rw [e9] at p
      exact q Dl H' (fresh_back e1 p.1) (e1.trans p.2.1) p.2.2)⟩
/-- [e for k, x in enumerate(xs) if ..] -/
theorem el_lcE {a : Addr} {tl : TE} {xs : List V} (f : Nat → Bool) (g : Nat → V) (h : Ev tl σ H (.ref a)) (hs : SqL K H a xs) (hz : xs.length ≤ 40000) (hw : ∀ x y, wipe (((wipe σ vs).set i (some x)).set j (some y)) vs = wipe σ vs)
    (ht : ∀ (k : Nat) (x : V) H1, Ex H H1 → xs[k]? = some x → EvT tt (((wipe σ vs).set i (some (.int (k : Int)))).set j (some x)) H1 (f k))
    (he : ∀ (k : Nat) (x : V) H1, Ex H H1 → xs[k]? = some x → f k = true → Ev te (((wipe σ vs).set i (some (.int (k : Int)))).set j (some x)) H1 (g k)) :
    EvL (tLc (iEnum K (tCons tl tNil)) (gTup K 2 (gCons (gName i) (gCons (gName j) gNil))) tt te vs) σ H (given xs.length f g) := fun H0 e Q q => h H0 e _ fun H1 e1 => by
  have hs1 : SqL K H1 a xs := ex_l (e.trans e1) hs
  refine ⟨a, xs, rfl, hs1, fun Dl hD => ?_⟩
  refine ⟨fun i0 m H' => m = xs.length - i0 ∧ i0 ≤ xs.length ∧ Cw H1 f g Dl i0 H', ⟨xs.length, by simp, Nat.zero_le _, hD, Ex.new hD, upd_same⟩, ?_⟩
  rintro i0 m H' ⟨rfl, hi, pc⟩
  have hs2 : SqL K H' a xs := ex_l pc.2.1 hs1
  by_cases hlt : i0 < xs.length
  · refine .inr ⟨⟨xs, xs[i0], hs2, List.getElem?_eq_getElem hlt⟩, fun H'' => Cw H1 f g Dl (i0 + 1) H'', fun H'' p' => ⟨xs.length - (i0 + 1), by omega, rfl, hlt, p'⟩, fun x0 H'' y => ?_⟩
    obtain ⟨T, w, rfl, hT, rfl, hx⟩ := y
    have hw' := hx xs hs2
    refine ⟨T, [.int (i0 : Int), w], rfl, st_of upd_same, rfl, _, _, rfl, _, _, rfl, rfl, ?_⟩
    have pc2 : Cw H1 f g Dl i0 (upd H' T (.tup [.int (i0 : Int), w])) := ⟨pc.1, pc.2.1.trans (Ex.new hT), by rw [upd_ne (ne_of_none pc.2.2 hT)]; exact pc.2.2⟩
    exact ⟨hw _ _, cw_turn pc2 (by omega) (ht i0 w H1 (e.trans e1) hw') (fun hf => he i0 w H1 (e.trans e1) hw' hf)⟩
  · have e0 : i0 = xs.length := by omega
    subst e0
    exact .inl ⟨⟨xs, hs2, Nat.le_refl _⟩, q Dl H' (fresh_back e1 pc.1) (e1.trans pc.2.1) pc.2.2⟩
end
end G
end
section
set_option maxHeartbeats 2000000
namespace G
open PySem
mutual
def bnd : PyData → Nat
  | .none => 4
  | .bool _ => 5
  | .int _ => 22
  | .str _ => 100000000
  | .list xs => bndAll xs + 2
  | .tuple xs => bndAll xs + 4
  | .dict _ => 100000000
def bndAll : List PyData → Nat
  | [] => 0
  | x :: xs => bnd x + 2 + bndAll xs
end
mutual
def smallD : PyData → Bool
  | .none => true
  | .bool _ => true
  | .int i => decide (i.natAbs < 10 ^ 20)
  | .str _ => false
  | .list xs => smallAll xs
  | .tuple xs => smallAll xs
  | .dict _ => false
def smallAll : List PyData → Bool
  | [] => true
  | x :: xs => smallD x && smallAll xs
end
theorem log_small {n : Nat} (h : n < 10 ^ 20) : n.log2 < 1920 := by
  by_cases h0 : n = 0
  · subst h0; decide
  · refine (Nat.log2_lt h0).mpr (Nat.lt_of_lt_of_le h (by decide))
mutual
theorem small_show : ∀ {d : PyData}, smallD d = true → d.showable = true
  | .none, _ => by simp [PyData.showable]
  | .bool _, _ => by simp [PyData.showable]
  | .int i, h => by simp only [smallD, decide_eq_true_eq] at h; simpa [PyData.showable] using log_small h
  | .str _, h => by simp [smallD] at h
  | .list xs, h => by simp only [smallD] at h; simpa [PyData.showable] using small_showAll h
  | .tuple xs, h => by simp only [smallD] at h; simpa [PyData.showable] using small_showAll h
  | .dict _, h => by simp [smallD] at h
theorem small_showAll : ∀ {ds : List PyData}, smallAll ds = true → PyData.showableAll ds = true
  | [], _ => by simp [PyData.showableAll]
  | d :: ds, h => by
    simp only [smallAll, Bool.and_eq_true] at h
    simp [PyData.showableAll, small_show h.1, small_showAll h.2]
end
theorem cat_len (a b : Str) : (a ++ b).length = a.length + b.length := Str.length_append a b
theorem list_text_len (ts : List Str) : (listText ts).length ≤ piled ts + 2 := by
  rw [listText_eq_join, cat_len, cat_len]
  have e1 : ((("[" : String) : Str)).length = 1 := by decide
  have e2 : ((("]" : String) : Str)).length = 1 := by decide
  by_cases h : ts = []
  · subst h
    have e3 : (Str.join ", " []).length = 0 := by decide
    omega
  · have := join_length_add ts h
    omega
theorem tuple_text_len (ts : List Str) : (tupleText ts).length ≤ piled ts + 4 := by
  unfold tupleText
  rw [cat_len, cat_len]
  have e1 : ((("(" : String) : Str)).length = 1 := by decide
  have e2 : (((if ts.length == 1 then ",)" else ")" : String) : Str)).length ≤ 2 := by split <;> decide
  by_cases h : ts = []
  · subst h
    have e3 : (Str.join ", " []).length = 0 := by decide
    omega
  · have := join_length_add ts h
    omega
mutual
theorem small_len : ∀ {d : PyData}, smallD d = true → d.shown.length ≤ bnd d
  | .none, _ => by simp only [PyData.shown, bnd]; decide
  | .bool b, _ => by simp only [PyData.shown, bnd]; cases b <;> decide
  | .int i, h => by
    simp only [smallD, decide_eq_true_eq] at h
    have := int_text_length_le10 (k := 20) (by decide) h
    simp only [PyData.shown, bnd]
    rw [ofString_length]
    omega
  | .str _, h => by simp [smallD] at h
  | .list xs, h => by
    simp only [smallD] at h
    have := small_lenAll h
    simp only [PyData.shown, bnd]
    exact Nat.le_trans (list_text_len _) (by omega)
  | .tuple xs, h => by
    simp only [smallD] at h
    have := small_lenAll h
    simp only [PyData.shown, bnd]
    exact Nat.le_trans (tuple_text_len _) (by omega)
  | .dict _, h => by simp [smallD] at h
theorem small_lenAll : ∀ {ds : List PyData}, smallAll ds = true → piled (PyData.shownAll ds) ≤ bndAll ds
  | [], _ => by simp [PyData.shownAll, piled, bndAll]
  | d :: ds, h => by
    simp only [smallAll, Bool.and_eq_true] at h
    have h1 := small_len h.1
    have h2 := small_lenAll h.2
    simp only [PyData.shownAll, piled_cons, bndAll]
    omega
end
theorem small_ints {ns : List Int} (h : ∀ n, n ∈ ns → n.natAbs < 10 ^ 20) : smallAll (ns.map PyData.int) = true := by
  induction ns with
  | nil => rfl
  | cons n ns ih =>
    rw [List.map_cons]
    simp only [smallAll, smallD, Bool.and_eq_true, decide_eq_true_eq]
    exact ⟨h n (List.mem_cons_self ..), ih fun m hm => h m (List.mem_cons_of_mem _ hm)⟩
theorem bnd_ints (ns : List Int) : bndAll (ns.map PyData.int) = 24 * ns.length := by
  induction ns with
  | nil => rfl
  | cons n ns ih => rw [List.map_cons, bndAll, ih, List.length_cons, bnd]; omega
end G
end
section
namespace TM
/-! the mathematics of lists of days -/
def onL (ns : List Int) (x : Int) : Int := ns.getD (x % (ns.length : Int)).toNat 0 + x / (ns.length : Int) * (ns.length : Int)
structure Good (ns : List Int) : Prop where
  pos : 1 ≤ ns.length
  most : ns.length ≤ 600
  up : ∀ i j : Nat, i ≤ j → j < ns.length → ns.getD i 0 ≤ ns.getD j 0
  span : ns.getD (ns.length - 1) 0 - ns.getD 0 0 ≤ (ns.length : Int)
section
variable {ns : List Int} (g : Good ns)
include g
theorem Good.posI : (0 : Int) < (ns.length : Int) := by have := g.pos; omega
theorem on_at {i : Nat} (hi : i < ns.length) (t : Int) : onL ns ((i : Int) + t * (ns.length : Int)) = ns.getD i 0 + t * (ns.length : Int) := by
  have hp := g.posI
  unfold onL
  have e1 : ((i : Int) + t * (ns.length : Int)) % (ns.length : Int) = (i : Int) := by
    rw [Int.add_mul_emod_self_right, Int.emod_eq_of_lt (by omega) (by omega)]
  have e2 : ((i : Int) + t * (ns.length : Int)) / (ns.length : Int) = t := by
    rw [Int.add_mul_ediv_right _ _ (by omega), Int.ediv_eq_zero_of_lt (by omega) (by omega), Int.zero_add]
  rw [e1, e2, Int.toNat_natCast]
theorem split_at (x : Int) : ∃ (i : Nat) (t : Int), i < ns.length ∧ x = (i : Int) + t * (ns.length : Int) := by
  have hp := g.posI
  refine ⟨(x % (ns.length : Int)).toNat, x / (ns.length : Int), ?_, ?_⟩
  · have h1 := Int.emod_nonneg x (show (ns.length : Int) ≠ 0 by omega)
    have h2 := Int.emod_lt_of_pos x hp
    omega
  · have h1 := Int.emod_nonneg x (show (ns.length : Int) ≠ 0 by omega)
    rw [Int.toNat_of_nonneg h1]
    have := Int.emod_add_mul_ediv x (ns.length : Int)
    rw [Int.mul_comm] at this
    omega
theorem on_len (x : Int) : onL ns (x + (ns.length : Int)) = onL ns x + (ns.length : Int) := by
  obtain ⟨i, t, hi, rfl⟩ := split_at g x
  have e : (i : Int) + t * (ns.length : Int) + (ns.length : Int) = (i : Int) + (t + 1) * (ns.length : Int) := by rw [Int.add_mul, Int.one_mul]; omega
  rw [e, on_at g hi, on_at g hi, Int.add_mul, Int.one_mul]; omega
theorem on_step (x : Int) : onL ns x ≤ onL ns (x + 1) := by
  obtain ⟨i, t, hi, rfl⟩ := split_at g x
  by_cases hl : i + 1 < ns.length
  · have e : (i : Int) + t * (ns.length : Int) + 1 = ((i + 1 : Nat) : Int) + t * (ns.length : Int) := by omega
    rw [e, on_at g hi, on_at g hl]
    have := g.up i (i + 1) (by omega) hl
    omega
  · have e0 : i + 1 = ns.length := by omega
    have e : (i : Int) + t * (ns.length : Int) + 1 = ((0 : Nat) : Int) + (t + 1) * (ns.length : Int) := by
      rw [Int.add_mul, Int.one_mul]; omega
    have h0 : 0 < ns.length := by omega
    rw [e, on_at g hi, on_at g h0, Int.add_mul, Int.one_mul]
    have := g.span
    have e1 : ns.length - 1 = i := by omega
    rw [e1] at this
    omega
theorem on_mono {x y : Int} (h : x ≤ y) : onL ns x ≤ onL ns y := by
  obtain ⟨k, hk⟩ : ∃ k : Nat, y = x + k := ⟨(y - x).toNat, by omega⟩
  subst hk
  clear h
  induction k with
  | zero => simp
  | succ k ih =>
    refine Int.le_trans ih ?_
    have := on_step g (x + k)
    have e : x + ((k + 1 : Nat) : Int) = x + (k : Int) + 1 := by omega
    rw [e]; exact this
end
/-- m is the first day with which y is served -/
def IsBy (ns : List Int) (y m : Int) : Prop := y ≤ onL ns m ∧ onL ns (m - 1) < y
theorem isBy_uniq {ns : List Int} (g : Good ns) {y m k : Int} (h : IsBy ns y m) (h' : IsBy ns y k) : m = k := by
  have a1 : ¬ m ≤ k - 1 := fun q => by have := on_mono g q; have := h.1; have := h'.2; omega
  have a2 : ¬ k ≤ m - 1 := fun q => by have := on_mono g q; have := h'.1; have := h.2; omega
  omega
/-- so many of ns, from the left, are below d -/
def IsCnt (ns : List Int) (d : Int) (c : Nat) : Prop := c ≤ ns.length ∧ (∀ i, i < c → ns.getD i 0 < d) ∧ ∀ i, c ≤ i → i < ns.length → d ≤ ns.getD i 0
theorem isBy_of_cnt {ns : List Int} (g : Good ns) {y : Int} {c : Nat} (h : IsCnt ns (y - (y - ns.getD 0 0 - 1) / (ns.length : Int) * (ns.length : Int)) c) :
    IsBy ns y ((c : Int) + (y - ns.getD 0 0 - 1) / (ns.length : Int) * (ns.length : Int)) := by
  have hp := g.posI
  have h0 : 0 < ns.length := by have := g.pos; omega
  generalize ht : (y - ns.getD 0 0 - 1) / (ns.length : Int) = t at *
  have hr1 := Int.emod_nonneg (y - ns.getD 0 0 - 1) (show (ns.length : Int) ≠ 0 by omega)
  have hr2 := Int.emod_lt_of_pos (y - ns.getD 0 0 - 1) hp
  have hr := Int.emod_add_mul_ediv (y - ns.getD 0 0 - 1) (ns.length : Int)
  rw [ht, Int.mul_comm] at hr
  obtain ⟨hc, hlo, hhi⟩ := h
  have c1 : 1 ≤ c := by
    refine Classical.byContradiction fun q => ?_
    have := hhi 0 (by omega) h0
    omega
  constructor
  · by_cases hl : c < ns.length
    · rw [on_at g hl]
      have := hhi c (Nat.le_refl _) hl
      omega
    · have e : c = ns.length := by omega
      have e2 : (c : Int) + t * (ns.length : Int) = ((0 : Nat) : Int) + (t + 1) * (ns.length : Int) := by rw [Int.add_mul, Int.one_mul]; omega
      rw [e2, on_at g h0, Int.add_mul, Int.one_mul]
      omega
  · have e : (c : Int) + t * (ns.length : Int) - 1 = ((c - 1 : Nat) : Int) + t * (ns.length : Int) := by omega
    rw [e, on_at g (by omega)]
    have := hlo (c - 1) (by omega)
    omega
theorem cnt_ex {ns : List Int} (g : Good ns) (d : Int) : ∃ c, IsCnt ns d c := by
  have key : ∀ n, n ≤ ns.length → ∃ c, c ≤ n ∧ (∀ i, i < c → ns.getD i 0 < d) ∧ ∀ i, c ≤ i → i < n → d ≤ ns.getD i 0 := by
    intro n
    induction n with
    | zero => exact fun _ => ⟨0, Nat.le_refl _, fun i h => absurd h (Nat.not_lt_zero _), fun i _ h => absurd h (Nat.not_lt_zero _)⟩
    | succ n ih =>
      intro hn
      obtain ⟨c, h1, h2, h3⟩ := ih (by omega)
      by_cases hd : d ≤ ns.getD n 0
      · exact ⟨c, by omega, h2, fun i q1 q2 => by
          by_cases e : i = n
          · subst e; exact hd
          · exact h3 i q1 (by omega)⟩
      · refine ⟨n + 1, Nat.le_refl _, fun i q => ?_, fun i q1 q2 => absurd q2 (by omega)⟩
        have := g.up i n (by omega) (by omega)
        omega
  exact key ns.length (Nat.le_refl _)
theorem cnt_uniq {ns : List Int} {d : Int} {a b : Nat} (h : IsCnt ns d a) (h' : IsCnt ns d b) : a = b := by
  have q1 : ¬ a < b := fun q => by have := h.2.2 a (Nat.le_refl _) (by have := h'.1; omega); have := h'.2.1 a q; omega
  have q2 : ¬ b < a := fun q => by have := h'.2.2 b (Nat.le_refl _) (by have := h.1; omega); have := h.2.1 b q; omega
  omega
theorem by_ex {ns : List Int} (g : Good ns) (y : Int) : ∃ m, IsBy ns y m := by
  obtain ⟨c, hc⟩ := cnt_ex g (y - (y - ns.getD 0 0 - 1) / (ns.length : Int) * (ns.length : Int))
  exact ⟨_, isBy_of_cnt g hc⟩
open Classical in
noncomputable def byL (ns : List Int) (y : Int) : Int := if h : ∃ m, IsBy ns y m then Classical.choose h else 0
theorem byL_is {ns : List Int} (g : Good ns) (y : Int) : IsBy ns y (byL ns y) := by
  unfold byL
  rw [dif_pos (by_ex g y)]
  exact Classical.choose_spec (by_ex g y)
theorem byL_eq {ns : List Int} (g : Good ns) {y m : Int} (h : IsBy ns y m) : byL ns y = m := isBy_uniq g (byL_is g y) h
theorem by_le {ns : List Int} (g : Good ns) {x y : Int} : byL ns y ≤ x ↔ y ≤ onL ns x := by
  have h := byL_is g y
  constructor
  · exact fun q => Int.le_trans h.1 (on_mono g q)
  · intro q
    refine Classical.byContradiction fun n => ?_
    have := on_mono g (show x ≤ byL ns y - 1 by omega)
    have := h.2
    omega
/-- the day of a served one less itself is at most M, at least m -/
theorem on_le {ns : List Int} (g : Good ns) {M : Int} (h : ∀ i, i < ns.length → ns.getD i 0 - (i : Int) ≤ M) (x : Int) : onL ns x ≤ x + M := by
  obtain ⟨i, t, hi, rfl⟩ := split_at g x
  rw [on_at g hi]
  have := h i hi
  omega
theorem start_le {ns : List Int} (g : Good ns) {M y : Int} (h : ∀ i, i < ns.length → ns.getD i 0 - (i : Int) ≤ M) : y - M - 1 ≤ byL ns y := by
  have h1 := (byL_is g y).1
  have h2 := on_le g h (byL ns y)
  omega
end TM
end
section
set_option maxHeartbeats 2000000
namespace K11
open PySem L2
def top (i : Nat) : Stmt := PySem.Challenge.pw_leadrules_k11_whole_tables_asked.main.body.getD i (.Pass ⟨0, 0, 0, 0⟩)
abbrev s__wall : Stmt := (top 1)
abbrev s_is_day : Stmt := (top 3)
theorem sc_is_day : FnScope ["value"] ["value"] (defScope s_is_day) := ⟨rfl, rfl, rfl, by decide +kernel, rfl, by decide +kernel, by decide +kernel⟩
abbrev s_is_count : Stmt := (top 4)
theorem sc_is_count : FnScope ["value"] ["value"] (defScope s_is_count) := ⟨rfl, rfl, rfl, by decide +kernel, rfl, by decide +kernel, by decide +kernel⟩
abbrev s_InvalidDay___init__ : Stmt := (inClass (top 7) 0)
abbrev s_InvalidCount___init__ : Stmt := (inClass (top 8) 0)
abbrev s_InvalidTable___init__ : Stmt := (inClass (top 9) 0)
abbrev s_TooMany___init__ : Stmt := (inClass (top 11) 0)
abbrev s_need_day : Stmt := (top 13)
theorem sc_need_day : FnScope ["value"] ["value"] (defScope s_need_day) := ⟨rfl, rfl, rfl, by decide +kernel, rfl, by decide +kernel, by decide +kernel⟩
abbrev s_need_count : Stmt := (top 14)
theorem sc_need_count : FnScope ["value"] ["value"] (defScope s_need_count) := ⟨rfl, rfl, rfl, by decide +kernel, rfl, by decide +kernel, by decide +kernel⟩
abbrev s_is_list : Stmt := (top 15)
theorem sc_is_list : FnScope ["value"] ["value"] (defScope s_is_list) := ⟨rfl, rfl, rfl, by decide +kernel, rfl, by decide +kernel, by decide +kernel⟩
abbrev s_Table___init__ : Stmt := (inClass (top 17) 2)
theorem sc_Table___init__ : FnScope ["self", "days"] ["self", "days"] (defScope s_Table___init__) := ⟨rfl, rfl, rfl, by decide +kernel, rfl, by decide +kernel, by decide +kernel⟩
abbrev s_Table_length : Stmt := (inClass (top 17) 3)
theorem sc_Table_length : FnScope ["self"] ["self"] (defScope s_Table_length) := ⟨rfl, rfl, rfl, by decide +kernel, rfl, by decide +kernel, by decide +kernel⟩
abbrev s_Table_days : Stmt := (inClass (top 17) 4)
theorem sc_Table_days : FnScope ["self"] ["self"] (defScope s_Table_days) := ⟨rfl, rfl, rfl, by decide +kernel, rfl, by decide +kernel, by decide +kernel⟩
abbrev s_Table_asked_rows : Stmt := (inClass (top 17) 5)
theorem sc_Table_asked_rows : FnScope ["self"] ["self"] (defScope s_Table_asked_rows) := ⟨rfl, rfl, rfl, by decide +kernel, rfl, by decide +kernel, by decide +kernel⟩
abbrev s_Table_on : Stmt := (inClass (top 17) 6)
theorem sc_Table_on : FnScope ["self", "day", "turns", "place"] ["self", "day"] (defScope s_Table_on) := ⟨rfl, rfl, rfl, by decide +kernel, rfl, by decide +kernel, by decide +kernel⟩
abbrev s_Table___call__ : Stmt := (inClass (top 17) 7)
theorem sc_Table___call__ : FnScope ["self", "day"] ["self", "day"] (defScope s_Table___call__) := ⟨rfl, rfl, rfl, by decide +kernel, rfl, by decide +kernel, by decide +kernel⟩
abbrev s_Table_by : Stmt := (inClass (top 17) 8)
theorem sc_Table_by : FnScope ["self", "day", "turns"] ["self", "day"] (defScope s_Table_by) := ⟨rfl, rfl, rfl, by decide +kernel, rfl, by decide +kernel, by decide +kernel⟩
abbrev s_Table_til : Stmt := (inClass (top 17) 9)
theorem sc_Table_til : FnScope ["self", "day"] ["self", "day"] (defScope s_Table_til) := ⟨rfl, rfl, rfl, by decide +kernel, rfl, by decide +kernel, by decide +kernel⟩
abbrev s_Table_answers : Stmt := (inClass (top 17) 10)
theorem sc_Table_answers : FnScope ["self", "day", "count", "more"] ["self", "day", "count"] (defScope s_Table_answers) := ⟨rfl, rfl, rfl, by decide +kernel, rfl, by decide +kernel, by decide +kernel⟩
abbrev s_Table_is_served : Stmt := (inClass (top 17) 11)
theorem sc_Table_is_served : FnScope ["self", "day"] ["self", "day"] (defScope s_Table_is_served) := ⟨rfl, rfl, rfl, by decide +kernel, rfl, by decide +kernel, by decide +kernel⟩
abbrev s_Table_leads : Stmt := (inClass (top 17) 12)
theorem sc_Table_leads : FnScope ["self", "behind", "asked", "served"] ["self"] (defScope s_Table_leads) := ⟨rfl, rfl, rfl, by decide +kernel, rfl, by decide +kernel, by decide +kernel⟩
abbrev s_Table_mean_lead : Stmt := (inClass (top 17) 13)
theorem sc_Table_mean_lead : FnScope ["self", "total", "shared", "asked", "served"] ["self"] (defScope s_Table_mean_lead) := ⟨rfl, rfl, rfl, by decide +kernel, rfl, by decide +kernel, by decide +kernel⟩
abbrev s_Table_fixed_days : Stmt := (inClass (top 17) 14)
theorem sc_Table_fixed_days : FnScope ["self", "asked", "served"] ["self"] (defScope s_Table_fixed_days) := ⟨rfl, rfl, rfl, by decide +kernel, rfl, by decide +kernel, by decide +kernel⟩
abbrev s_Table_moved : Stmt := (inClass (top 17) 15)
abbrev s_Table_asked_later : Stmt := (inClass (top 17) 16)
abbrev s_Table_by_table : Stmt := (inClass (top 17) 17)
abbrev s_Table_til_table : Stmt := (inClass (top 17) 18)
abbrev s_Table_stretched : Stmt := (inClass (top 17) 19)
abbrev s_Table_shortest : Stmt := (inClass (top 17) 20)
abbrev s_Table_plain : Stmt := (inClass (top 17) 21)
abbrev s_Table_is_same : Stmt := (inClass (top 17) 22)
abbrev s_Table___eq__ : Stmt := (inClass (top 17) 23)
abbrev s_Table___repr__ : Stmt := (inClass (top 17) 24)
theorem sc_Table___repr__ : FnScope ["self"] ["self"] (defScope s_Table___repr__) := ⟨rfl, rfl, rfl, by decide +kernel, rfl, by decide +kernel, by decide +kernel⟩
abbrev s_is_table : Stmt := (top 18)
theorem sc_is_table : FnScope ["value", "rises", "day", "place"] ["value"] (defScope s_is_table) := ⟨rfl, rfl, rfl, by decide +kernel, rfl, by decide +kernel, by decide +kernel⟩
abbrev s__many_ahead : Stmt := (top 19)
theorem sc__many_ahead : FnScope ["days", "day", "low", "high", "middle"] ["days", "day"] (defScope s__many_ahead) := ⟨rfl, rfl, rfl, by decide +kernel, rfl, by decide +kernel, by decide +kernel⟩
abbrev s__law_pot : Stmt := (top 21)
theorem sc__law_pot : FnScope ["_law_script", "_law_k", "_law_cell"] ["_law_script", "_law_k"] (defScope s__law_pot) := ⟨rfl, rfl, rfl, by decide +kernel, rfl, by decide +kernel, by decide +kernel⟩
abbrev s__law_draw : Stmt := (top 22)
theorem sc__law_draw : FnScope ["_law_pot_here", "_law_size", "_law_digit"] ["_law_pot_here", "_law_size"] (defScope s__law_draw) := ⟨rfl, rfl, rfl, by decide +kernel, rfl, by decide +kernel, by decide +kernel⟩
abbrev s__law_pick : Stmt := (top 23)
theorem sc__law_pick : FnScope ["_law_pot_here", "_law_some"] ["_law_pot_here", "_law_some"] (defScope s__law_pick) := ⟨rfl, rfl, rfl, by decide +kernel, rfl, by decide +kernel, by decide +kernel⟩
abbrev s__law_days : Stmt := (top 24)
theorem sc__law_days : FnScope ["_law_pot_here", "_law_length", "_law_first", "_law_days_here", "_law_left", "_law_turn", "_law_step"] ["_law_pot_here", "_law_length", "_law_first"] (defScope s__law_days) := ⟨rfl, rfl, rfl, by decide +kernel, rfl, by decide +kernel, by decide +kernel⟩
abbrev s__law_on : Stmt := (top 25)
theorem sc__law_on : FnScope ["_law_days_here", "_law_day", "_law_part"] ["_law_days_here", "_law_day"] (defScope s__law_on) := ⟨rfl, rfl, rfl, by decide +kernel, rfl, by decide +kernel, by decide +kernel⟩
abbrev s__law_by : Stmt := (top 26)
theorem sc__law_by : FnScope ["_law_days_here", "_law_day", "_law_here", "_law_place", "_law_served"] ["_law_days_here", "_law_day"] (defScope s__law_by) := ⟨rfl, rfl, rfl, by decide +kernel, rfl, by decide +kernel, by decide +kernel⟩
abbrev s__law_til : Stmt := (top 27)
theorem sc__law_til : FnScope ["_law_days_here", "_law_day"] ["_law_days_here", "_law_day"] (defScope s__law_til) := ⟨rfl, rfl, rfl, by decide +kernel, rfl, by decide +kernel, by decide +kernel⟩
abbrev s__law_low : Stmt := (top 28)
theorem sc__law_low : FnScope ["_law_above", "_law_below", "_law_one", "_law_other"] ["_law_above", "_law_below"] (defScope s__law_low) := ⟨rfl, rfl, rfl, by decide +kernel, rfl, by decide +kernel, by decide +kernel⟩
abbrev s__law_whole_right : Stmt := (top 29)
theorem sc__law_whole_right : FnScope ["_law_table", "_law_days_here", "_law_leads", "_law_due", "_law_told", "_law_place", "_law_served"] ["_law_table", "_law_days_here"] (defScope s__law_whole_right) := ⟨rfl, rfl, rfl, by decide +kernel, rfl, by decide +kernel, by decide +kernel⟩
abbrev s__law_day_right : Stmt := (top 30)
theorem sc__law_day_right : FnScope ["_law_table", "_law_days_here", "_law_day", "_law_served", "_law_first", "_law_last"] ["_law_table", "_law_days_here", "_law_day"] (defScope s__law_day_right) := ⟨rfl, rfl, rfl, by decide +kernel, rfl, by decide +kernel, by decide +kernel⟩
abbrev s__law_answers_right : Stmt := (top 31)
theorem sc__law_answers_right : FnScope ["_law_pot_here", "_law_table", "_law_days_here", "_law_day", "_law_count", "_law_due", "_law_told", "_law_step"] ["_law_pot_here", "_law_table", "_law_days_here", "_law_day"] (defScope s__law_answers_right) := ⟨rfl, rfl, rfl, by decide +kernel, rfl, by decide +kernel, by decide +kernel⟩
abbrev s__law_long_right : Stmt := (top 32)
theorem sc__law_long_right : FnScope ["_law_pot_here", "_law_days_here", "_law_table", "_law_leads", "_law_at", "_law_served", "_law_day"] ["_law_pot_here"] (defScope s__law_long_right) := ⟨rfl, rfl, rfl, by decide +kernel, rfl, by decide +kernel, by decide +kernel⟩
abbrev s__law_right : Stmt := (top 33)
theorem sc__law_right : FnScope ["_law_pot_here", "_law_length", "_law_first", "_law_days_here", "_law_passed", "_law_table", "_law_told", "_law_rows", "_law_fixed", "_law_far", "_law_some", "_law_day"] ["_law_pot_here"] (defScope s__law_right) := ⟨rfl, rfl, rfl, by decide +kernel, rfl, by decide +kernel, by decide +kernel⟩
abbrev s_law : Stmt := (top 34)
theorem sc_law : FnScope ["_law_script", "_law_k"] ["_law_script"] (defScope s_law) := ⟨rfl, rfl, rfl, by decide +kernel, rfl, by decide +kernel, by decide +kernel⟩
end K11
end
section
set_option maxHeartbeats 4000000
namespace K11
open PySem L2 Evl G TM
/-! ### what the walk asks of the top -/
structure Txt (K : PySem.W.Frag) (mg : Str → Option Value) (C : Addr) : Prop where
  cl : Cls K C
  nD : NoAttr K C "_days"
  kc : PySem.W.keepIn K (.ref C) = true
  mki : PySem.W.makesIn K C = true
  mg_Table : mg "Table" = some (.ref C)
  cA : ∃ tk : Tok, Con K C "MOST_ANSWERS" (.int 600) (.int 600 tk)
  cL : ∃ tk : Tok, Con K C "MOST_LENGTH" (.int 600) (.int 600 tk)
  cM : ∃ (mc : Value) (tk : Tok), ClX.CRead K C mc ∧ ClX.CVal K C mc "MOST_LENGTH" (.int 600) (.int 600 tk)
  b_isinstance : mg "isinstance" = none
  b_int : mg "int" = none
  b_bool : mg "bool" = none
  b_list : mg "list" = none
  b_tuple : mg "tuple" = none
  b_len : mg "len" = none
  b_enumerate : mg "enumerate" = none
  b_range : mg "range" = none
  b_divmod : mg "divmod" = none
  b_min : mg "min" = none
  b_max : mg "max" = none
  b_sum : mg "sum" = none
  b_all : mg "all" = none
  b_abs : mg "abs" = none
  b_repr : mg "repr" = none
  b_gcd : mg "gcd" = some (.builtin "math.gcd")
structure Cal (P : Program) (w : World) (K : PySem.W.Frag) (mg : Str → Option Value) (base : Heap) (x : Str) (f : Addr) (fd : FuncData) (ps : List Str) (k : Nat) (sp : Sp) : Prop where
  ok : FnOk P w K mg base CX0 k f fd ps sp
  mgx : mg x = some (.ref f)
  kp : PySem.W.keepIn K (.ref f) = true
  bd : Binds K fd ps []
structure CalG (P : Program) (w : World) (K : PySem.W.Frag) (mg : Str → Option Value) (base : Heap) (x : Str) (f : Addr) (fd : FuncData) (ps : List Str) (k : Nat) (sp : Sp) : Prop where
  ok : FnG P w K mg base CX0 k f fd ps sp
  mgx : mg x = some (.ref f)
  kp : PySem.W.keepIn K (.ref f) = true
  bd : Binds K fd ps []
structure Met (P : Program) (w : World) (K : PySem.W.Frag) (mg : Str → Option Value) (base : Heap) (C : Addr) (m : Str) (f : Addr) (fd : FuncData) (ps : List Str) (k : Nat) (sp : Sp) : Prop where
  ok : FnOk P w K mg base CX0 k f fd ps sp
  me : Meth K C m f
  bd : Binds K fd ps []
structure Prp (P : Program) (w : World) (K : PySem.W.Frag) (mg : Str → Option Value) (base : Heap) (C : Addr) (m : Str) (p f : Addr) (fd : FuncData) (ps : List Str) (k : Nat) (sp : Sp) : Prop where
  ok : FnOk P w K mg base CX0 k f fd ps sp
  pr : PropOf K C m p f
  bd : Binds K fd ps []
def Tab (K : PySem.W.Frag) (C : Addr) (H : Hp) (p : Addr) (ns : List Int) : Prop := ∃ dx l, H p = some (.ins C dx [("_days", .ref l)]) ∧ SqL K H l (ns.map V.int)
theorem Tab.mono {K : PySem.W.Frag} {C p : Addr} {H H' : Hp} {ns : List Int} (e : Ex H H') (h : Tab K C H p ns) : Tab K C H' p ns := let ⟨dx, l, h1, h2⟩ := h; ⟨dx, l, e p _ h1, ex_l e h2⟩
/-! ### the promises -/
def sp_is_day : Sp := fun vs H Q _ => ∃ i, vs = [.int i] ∧ RetV (.bl true) H Q
def sp_is_count : Sp := fun vs H Q _ => ∃ i, vs = [.int i] ∧ RetV (.bl (decide (0 ≤ i))) H Q
def sp_need_day : Sp := fun vs H Q _ => ∃ i, vs = [.int i] ∧ RetV .non H Q
def sp_need_count : Sp := fun vs H Q _ => ∃ i, vs = [.int i] ∧ 0 ≤ i ∧ RetV .non H Q
theorem spv_is_day {i : Int} {H : Hp} : SpV sp_is_day ([.int i] ++ []) H (.bl true) := fun H1 _ Q q E => ⟨i, rfl, q⟩
theorem spv_is_count {i : Int} {H : Hp} : SpV sp_is_count ([.int i] ++ []) H (.bl (decide (0 ≤ i))) := fun H1 _ Q q E => ⟨i, rfl, q⟩
theorem spv_need_day {i : Int} {H : Hp} : SpV sp_need_day ([.int i] ++ []) H .non := fun H1 _ Q q E => ⟨i, rfl, q⟩
theorem spv_need_count {i : Int} {H : Hp} (h : 0 ≤ i) : SpV sp_need_count ([.int i] ++ []) H .non := fun H1 _ Q q E => ⟨i, rfl, h, q⟩
section
variable {P : Program} {w : World} {K : PySem.W.Frag} {mg : Str → Option Value} {base : Heap} {C : Addr}
theorem ev_isiB {σ : L2.St} {H : Hp} {ta : TE} {x : V} {t : String} {n : String} {b : Bool} (h : Ev ta σ H x) (ty : ∀ H1, Ex H H1 → TyX K H1 x (.type t)) (hb : kitB t n = some b) :
    Ev (tCB (rIsi K) (tCons ta (tCons (tC (.ty n)) tNil))) σ H (.bl b) := ev_cb (ea_cons h (ea_cons ev_c ea_nil)) (rc_isi (.ty n) ty (kit_ty hb))
theorem ok_is_day {f : Addr} {fd : FuncData} (F : Fun K "is_day" "is_day" s_is_day f fd) (T : Txt K mg C) : FnOk P w K mg base CX0 1 f fd ["value"] sp_is_day := by
  refine F.ok sc_is_day (fun vs H Q E h => ?_) (fun cdv A outer s H vs Q E hr h => ?_)
  · obtain ⟨i, rfl, _⟩ := h
    rfl
  · obtain ⟨i, rfl, k⟩ := h
    refine ⟨_, (pss_one (ps_ret (pe_and (pe_callB call_isi (by rfl) T.b_isinstance (by decide +kernel) (pa_cons (pv 0) (pa_cons (pe_bltn (v := .ty "int") (u := .type "int") (by rfl) T.b_int (by decide +kernel) rfl) pa_nil))) (pe_one (pe_not (pe_callB call_isi (by rfl) T.b_isinstance (by decide +kernel) (pa_cons (pv 0) (pa_cons (pe_bltn (v := .ty "bool") (u := .type "bool") (by rfl) T.b_bool (by decide +kernel) rfl) pa_nil)))))))), ?_⟩
    refine s_ret (ev_andV (b := true) (ev_isiB (b := true) (ev_var rfl) (fun _ _ => .base (.int i)) (by decide +kernel)) fun _ => ev_notV (a := false) (ev_isiB (b := false) (ev_var rfl) (fun _ _ => .base (.int i)) (by decide +kernel))) fun H1 e => k H1 e
theorem ok_is_count {f f1 : Addr} {fd fd1 : FuncData} (F : Fun K "is_count" "is_count" s_is_count f fd) (T : Txt K mg C) (c_is_day : Cal P w K mg base "is_day" f1 fd1 ["value"] 1 sp_is_day) : FnOk P w K mg base CX0 2 f fd ["value"] sp_is_count := by
  refine F.ok sc_is_count (fun vs H Q E h => ?_) (fun cdv A outer s H vs Q E hr h => ?_)
  · obtain ⟨i, rfl, _⟩ := h
    rfl
  · obtain ⟨i, rfl, k⟩ := h
    refine ⟨_, (pss_one (ps_ret (pe_and (pe_call c_is_day.ok (hr.mono (by decide)) (by rfl) c_is_day.mgx c_is_day.kp c_is_day.bd .nil pass0 (pa_cons (pv 0) pa_nil)) (pe_one (pe_cmpR op_ge (pv 0) pe_int (nomark _)))))), ?_⟩
    exact s_ret (ev_andV (ev_call (ea_cons (ev_var rfl) ea_nil) spv_is_day) fun _ => ev_op (ev_var rfl) ev_c rv_I0) fun H1 e => k H1 e
theorem ok_need_day {f f1 : Addr} {fd fd1 : FuncData} (F : Fun K "need_day" "need_day" s_need_day f fd) (T : Txt K mg C) (c_is_day : Cal P w K mg base "is_day" f1 fd1 ["value"] 1 sp_is_day) : FnOk P w K mg base CX0 2 f fd ["value"] sp_need_day := by
  refine F.ok sc_need_day (fun vs H Q E h => ?_) (fun cdv A outer s H vs Q E hr h => ?_)
  · obtain ⟨i, rfl, _⟩ := h
    rfl
  · obtain ⟨i, rfl, k⟩ := h
    refine ⟨_, (pss_one (ps_if (pt_not (pt_val (pe_call c_is_day.ok (hr.mono (by decide)) (by rfl) c_is_day.mgx c_is_day.kp c_is_day.bd .nil pass0 (pa_cons (pv 0) pa_nil)))) (pss_one ps_never) pss_nil)), ?_⟩
    exact s_when (et_not (et_B (ev_call (ea_cons (ev_var rfl) ea_nil) spv_is_day))) (fun h => by cases h) fun _ H1 e => k H1 e
theorem ok_need_count {f f1 : Addr} {fd fd1 : FuncData} (F : Fun K "need_count" "need_count" s_need_count f fd) (T : Txt K mg C) (c_is_count : Cal P w K mg base "is_count" f1 fd1 ["value"] 2 sp_is_count) : FnOk P w K mg base CX0 3 f fd ["value"] sp_need_count := by
  refine F.ok sc_need_count (fun vs H Q E h => ?_) (fun cdv A outer s H vs Q E hr h => ?_)
  · obtain ⟨i, rfl, _⟩ := h
    rfl
  · obtain ⟨i, rfl, h0, k⟩ := h
    refine ⟨_, (pss_one (ps_if (pt_not (pt_val (pe_call c_is_count.ok (hr.mono (by decide)) (by rfl) c_is_count.mgx c_is_count.kp c_is_count.bd .nil pass0 (pa_cons (pv 0) pa_nil)))) (pss_one ps_never) pss_nil)), ?_⟩
    exact s_when (et_not (et_B (ev_call (ea_cons (ev_var rfl) ea_nil) spv_is_count))) (fun h => by simp [h0] at h) fun _ H1 e => k H1 e
end
end K11
end
section
set_option maxHeartbeats 4000000
namespace K11
open PySem L2 Evl G TM
def Seq (K : PySem.W.Frag) (H : Hp) (p : Addr) (xs : List V) : Prop := SqL K H p xs ∨ SqT K H p xs
/-- a list or tuple that is tracked as itself (its type is known) -/
def SeqT (K : PySem.W.Frag) (H : Hp) (p : Addr) (xs : List V) : Prop := H p = some (.lst xs) ∨ H p = some (.tup xs)
theorem SeqT.seq {K : PySem.W.Frag} {H : Hp} {p : Addr} {xs : List V} (h : SeqT K H p xs) : Seq K H p xs := h.imp sq_of st_of
theorem SeqT.mono {K : PySem.W.Frag} {H H' : Hp} {p : Addr} {xs : List V} (e : Ex H H') (h : SeqT K H p xs) : SeqT K H' p xs := h.imp (e p _) (e p _)
def sp_is_list (K : PySem.W.Frag) : Sp := fun vs H Q _ => ∃ p xs, vs = [.ref p] ∧ SeqT K H p xs ∧ RetV (.bl true) H Q
theorem spv_is_list {K : PySem.W.Frag} {p : Addr} {xs : List V} {H : Hp} (h : SeqT K H p xs) : SpV (sp_is_list K) ([.ref p] ++ []) H (.bl true) := fun H1 e Q q E => ⟨p, xs, rfl, h.mono e, q⟩
def sp_many (K : PySem.W.Frag) : Sp := fun vs H Q _ => ∃ p ns d c, vs = [.ref p, .int d] ∧ SqL K H p (ns.map V.int) ∧ Good ns ∧ IsCnt ns d c ∧ RetV (.int (c : Int)) H Q
theorem spv_many {K : PySem.W.Frag} {p : Addr} {ns : List Int} {d : Int} {c : Nat} {H : Hp} (h : SqL K H p (ns.map V.int)) (g : Good ns) (hc : IsCnt ns d c) : SpV (sp_many K) ([.ref p, .int d] ++ []) H (.int (c : Int)) := fun H1 e Q q E => ⟨p, ns, d, c, rfl, ex_l e h, g, hc, q⟩
def sp_is_table (K : PySem.W.Frag) : Sp := fun vs H Q _ => ∃ p ns, vs = [.ref p] ∧ SeqT K H p (ns.map V.int) ∧ Good ns ∧ RetV (.bl true) H Q
theorem spv_is_table {K : PySem.W.Frag} {p : Addr} {ns : List Int} {H : Hp} (h : SeqT K H p (ns.map V.int)) (g : Good ns) : SpV (sp_is_table K) ([.ref p] ++ []) H (.bl true) := fun H1 e Q q E => ⟨p, ns, rfl, h.mono e, g, q⟩
def sp_init (K : PySem.W.Frag) (C : Addr) : Sp := fun vs H Q _ => ∃ x dx p ns, vs = [.ref x, .ref p] ∧ H x = some (.ins C dx []) ∧ SeqT K H p (ns.map V.int) ∧ Good ns ∧
  ∀ l H', (∀ b o, H b = some o → b ≠ x → H' b = some o) → H' x = some (.ins C dx [("_days", .ref l)]) → H' l = some (.lst (ns.map V.int)) → H l = none → Q .non H'
theorem getI {ns : List Int} {i : Nat} (h : i < ns.length) : (ns.map V.int)[i]? = some (.int (ns.getD i 0)) := by
  rw [List.getElem?_map, List.getElem?_eq_getElem h, List.getD_eq_getElem?_getD, List.getElem?_eq_getElem h] <;> rfl
theorem atI_get {xs : List V} {i : Nat} {v : V} (h : xs[i]? = some v) : atI xs (i : Int) = some v := atI_nat h
theorem atI_int {ns : List Int} {i : Int} (h0 : 0 ≤ i) (h : i < (ns.length : Int)) : atI (ns.map V.int) i = some (.int (ns.getD i.toNat 0)) := by
  obtain ⟨k, rfl⟩ : ∃ k : Nat, i = (k : Int) := ⟨i.toNat, by omega⟩
  rw [Int.toNat_natCast]
  exact atI_nat (getI (by omega))
theorem atI_m1 {ns : List Int} (h : 1 ≤ ns.length) : atI (ns.map V.int) (-1) = some (.int (ns.getD (ns.length - 1) 0)) := by
  have e : ns.map V.int = (ns.dropLast).map V.int ++ [.int (ns.getD (ns.length - 1) 0)] := by
    have hne : ns ≠ [] := by intro q; subst q; simp at h
    conv => lhs; rw [← List.dropLast_concat_getLast hne]
    rw [List.map_append, List.getLast_eq_getElem, List.getD_eq_getElem?_getD, List.getElem?_eq_getElem (by omega)] <;> rfl
  rw [e]
  exact atI_last _ _
section
variable {P : Program} {w : World} {K : PySem.W.Frag} {mg : Str → Option Value} {base : Heap} {C : Addr}
theorem ok_is_list {f : Addr} {fd : FuncData} (F : Fun K "is_list" "is_list" s_is_list f fd) (T : Txt K mg C) : FnOk P w K mg base CX0 1 f fd ["value"] (sp_is_list K) := by
  refine F.ok sc_is_list (fun vs H Q E h => ?_) (fun cdv A outer s H vs Q E hr h => ?_)
  · obtain ⟨p, xs, rfl, _⟩ := h
    rfl
  · obtain ⟨p, xs, rfl, hs, k⟩ := h
    refine ⟨_, (pss_one (ps_ret (pe_callB call_isiT (by rfl) T.b_isinstance (by decide +kernel) (pa_cons (pv 0) (pa_cons (pe_tup (pa_cons (pe_bltn (v := .ty "list") (u := .type "list") (by rfl) T.b_list (by decide +kernel) rfl) (pa_cons (pe_bltn (v := .ty "tuple") (u := .type "tuple") (by rfl) T.b_tuple (by decide +kernel) rfl) pa_nil))) pa_nil))))), ?_⟩
    rcases hs with hs | hs
    · refine ⟨_, rfl, by decide, fun t ht => ?_⟩
      refine ⟨.ref p, t, [.ty "list", .ty "tuple"], .type "list", [.type "list", .type "tuple"], true, rfl, upd_same, .cons (.ty _) (.cons (.ty _) .nil), .base (.lst (by rw [upd_ne (ne_of_none hs ht)]; exact hs)), kitAny_cons (b := true) (kit_ty (by decide +kernel)) (fun h => nomatch h) (fun _ => rfl), k _ (Ex.new ht)⟩
    · refine ⟨_, rfl, by decide, fun t ht => ?_⟩
      refine ⟨.ref p, t, [.ty "list", .ty "tuple"], .type "tuple", [.type "list", .type "tuple"], true, rfl, upd_same, .cons (.ty _) (.cons (.ty _) .nil), .base (.tup (by rw [upd_ne (ne_of_none hs ht)]; exact hs)), kitAny_cons (b := false) (kit_ty (by decide +kernel)) (fun _ => kitAny_cons (b := true) (kit_ty (by decide +kernel)) (fun h => nomatch h) (fun _ => rfl)) (fun h => nomatch h), k _ (Ex.new ht)⟩
theorem ok_many {f : Addr} {fd : FuncData} (F : Fun K "_many_ahead" "_many_ahead" s__many_ahead f fd) (T : Txt K mg C) : FnOk P w K mg base CX0 1 f fd ["days", "day"] (sp_many K) := by
  refine F.ok sc__many_ahead (fun vs H Q E h => ?_) (fun cdv A outer s H vs Q E hr h => ?_)
  · obtain ⟨p, ns, d, c, rfl, _⟩ := h
    rfl
  · obtain ⟨p, ns, d, c, rfl, hs, g, hc, k⟩ := h
    refine ⟨_, (pss_cons (ps_par (i := 2) (j := 3) (by rfl) sc__many_ahead.nd rfl rfl (by decide) rfl rfl (pa_cons pe_int (pa_cons (pe_callB (lenS (K := K) rfl) (by rfl) T.b_len (by decide +kernel) (pa_cons (pv 0) pa_nil)) pa_nil)) (by rfl)) (pss_cons (ps_while PassesOwn.never (pt_cmpR op_lt (pv 2) (pv 3) (nomark _)) (pss_cons (ps_set (i := 4) sc__many_ahead.nd rfl (Or.inl rfl) (pe_op op_fdivN (pe_op op_add (pv 2) (pv 3)) pe_int)) (pss_one (ps_if (pt_cmpR op_lt (pe_ix (ixL (K := K) rfl) (pv 0) (pv 4) (fun _ _ => rfl)) (pv 1) (nomark _)) (pss_one (ps_set (i := 2) sc__many_ahead.nd rfl (Or.inl rfl) (pe_op op_add (pv 4) pe_int))) (pss_one (ps_set (i := 3) sc__many_ahead.nd rfl (Or.inl rfl) (pv 4))))))) (pss_one (ps_ret (pv 2))))), ?_⟩
    refine q_par (v := .int 0) (w := .int (ns.length : Int)) (ea_cons ev_c (ea_cons (ev_cb (ea_cons (ev_var rfl) ea_nil) (rc_len (.inl hs) (by rw [List.length_map]))) ea_nil)) fun H1 e1 => ?_
    refine q_while (fun m σ' H' => ∃ lo hi : Nat, m = hi - lo ∧ lo ≤ hi ∧ hi ≤ ns.length ∧ Ex H H' ∧ lo ≤ c ∧ c ≤ hi ∧ ∃ mid : Option V, σ' = [some (.ref p), some (.int d), some (.int (lo : Int)), some (.int (hi : Int)), mid]) ns.length ⟨0, ns.length, by omega, by omega, Nat.le_refl _, e1, by omega, hc.1, none, rfl⟩ ?_
    rintro m σ' H' ⟨lo, hi, rfl, h1, h2, e, h3, h4, mid, rfl⟩
    refine ⟨decide ((lo : Int) < (hi : Int)), et_test (ev_op (ev_var rfl) (ev_var rfl) rv_I0), fun ht H2 e2 => ?_, fun ht H2 e2 => ?_⟩
    · have hlt : lo < hi := by have := of_decide_eq_true ht; omega
      have hmid : ((lo : Int) + (hi : Int)).fdiv 2 = (((lo + hi) / 2 : Nat) : Int) := by
        rw [Int.fdiv_eq_ediv_of_nonneg _ (by decide)]; omega
      refine ⟨fun σ2 H3 => ∃ lo' hi' : Nat, hi' - lo' < hi - lo ∧ lo' ≤ hi' ∧ hi' ≤ ns.length ∧ Ex H H3 ∧ lo' ≤ c ∧ c ≤ hi' ∧ ∃ mid : Option V, σ2 = [some (.ref p), some (.int d), some (.int (lo' : Int)), some (.int (hi' : Int)), mid],
        fun σ2 H3 ⟨lo', hi', q1, q2, q3, q4, q5, q6, q7⟩ => ⟨hi' - lo', q1, lo', hi', rfl, q2, q3, q4, q5, q6, q7⟩, ?_⟩
      refine q_asg (v := .int (((lo + hi) / 2 : Nat) : Int)) (ev_is (ev_op (ev_op (ev_var rfl) (ev_var rfl) rv_I0) ev_c (rv_I ⟨by decide, by decide⟩)) (by rw [hmid])) fun H3 e3 => ?_
      have hm1 : lo ≤ (lo + hi) / 2 := by omega
      have hm2 : (lo + hi) / 2 < hi := by omega
      have e4 : Ex H H3 := (e.trans e2).trans e3
      refine s_if (et_test (ev_op (ev_op (ev_var rfl) (ev_var rfl) (rv_ixL (ex_l e4 hs) (atI_nat (getI (by omega : (lo + hi) / 2 < ns.length))))) (ev_var rfl) rv_I0)) (fun hb H4 e5 => ?_) (fun hb H4 e5 => ?_)
      · have hlo : ns.getD ((lo + hi) / 2) 0 < d := of_decide_eq_true hb
        refine s_asg (v := .int (((lo + hi) / 2 + 1 : Nat) : Int)) (ev_is (ev_op (ev_var rfl) ev_c rv_I0) (by congr 1)) fun H5 e6 => ?_
        refine ⟨(lo + hi) / 2 + 1, hi, by omega, by omega, h2, (e4.trans e5).trans e6, ?_, h4, _, rfl⟩
        refine Classical.byContradiction fun q => ?_
        have := hc.2.2 ((lo + hi) / 2) (by omega) (by omega)
        omega
      · have hlo : ¬ ns.getD ((lo + hi) / 2) 0 < d := of_decide_eq_false hb
        refine s_asg (ev_var rfl) fun H5 e6 => ?_
        refine ⟨lo, (lo + hi) / 2, by omega, by omega, by omega, (e4.trans e5).trans e6, h3, ?_, _, rfl⟩
        refine Classical.byContradiction fun q => ?_
        have := hc.2.1 ((lo + hi) / 2) (by omega)
        omega
    · have hge : ¬ (lo : Int) < (hi : Int) := of_decide_eq_false ht
      have e0 : lo = c := by omega
      subst e0
      exact s_ret (ev_var rfl) fun H3 e3 => k H3 ((e.trans e2).trans e3)
end
end K11
end
section
set_option maxHeartbeats 4000000
namespace K11
open PySem L2 Evl G TM
section
variable {P : Program} {w : World} {K : PySem.W.Frag} {mg : Str → Option Value} {base : Heap} {C : Addr}
/-- range(n) of a comprehension that keeps all -/
theorem given_all {n : Nat} {v : Nat → V} : given n (fun _ => true) v = (List.range n).map v := by
  unfold given
  rw [List.filter_eq_self.mpr (fun _ _ => rfl)]
theorem lc_true {σ : L2.St} {H : Hp} : EvT tYes σ H true := fun H1 _ _ q => q H1 (Ex.refl _)
theorem all_map_true {n : Nat} {f : Nat → Bool} (h : ∀ i, i < n → f i = true) : ((List.range n).map f).all id = true := by
  rw [List.all_map, List.all_eq_true]
  exact fun i hi => h i (List.mem_range.mp hi)
theorem rv_res {r : R2} {x y z z' : V} {H : Hp} (h : RV r x y H z) (e : z = z') : RV r x y H z' := e ▸ h
theorem ev_glob {σ : L2.St} {H : Hp} {v : V} : Ev (tC v) σ H v := ev_c
theorem ev_const {σ : L2.St} {H : Hp} {mc : Value} {f : Str} {v : V} {u : Value} {te : TE} (h : Ev te σ H (.ref C)) (r : ClX.CRead K C mc) (k : ClX.CVal K C mc f v u) : Ev (ClX.tCVal K te f) σ H v := fun H1 e Q q =>
  h H1 e _ fun H2 e2 => ⟨C, mc, v, u, rfl, r, k, q H2 e2⟩
theorem ok_is_table {f f1 f2 : Addr} {fd fd1 fd2 : FuncData} (F : Fun K "is_table" "is_table" s_is_table f fd) (T : Txt K mg C) (c_is_list : Cal P w K mg base "is_list" f1 fd1 ["value"] 1 (sp_is_list K)) (c_is_day : Cal P w K mg base "is_day" f2 fd2 ["value"] 1 sp_is_day) :
    FnOk P w K mg base CX0 2 f fd ["value"] (sp_is_table K) := by
  refine F.ok sc_is_table (fun vs H Q E h => ?_) (fun cdv A outer s H vs Q E hr h => ?_)
  · obtain ⟨p, ns, rfl, _⟩ := h
    rfl
  · obtain ⟨p, ns, rfl, hs, g, k⟩ := h
    obtain ⟨mc, tkq, rd, cv⟩ := T.cM
    have hgp := g.pos
    have hgm := g.most
    rcases hs with hs | hs
    · have hq := sq_of (K := K) hs
      refine ⟨_, (pss_cons (ps_if (PW.pt (pw_or (pt_not (pt_val (pe_call c_is_list.ok (hr.mono (by decide)) (by rfl) c_is_list.mgx c_is_list.kp c_is_list.bd .nil pass0 (pa_cons (pv 0) pa_nil)))) (pw_or1 (pt_not (pt_chain op_le op_le pe_int (pe_callB (lenS (K := K) rfl) (by rfl) T.b_len (by decide +kernel) (pa_cons (pv 0) pa_nil)) (ClX.pe_cval (pe_glob (v := .ref C) rfl T.mg_Table rfl))))))) (pss_one (ps_ret pe_bl)) pss_nil) (pss_cons (ps_if (pt_not (pt_val (pe_callB (allL (K := K) rfl rfl) (by rfl) T.b_all (by decide +kernel) (pa_cons (pe_lc (own := [("day", 2)]) (g := (gName 2)) (by rfl) sc_is_table.nd (pi_list (pv 0)) (blkOk_by (own := [("day", 2)]) (N := ["value", "rises", "day", "place"]) (sc := defScope s_is_table) (by decide +kernel)) (fun _ _ _ _ _ => (pg_name (i := 2) sc_is_table.nd rfl (Or.inl rfl))) (fun _ _ _ _ _ => pts_nil) (fun _ _ _ _ _ => (pe_call c_is_day.ok (hr.mono (by decide)) (by rfl) c_is_day.mgx c_is_day.kp c_is_day.bd .nil pass0 (pa_cons (pv 2) pa_nil)))) pa_nil)))) (pss_one (ps_ret pe_bl)) pss_nil) (pss_cons (ps_set (i := 1) sc_is_table.nd rfl (Or.inl rfl) (pe_callB (allL (K := K) rfl rfl) (by rfl) T.b_all (by decide +kernel) (pa_cons (pe_lc (own := [("place", 3)]) (g := (gName 3)) (by rfl) sc_is_table.nd (pi_range1 (by rfl) T.b_range (pa_cons (pe_op op_sub (pe_callB (lenS (K := K) rfl) (by rfl) T.b_len (by decide +kernel) (pa_cons (pv 0) pa_nil)) pe_int) pa_nil)) (blkOk_by (own := [("place", 3)]) (N := ["value", "rises", "day", "place"]) (sc := defScope s_is_table) (by decide +kernel)) (fun _ _ _ _ _ => (pg_name (i := 3) sc_is_table.nd rfl (Or.inl rfl))) (fun _ _ _ _ _ => pts_nil) (fun _ _ _ _ _ => (pe_cmpR op_le (pe_ix (ixL (K := K) rfl) (pv 0) (pv 3) (fun _ _ => rfl)) (pe_ix (ixL (K := K) rfl) (pv 0) (pe_op op_add (pv 3) pe_int) (fun _ _ => rfl)) (nomark _)))) pa_nil))) (pss_one (ps_ret (pe_and (pv 1) (pe_one (pe_cmpR op_le (pe_op op_sub (pe_ix (ixL (K := K) rfl) (pv 0) (pe_un un_neg pe_int) (fun _ _ => rfl)) (pe_ix (ixL (K := K) rfl) (pv 0) pe_int (fun _ _ => rfl))) (pe_callB (lenS (K := K) rfl) (by rfl) T.b_len (by decide +kernel) (pa_cons (pv 0) pa_nil)) (nomark _))))))))), ?_⟩
      refine q_when (b := false) (et_or (a := false) (b := false) (et_not (a := true) (et_B (ev_call (ea_cons (ev_var rfl) ea_nil) (spv_is_list (.inl hs))))) fun _ => et_not (a := true) (et_test (ev_chain (y := .int (ns.length : Int)) (ev_c (v := .int 1)) (ev_cb (ea_cons (ev_var rfl) ea_nil) (rc_len (.inl hq) (by rw [List.length_map]))) (rv_res rv_I0 (by simp; omega)) (ev_const ev_glob rd cv) (rv_res rv_I0 (by simp; omega))))) (fun q => nomatch q) fun _ H1 e1 => ?_
      refine q_when (b := false) (et_not (a := true) (et_B (ev_allT (n := ns.length) (by
        have e0 : (ns.map V.int).length = ns.length := List.length_map ..
        rw [← e0]
        refine el_lcL (fun _ => true) (fun _ => V.bl true) (ev_var rfl) (ex_l e1 hq) (by rw [e0]; omega) (fun _ => rfl) (fun _ _ _ _ _ => lc_yes) (fun i x H2 e2 hi _ => ?_)
        rw [List.getElem?_map] at hi
        obtain ⟨n, _, rfl⟩ := Option.map_eq_some_iff.mp hi
        exact ev_call (ea_cons (ev_var rfl) ea_nil) spv_is_day)))) (fun q => nomatch q) fun _ H2 e2 => ?_
      refine q_asg (v := .bl true) (ev_allT (n := ((ns.length : Int) - 1).toNat) (el_lcR1 (fun _ => true) (fun _ => V.bl true) (ea_cons (ev_op (ev_cb (ea_cons (ev_var rfl) ea_nil) (rc_len (.inl (ex_l (e1.trans e2) hq)) (by rw [List.length_map]))) ev_c rv_I0) ea_nil) (by omega) (fun _ => rfl) (fun _ _ _ _ => lc_yes) (fun i H3 e3 hi _ => ?_))) fun H3 e3 => ?_
      · have hi' : i + 1 < ns.length := by omega
        have hu := g.up i (i + 1) (by omega) hi'
        refine ev_is (ev_op (ev_op (ev_var rfl) (ev_var rfl) (rv_ixL (ex_l ((e1.trans e2).trans e3) hq) (atI_nat (getI (by omega : i < ns.length))))) (ev_op (ev_var rfl) (ev_is (ev_op (ev_var rfl) ev_c rv_I0) (by congr 1 : V.int ((i : Int) + 1) = V.int ((i + 1 : Nat) : Int))) (rv_ixL (ex_l ((e1.trans e2).trans e3) hq) (atI_nat (getI hi')))) rv_I0) (congrArg V.bl (decide_eq_true hu))
      · have hsp := g.span
        refine s_ret (ev_is (ev_andV (a := true) (ev_var rfl) fun _ => ev_op (ev_op (ev_op (ev_var rfl) (ev_un ev_c ru_neg) (rv_ixL (ex_l ((e1.trans e2).trans e3) hq) (atI_m1 hgp))) (ev_op (ev_var rfl) ev_c (rv_ixL (ex_l ((e1.trans e2).trans e3) hq) (atI_int (by decide) (by omega)))) rv_I0) (ev_cb (ea_cons (ev_var rfl) ea_nil) (rc_len (.inl (ex_l ((e1.trans e2).trans e3) hq)) (by rw [List.length_map]))) rv_I0) (congrArg V.bl (decide_eq_true hsp))) fun H4 e4 => k H4 (((e1.trans e2).trans e3).trans e4)
    · have hq := st_of (K := K) hs
      refine ⟨_, (pss_cons (ps_if (PW.pt (pw_or (pt_not (pt_val (pe_call c_is_list.ok (hr.mono (by decide)) (by rfl) c_is_list.mgx c_is_list.kp c_is_list.bd .nil pass0 (pa_cons (pv 0) pa_nil)))) (pw_or1 (pt_not (pt_chain op_le op_le pe_int (pe_callB (lenS (K := K) rfl) (by rfl) T.b_len (by decide +kernel) (pa_cons (pv 0) pa_nil)) (ClX.pe_cval (pe_glob (v := .ref C) rfl T.mg_Table rfl))))))) (pss_one (ps_ret pe_bl)) pss_nil) (pss_cons (ps_if (pt_not (pt_val (pe_callB (allL (K := K) rfl rfl) (by rfl) T.b_all (by decide +kernel) (pa_cons (pe_lc (own := [("day", 2)]) (g := (gName 2)) (by rfl) sc_is_table.nd (pi_tup (pv 0)) (blkOk_by (own := [("day", 2)]) (N := ["value", "rises", "day", "place"]) (sc := defScope s_is_table) (by decide +kernel)) (fun _ _ _ _ _ => (pg_name (i := 2) sc_is_table.nd rfl (Or.inl rfl))) (fun _ _ _ _ _ => pts_nil) (fun _ _ _ _ _ => (pe_call c_is_day.ok (hr.mono (by decide)) (by rfl) c_is_day.mgx c_is_day.kp c_is_day.bd .nil pass0 (pa_cons (pv 2) pa_nil)))) pa_nil)))) (pss_one (ps_ret pe_bl)) pss_nil) (pss_cons (ps_set (i := 1) sc_is_table.nd rfl (Or.inl rfl) (pe_callB (allL (K := K) rfl rfl) (by rfl) T.b_all (by decide +kernel) (pa_cons (pe_lc (own := [("place", 3)]) (g := (gName 3)) (by rfl) sc_is_table.nd (pi_range1 (by rfl) T.b_range (pa_cons (pe_op op_sub (pe_callB (lenS (K := K) rfl) (by rfl) T.b_len (by decide +kernel) (pa_cons (pv 0) pa_nil)) pe_int) pa_nil)) (blkOk_by (own := [("place", 3)]) (N := ["value", "rises", "day", "place"]) (sc := defScope s_is_table) (by decide +kernel)) (fun _ _ _ _ _ => (pg_name (i := 3) sc_is_table.nd rfl (Or.inl rfl))) (fun _ _ _ _ _ => pts_nil) (fun _ _ _ _ _ => (pe_cmpR op_le (pe_ix (ixT (K := K) rfl) (pv 0) (pv 3) (fun _ _ => rfl)) (pe_ix (ixT (K := K) rfl) (pv 0) (pe_op op_add (pv 3) pe_int) (fun _ _ => rfl)) (nomark _)))) pa_nil))) (pss_one (ps_ret (pe_and (pv 1) (pe_one (pe_cmpR op_le (pe_op op_sub (pe_ix (ixT (K := K) rfl) (pv 0) (pe_un un_neg pe_int) (fun _ _ => rfl)) (pe_ix (ixT (K := K) rfl) (pv 0) pe_int (fun _ _ => rfl))) (pe_callB (lenS (K := K) rfl) (by rfl) T.b_len (by decide +kernel) (pa_cons (pv 0) pa_nil)) (nomark _))))))))), ?_⟩
      refine q_when (b := false) (et_or (a := false) (b := false) (et_not (a := true) (et_B (ev_call (ea_cons (ev_var rfl) ea_nil) (spv_is_list (.inr hs))))) fun _ => et_not (a := true) (et_test (ev_chain (y := .int (ns.length : Int)) (ev_c (v := .int 1)) (ev_cb (ea_cons (ev_var rfl) ea_nil) (rc_len (.inr hq) (by rw [List.length_map]))) (rv_res rv_I0 (by simp; omega)) (ev_const ev_glob rd cv) (rv_res rv_I0 (by simp; omega))))) (fun q => nomatch q) fun _ H1 e1 => ?_
      refine q_when (b := false) (et_not (a := true) (et_B (ev_allT (n := ns.length) (by
        have e0 : (ns.map V.int).length = ns.length := List.length_map ..
        rw [← e0]
        refine el_lcT (fun _ => true) (fun _ => V.bl true) (ev_var rfl) (ex_t e1 hq) (by rw [e0]; omega) (fun _ => rfl) (fun _ _ _ _ _ => lc_yes) (fun i x H2 e2 hi _ => ?_)
        rw [List.getElem?_map] at hi
        obtain ⟨n, _, rfl⟩ := Option.map_eq_some_iff.mp hi
        exact ev_call (ea_cons (ev_var rfl) ea_nil) spv_is_day)))) (fun q => nomatch q) fun _ H2 e2 => ?_
      refine q_asg (v := .bl true) (ev_allT (n := ((ns.length : Int) - 1).toNat) (el_lcR1 (fun _ => true) (fun _ => V.bl true) (ea_cons (ev_op (ev_cb (ea_cons (ev_var rfl) ea_nil) (rc_len (.inr (ex_t (e1.trans e2) hq)) (by rw [List.length_map]))) ev_c rv_I0) ea_nil) (by omega) (fun _ => rfl) (fun _ _ _ _ => lc_yes) (fun i H3 e3 hi _ => ?_))) fun H3 e3 => ?_
      · have hi' : i + 1 < ns.length := by omega
        have hu := g.up i (i + 1) (by omega) hi'
        refine ev_is (ev_op (ev_op (ev_var rfl) (ev_var rfl) (rv_ixT (ex_t ((e1.trans e2).trans e3) hq) (atI_nat (getI (by omega : i < ns.length))))) (ev_op (ev_var rfl) (ev_is (ev_op (ev_var rfl) ev_c rv_I0) (by congr 1 : V.int ((i : Int) + 1) = V.int ((i + 1 : Nat) : Int))) (rv_ixT (ex_t ((e1.trans e2).trans e3) hq) (atI_nat (getI hi')))) rv_I0) (congrArg V.bl (decide_eq_true hu))
      · have hsp := g.span
        refine s_ret (ev_is (ev_andV (a := true) (ev_var rfl) fun _ => ev_op (ev_op (ev_op (ev_var rfl) (ev_un ev_c ru_neg) (rv_ixT (ex_t ((e1.trans e2).trans e3) hq) (atI_m1 hgp))) (ev_op (ev_var rfl) ev_c (rv_ixT (ex_t ((e1.trans e2).trans e3) hq) (atI_int (by decide) (by omega)))) rv_I0) (ev_cb (ea_cons (ev_var rfl) ea_nil) (rc_len (.inr (ex_t ((e1.trans e2).trans e3) hq)) (by rw [List.length_map]))) rv_I0) (congrArg V.bl (decide_eq_true hsp))) fun H4 e4 => k H4 (((e1.trans e2).trans e3).trans e4)
end
end K11
end
section
set_option maxHeartbeats 4000000
namespace K11
open PySem L2 Evl G TM
/-! ### the promises of a Table's methods -/
def sp_length (K : PySem.W.Frag) (C : Addr) : Sp := fun vs H Q _ => ∃ p ns, vs = [.ref p] ∧ Tab K C H p ns ∧ RetV (.int (ns.length : Int)) H Q
def sp_days (K : PySem.W.Frag) (C : Addr) : Sp := fun vs H Q _ => ∃ p ns, vs = [.ref p] ∧ Tab K C H p ns ∧ RetL (ns.map V.int) H Q
def RetR (xs : List V) (H : Hp) (Q : VK) : Prop := ∀ (l : Addr) (ts : List Addr) (H2 : Hp), H l = none → Ex H H2 → H2 l = some (.lst (ts.map V.ref)) → ts.length = xs.length → (∀ (j : Nat) (T : Addr) (x : V), ts[j]? = some T → xs[j]? = some x → H2 T = some (.tup [.int (j : Int), x])) → Q (.ref l) H2
def RetD (K : PySem.W.Frag) (d : PyData) (H : Hp) (Q : VK) : Prop := ∀ v H2, Ex H H2 → Dp K H2 v d → Q v H2
def sp_rows (K : PySem.W.Frag) (C : Addr) : Sp := fun vs H Q _ => ∃ p ns, vs = [.ref p] ∧ Tab K C H p ns ∧ RetR (ns.map V.int) H Q
def sp_on (K : PySem.W.Frag) (C : Addr) : Sp := fun vs H Q _ => ∃ p ns x, vs = [.ref p, .int x] ∧ Tab K C H p ns ∧ Good ns ∧ RetV (.int (onL ns x)) H Q
def sp_by (K : PySem.W.Frag) (C : Addr) : Sp := fun vs H Q _ => ∃ p ns x, vs = [.ref p, .int x] ∧ Tab K C H p ns ∧ Good ns ∧ RetV (.int (byL ns x)) H Q
def sp_til (K : PySem.W.Frag) (C : Addr) : Sp := fun vs H Q _ => ∃ p ns x, vs = [.ref p, .int x] ∧ Tab K C H p ns ∧ Good ns ∧ RetV (.int (byL ns (x + 1) - 1)) H Q
def sp_served (K : PySem.W.Frag) (C : Addr) : Sp := fun vs H Q _ => ∃ p ns x, vs = [.ref p, .int x] ∧ Tab K C H p ns ∧ Good ns ∧ RetV (.bl (decide (onL ns (byL ns x) = x))) H Q
def ansL (ns : List Int) (x : Int) (n : Nat) : List Int := (List.range n).map fun (i : Nat) => onL ns (x + (i : Int))
def sp_answers (K : PySem.W.Frag) (C : Addr) : Sp := fun vs H Q _ => ∃ (p : Addr) (ns : List Int) (x : Int) (n : Nat), vs = [.ref p, .int x, .int (n : Int)] ∧ Tab K C H p ns ∧ Good ns ∧ n ≤ 600 ∧ RetL ((ansL ns x n).map V.int) H Q
section
variable {K : PySem.W.Frag} {C p : Addr} {H : Hp} {ns : List Int} {x : Int}
theorem spv_length (t : Tab K C H p ns) : SpV (sp_length K C) [.ref p] H (.int (ns.length : Int)) := fun H1 e Q q E => ⟨p, ns, rfl, t.mono e, q⟩
theorem spl_days (t : Tab K C H p ns) : SpL (sp_days K C) [.ref p] H (ns.map V.int) := fun H1 e Q q E => ⟨p, ns, rfl, t.mono e, q⟩
theorem spr_rows (t : Tab K C H p ns) : SpR (sp_rows K C) [.ref p] H (ns.map V.int) := fun H1 e Q q E => ⟨p, ns, rfl, t.mono e, q⟩
theorem spv_on (t : Tab K C H p ns) (g : Good ns) : SpV (sp_on K C) [.ref p, .int x] H (.int (onL ns x)) := fun H1 e Q q E => ⟨p, ns, x, rfl, t.mono e, g, q⟩
theorem spv_by (t : Tab K C H p ns) (g : Good ns) : SpV (sp_by K C) [.ref p, .int x] H (.int (byL ns x)) := fun H1 e Q q E => ⟨p, ns, x, rfl, t.mono e, g, q⟩
theorem spv_til (t : Tab K C H p ns) (g : Good ns) : SpV (sp_til K C) [.ref p, .int x] H (.int (byL ns (x + 1) - 1)) := fun H1 e Q q E => ⟨p, ns, x, rfl, t.mono e, g, q⟩
theorem spv_served (t : Tab K C H p ns) (g : Good ns) : SpV (sp_served K C) [.ref p, .int x] H (.bl (decide (onL ns (byL ns x) = x))) := fun H1 e Q q E => ⟨p, ns, x, rfl, t.mono e, g, q⟩
theorem spl_answers {n : Nat} (t : Tab K C H p ns) (g : Good ns) (h : n ≤ 600) : SpL (sp_answers K C) [.ref p, .int x, .int (n : Int)] H ((ansL ns x n).map V.int) := fun H1 e Q q E => ⟨p, ns, x, n, rfl, t.mono e, g, h, q⟩
end
section
variable {P : Program} {w : World} {K : PySem.W.Frag} {mg : Str → Option Value} {base : Heap} {C : Addr}
theorem lk_days {l : Addr} : List.lookup ("_days" : Str) [(("_days" : Str), V.ref l)] = some (V.ref l) := by
  rw [List.lookup_cons_self]
theorem ok_init {f f1 : Addr} {fd fd1 : FuncData} (F : Fun K "__init__" "Table.__init__" s_Table___init__ f fd) (T : Txt K mg C) (c_is_table : Cal P w K mg base "is_table" f1 fd1 ["value"] 2 (sp_is_table K)) : FnOk P w K mg base CX0 3 f fd ["self", "days"] (sp_init K C) := by
  refine F.ok sc_Table___init__ (fun vs H Q E h => ?_) (fun cdv A outer s H vs Q E hr h => ?_)
  · obtain ⟨x, dx, p, ns, rfl, _⟩ := h
    rfl
  · obtain ⟨x, dx, p, ns, rfl, hx, hs, g, k⟩ := h
    refine ⟨_, (pss_cons (ps_if (pt_not (pt_val (pe_call c_is_table.ok (hr.mono (by decide)) (by rfl) c_is_table.mgx c_is_table.kp c_is_table.bd .nil pass0 (pa_cons (pv 1) pa_nil)))) (pss_one ps_never) pss_nil) (pss_one (ps_fld (pv 0) (pe_callTy call_list_of (by rfl) T.b_list (by decide +kernel) (pa_cons (pv 1) pa_nil)) rfl))), ?_⟩
    refine q_when (b := false) (et_not (a := true) (et_B (ev_call (ea_cons (ev_var rfl) ea_nil) (spv_is_table hs g)))) (fun q => nomatch q) fun _ H1 e1 => ?_
    refine (el_cb (ea_cons (ev_var rfl) ea_nil) (rc_list (hs.mono e1).seq)) H1 (Ex.refl H1) _ fun l H2 hl e2 h2 => ?_
    have hx2 := e2 x _ (e1 x _ hx)
    refine ⟨_, rfl, x, C, dx, [], rfl, hx2, T.cl, T.nD, by decide, ?_⟩
    have hne : l ≠ x := (ne_of hx2 h2 (fun q => by cases q)).symm
    exact k l _ (fun b o hb hbx => by rw [upd_ne hbx]; exact e2 b _ (e1 b _ hb)) upd_same (by rw [upd_ne hne]; exact h2) (fresh_back e1 hl)
theorem ok_length {f : Addr} {fd : FuncData} (F : Fun K "length" "Table.length" s_Table_length f fd) (T : Txt K mg C) : FnOk P w K mg base CX0 1 f fd ["self"] (sp_length K C) := by
  refine F.ok sc_Table_length (fun vs H Q E h => ?_) (fun cdv A outer s H vs Q E hr h => ?_)
  · obtain ⟨p, ns, rfl, _⟩ := h
    rfl
  · obtain ⟨p, ns, rfl, ⟨dx, l, h1, h2⟩, k⟩ := h
    refine ⟨_, (pss_one (ps_ret (pe_callB (lenS (K := K) rfl) (by rfl) T.b_len (by decide +kernel) (pa_cons (pe_fldK (K := K) rfl (pv 0) rfl) pa_nil)))), ?_⟩
    exact s_ret (ev_cb (ea_cons (ev_fld (ev_var rfl) h1 T.cl T.nD lk_days) ea_nil) (rc_len (.inl h2) (by rw [List.length_map]))) k
theorem ok_days {f : Addr} {fd : FuncData} (F : Fun K "days" "Table.days" s_Table_days f fd) (T : Txt K mg C) : FnOk P w K mg base CX0 1 f fd ["self"] (sp_days K C) := by
  refine F.ok sc_Table_days (fun vs H Q E h => ?_) (fun cdv A outer s H vs Q E hr h => ?_)
  · obtain ⟨p, ns, rfl, _⟩ := h
    rfl
  · obtain ⟨p, ns, rfl, ⟨dx, l, h1, h2⟩, k⟩ := h
    refine ⟨_, (pss_one (ps_ret (pe_callTy call_list_of (by rfl) T.b_list (by decide +kernel) (pa_cons (pe_fldK (K := K) rfl (pv 0) rfl) pa_nil)))), ?_⟩
    exact s_retL (el_cb (ea_cons (ev_fld (ev_var rfl) h1 T.cl T.nD lk_days) ea_nil) (rc_list (.inl h2))) k
theorem ok_rows {f : Addr} {fd : FuncData} (F : Fun K "asked_rows" "Table.asked_rows" s_Table_asked_rows f fd) (T : Txt K mg C) : FnOk P w K mg base CX0 1 f fd ["self"] (sp_rows K C) := by
  refine F.ok sc_Table_asked_rows (fun vs H Q E h => ?_) (fun cdv A outer s H vs Q E hr h => ?_)
  · obtain ⟨p, ns, rfl, _⟩ := h
    rfl
  · obtain ⟨p, ns, rfl, ⟨dx, l, h1, h2⟩, k⟩ := h
    refine ⟨_, (pss_one (ps_ret (pe_listEn rfl (by rfl) T.b_list (by rfl) T.b_enumerate (pe_fldK (K := K) rfl (pv 0) rfl)))), ?_⟩
    exact (evr_en (ev_fld (ev_var rfl) h1 T.cl T.nD lk_days) h2) H (Ex.refl H) _ k
theorem ok_on {f f1 f2 p2 : Addr} {fd fd1 fd2 : FuncData} (F : Fun K "on" "Table.on" s_Table_on f fd) (T : Txt K mg C) (c_need_day : Cal P w K mg base "need_day" f1 fd1 ["value"] 2 sp_need_day)
    (m_length : Prp P w K mg base C "length" p2 f2 fd2 ["self"] 1 (sp_length K C)) : FnOk P w K mg base CX0 3 f fd ["self", "day"] (sp_on K C) := by
  refine F.ok sc_Table_on (fun vs H Q E h => ?_) (fun cdv A outer s H vs Q E hr h => ?_)
  · obtain ⟨p, ns, x, rfl, _⟩ := h
    rfl
  · obtain ⟨p, ns, x, rfl, t, g, k⟩ := h
    obtain ⟨dx, l, h1, h2⟩ := id t
    have hp := g.posI
    have hm := g.most
    refine ⟨_, (pss_cons (ps_expr (pe_call c_need_day.ok (hr.mono (by decide)) (by rfl) c_need_day.mgx c_need_day.kp c_need_day.bd .nil pass0 (pa_cons (pv 1) pa_nil))) (pss_cons (ps_asg (pe_callB call_divmod (by rfl) T.b_divmod (by decide +kernel) (pa_cons (pv 1) (pa_cons (pe_prop (pv 0) T.cl m_length.pr m_length.ok (hr.mono (by decide)) m_length.bd .nil pass0 (by rfl)) pa_nil))) (pg_tup (by rfl) (pgs_cons (pg_name (i := 2) sc_Table_on.nd rfl (Or.inl rfl)) (pgs_cons (pg_name (i := 3) sc_Table_on.nd rfl (Or.inl rfl)) pgs_nil)))) (pss_one (ps_ret (pe_op op_add (pe_ix (ixL (K := K) rfl) (pe_fldK (K := K) rfl (pv 0) rfl) (pv 3) (fun _ _ => rfl)) (pe_op op_mul (pv 2) (pe_prop (pv 0) T.cl m_length.pr m_length.ok (hr.mono (by decide)) m_length.bd .nil pass0 (by rfl)))))))), ?_⟩
    refine q_drop (ev_call (ea_cons (ev_var rfl) ea_nil) spv_need_day) fun H1 e1 => ?_
    refine q_asgT2 (eu_divmod (ev_var rfl) (ev_prop (ev_var rfl) (e1 p _ h1) (spv_length (t.mono e1))) hp (by omega)) fun H2 e2 => ?_
    have e3 := e1.trans e2
    have i0 := Int.emod_nonneg x (show (ns.length : Int) ≠ 0 by omega)
    have i1 := Int.emod_lt_of_pos x hp
    exact s_ret (ev_op (ev_op (ev_fld (ev_var rfl) (e3 p _ h1) T.cl T.nD lk_days) (ev_var rfl) (rv_ixL (ex_l e3 h2) (atI_int i0 i1))) (ev_op (ev_var rfl) (ev_prop (ev_var rfl) (e3 p _ h1) (spv_length (t.mono e3))) (rv_I (.inr ⟨by omega, by omega⟩))) rv_I0) fun H3 e4 => k H3 (e3.trans e4)
theorem ok_til {f f1 f2 : Addr} {fd fd1 fd2 : FuncData} (F : Fun K "til" "Table.til" s_Table_til f fd) (T : Txt K mg C) (c_need_day : Cal P w K mg base "need_day" f1 fd1 ["value"] 2 sp_need_day)
    (m_by : Met P w K mg base C "by" f2 fd2 ["self", "day"] 3 (sp_by K C)) : FnOk P w K mg base CX0 4 f fd ["self", "day"] (sp_til K C) := by
  refine F.ok sc_Table_til (fun vs H Q E h => ?_) (fun cdv A outer s H vs Q E hr h => ?_)
  · obtain ⟨p, ns, x, rfl, _⟩ := h
    rfl
  · obtain ⟨p, ns, x, rfl, t, g, k⟩ := h
    obtain ⟨dx, l, h1, h2⟩ := id t
    refine ⟨_, (pss_cons (ps_expr (pe_call c_need_day.ok (hr.mono (by decide)) (by rfl) c_need_day.mgx c_need_day.kp c_need_day.bd .nil pass0 (pa_cons (pv 1) pa_nil))) (pss_one (ps_ret (pe_op op_sub (pe_meth (pv 0) T.cl m_by.me m_by.ok (hr.mono (by decide)) m_by.bd .nil pass0 (pa_cons (pe_op op_add (pv 1) pe_int) pa_nil)) pe_int)))), ?_⟩
    refine q_drop (ev_call (ea_cons (ev_var rfl) ea_nil) spv_need_day) fun H1 e1 => ?_
    exact s_ret (ev_op (ev_meth (ev_var rfl) (e1 p _ h1) rfl (ea_cons (ev_op (ev_var rfl) ev_c rv_I0) ea_nil) (spv_by (t.mono e1) g)) ev_c rv_I0) fun H2 e2 => k H2 (e1.trans e2)
theorem ok_served {f f1 f2 f3 : Addr} {fd fd1 fd2 fd3 : FuncData} (F : Fun K "is_served" "Table.is_served" s_Table_is_served f fd) (T : Txt K mg C) (c_need_day : Cal P w K mg base "need_day" f1 fd1 ["value"] 2 sp_need_day)
    (m_by : Met P w K mg base C "by" f2 fd2 ["self", "day"] 3 (sp_by K C)) (m_on : Met P w K mg base C "on" f3 fd3 ["self", "day"] 3 (sp_on K C)) : FnOk P w K mg base CX0 4 f fd ["self", "day"] (sp_served K C) := by
  refine F.ok sc_Table_is_served (fun vs H Q E h => ?_) (fun cdv A outer s H vs Q E hr h => ?_)
  · obtain ⟨p, ns, x, rfl, _⟩ := h
    rfl
  · obtain ⟨p, ns, x, rfl, t, g, k⟩ := h
    obtain ⟨dx, l, h1, h2⟩ := id t
    refine ⟨_, (pss_cons (ps_expr (pe_call c_need_day.ok (hr.mono (by decide)) (by rfl) c_need_day.mgx c_need_day.kp c_need_day.bd .nil pass0 (pa_cons (pv 1) pa_nil))) (pss_one (ps_ret (pe_cmpR op_eq (pe_meth (pv 0) T.cl m_on.me m_on.ok (hr.mono (by decide)) m_on.bd .nil pass0 (pa_cons (pe_meth (pv 0) T.cl m_by.me m_by.ok (hr.mono (by decide)) m_by.bd .nil pass0 (pa_cons (pv 1) pa_nil)) pa_nil)) (pv 1) (nomark _))))), ?_⟩
    refine q_drop (ev_call (ea_cons (ev_var rfl) ea_nil) spv_need_day) fun H1 e1 => ?_
    refine s_ret (ev_is (ev_op (ev_meth (ev_var rfl) (e1 p _ h1) rfl (ea_cons (ev_meth (ev_var rfl) (e1 p _ h1) rfl (ea_cons (ev_var rfl) ea_nil) (spv_by (t.mono e1) g)) ea_nil) (spv_on (t.mono e1) g)) (ev_var rfl) (rv_eq rfl)) (congrArg V.bl (by simp))) fun H2 e2 => k H2 (e1.trans e2)
theorem ok_call {f f1 : Addr} {fd fd1 : FuncData} (F : Fun K "__call__" "Table.__call__" s_Table___call__ f fd) (T : Txt K mg C) (m_on : Met P w K mg base C "on" f1 fd1 ["self", "day"] 3 (sp_on K C)) : FnOk P w K mg base CX0 4 f fd ["self", "day"] (sp_on K C) := by
  refine F.ok sc_Table___call__ (fun vs H Q E h => ?_) (fun cdv A outer s H vs Q E hr h => ?_)
  · obtain ⟨p, ns, x, rfl, _⟩ := h
    rfl
  · obtain ⟨p, ns, x, rfl, t, g, k⟩ := h
    obtain ⟨dx, l, h1, h2⟩ := id t
    refine ⟨_, (pss_one (ps_ret (pe_meth (pv 0) T.cl m_on.me m_on.ok (hr.mono (by decide)) m_on.bd .nil pass0 (pa_cons (pv 1) pa_nil)))), ?_⟩
    exact s_ret (ev_meth (ev_var rfl) h1 rfl (ea_cons (ev_var rfl) ea_nil) (spv_on t g)) k
theorem ok_by {f f1 f2 f3 p2 : Addr} {fd fd1 fd2 fd3 : FuncData} (F : Fun K "by" "Table.by" s_Table_by f fd) (T : Txt K mg C) (c_need_day : Cal P w K mg base "need_day" f1 fd1 ["value"] 2 sp_need_day)
    (m_length : Prp P w K mg base C "length" p2 f2 fd2 ["self"] 1 (sp_length K C)) (c__many_ahead : Cal P w K mg base "_many_ahead" f3 fd3 ["days", "day"] 1 (sp_many K)) : FnOk P w K mg base CX0 3 f fd ["self", "day"] (sp_by K C) := by
  refine F.ok sc_Table_by (fun vs H Q E h => ?_) (fun cdv A outer s H vs Q E hr h => ?_)
  · obtain ⟨p, ns, x, rfl, _⟩ := h
    rfl
  · obtain ⟨p, ns, x, rfl, t, g, k⟩ := h
    obtain ⟨dx, l, h1, h2⟩ := id t
    have hp := g.posI
    have hm := g.most
    refine ⟨_, (pss_cons (ps_expr (pe_call c_need_day.ok (hr.mono (by decide)) (by rfl) c_need_day.mgx c_need_day.kp c_need_day.bd .nil pass0 (pa_cons (pv 1) pa_nil))) (pss_cons (ps_set (i := 2) sc_Table_by.nd rfl (Or.inl rfl) (pe_op op_fdivN (pe_op op_sub (pe_op op_sub (pv 1) (pe_ix (ixL (K := K) rfl) (pe_fldK (K := K) rfl (pv 0) rfl) pe_int (fun _ _ => rfl))) pe_int) (pe_prop (pv 0) T.cl m_length.pr m_length.ok (hr.mono (by decide)) m_length.bd .nil pass0 (by rfl)))) (pss_one (ps_ret (pe_op op_add (pe_call c__many_ahead.ok (hr.mono (by decide)) (by rfl) c__many_ahead.mgx c__many_ahead.kp c__many_ahead.bd .nil pass0 (pa_cons (pe_fldK (K := K) rfl (pv 0) rfl) (pa_cons (pe_op op_sub (pv 1) (pe_op op_mul (pv 2) (pe_prop (pv 0) T.cl m_length.pr m_length.ok (hr.mono (by decide)) m_length.bd .nil pass0 (by rfl)))) pa_nil))) (pe_op op_mul (pv 2) (pe_prop (pv 0) T.cl m_length.pr m_length.ok (hr.mono (by decide)) m_length.bd .nil pass0 (by rfl)))))))), ?_⟩
    refine q_drop (ev_call (ea_cons (ev_var rfl) ea_nil) spv_need_day) fun H1 e1 => ?_
    refine q_asg (v := .int ((x - ns.getD 0 0 - 1) / (ns.length : Int))) (ev_is (ev_op (ev_op (ev_op (ev_var rfl) (ev_op (ev_fld (ev_var rfl) (e1 p _ h1) T.cl T.nD lk_days) ev_c (rv_ixL (ex_l e1 h2) (atI_int (by decide) (by omega)))) rv_I0) ev_c rv_I0)
      (ev_prop (ev_var rfl) (e1 p _ h1) (spv_length (t.mono e1))) (rv_I ⟨by omega, by omega⟩)) (by rw [Int.fdiv_eq_ediv_of_nonneg _ (by omega)] <;> rfl)) fun H2 e2 => ?_
    have e3 := e1.trans e2
    obtain ⟨c, hc⟩ := cnt_ex g (x - (x - ns.getD 0 0 - 1) / (ns.length : Int) * (ns.length : Int))
    have eb : byL ns x = _ := byL_eq g (isBy_of_cnt g hc)
    rw [eb] at k
    exact s_ret (ev_op (ev_call (ea_cons (ev_fld (ev_var rfl) (e3 p _ h1) T.cl T.nD lk_days) (ea_cons (ev_op (ev_var rfl) (ev_op (ev_var rfl) (ev_prop (ev_var rfl) (e3 p _ h1) (spv_length (t.mono e3))) (rv_I (.inr ⟨by omega, by omega⟩))) rv_I0) ea_nil)) (spv_many (ex_l e3 h2) g hc))
      (ev_op (ev_var rfl) (ev_prop (ev_var rfl) (e3 p _ h1) (spv_length (t.mono e3))) (rv_I (.inr ⟨by omega, by omega⟩))) rv_I0) fun H3 e4 => k H3 (e3.trans e4)
end
end K11
end
section
set_option maxHeartbeats 4000000
namespace K11
open PySem L2 Evl G TM
def RetU (xs : List V) (H : Hp) (Q : VK) : Prop := ∀ p H2, H p = none → Ex H H2 → H2 p = some (.tup xs) → Q (.ref p) H2
def SpU (sp : Sp) (vs : List V) (H : Hp) (xs : List V) : Prop := ∀ H1, Ex H H1 → ∀ Q : VK, (∀ p H2, H1 p = none → Ex H1 H2 → H2 p = some (.tup xs) → Q (.ref p) H2) → ∀ E : XK, sp vs H1 Q E
def leadsL (ns : List Int) : List Int := (List.range ns.length).map fun (i : Nat) => ns.getD i 0 - (i : Int)
def IsMin (l : List Int) (m : Int) : Prop := m ∈ l ∧ ∀ y, y ∈ l → m ≤ y
def IsMax (l : List Int) (m : Int) : Prop := m ∈ l ∧ ∀ y, y ∈ l → y ≤ m
theorem isMin_ex : ∀ {l : List Int}, l ≠ [] → ∃ m, IsMin l m
  | [], h => absurd rfl h
  | [a], _ => ⟨a, by simp [IsMin]⟩
  | a :: b :: l, _ => by
    obtain ⟨m, h1, h2⟩ := isMin_ex (l := b :: l) (by simp)
    by_cases h : a ≤ m
    · exact ⟨a, List.mem_cons_self .., fun y hy => by
        rcases List.mem_cons.mp hy with rfl | hy
        · exact Int.le_refl _
        · exact Int.le_trans h (h2 y hy)⟩
    · exact ⟨m, List.mem_cons_of_mem _ h1, fun y hy => by
        rcases List.mem_cons.mp hy with rfl | hy
        · omega
        · exact h2 y hy⟩
theorem isMax_ex : ∀ {l : List Int}, l ≠ [] → ∃ m, IsMax l m
  | [], h => absurd rfl h
  | [a], _ => ⟨a, by simp [IsMax]⟩
  | a :: b :: l, _ => by
    obtain ⟨m, h1, h2⟩ := isMax_ex (l := b :: l) (by simp)
    by_cases h : m ≤ a
    · exact ⟨a, List.mem_cons_self .., fun y hy => by
        rcases List.mem_cons.mp hy with rfl | hy
        · exact Int.le_refl _
        · exact Int.le_trans (h2 y hy) h⟩
    · exact ⟨m, List.mem_cons_of_mem _ h1, fun y hy => by
        rcases List.mem_cons.mp hy with rfl | hy
        · omega
        · exact h2 y hy⟩
theorem leads_ne {ns : List Int} (g : Good ns) : leadsL ns ≠ [] := by
  intro h
  have h1 := congrArg List.length h
  have h2 := g.pos
  unfold leadsL at h1
  rw [List.length_map, List.length_range, List.length_nil] at h1
  omega
theorem leads_given {ns : List Int} : given ns.length (fun _ => true) (fun k => V.int (ns.getD k 0 - (k : Int))) = (leadsL ns).map V.int := by
  rw [given_all]
  unfold leadsL
  rw [List.map_map] <;> rfl
def fixL (ns : List Int) : List Int := ((List.range ns.length).filter fun (k : Nat) => decide (ns.getD k 0 = (k : Int))).map fun (k : Nat) => (k : Int)
def sp_leads (K : PySem.W.Frag) (C : Addr) : Sp := fun vs H Q _ => ∃ p ns m M, vs = [.ref p] ∧ Tab K C H p ns ∧ Good ns ∧ IsMin (leadsL ns) m ∧ IsMax (leadsL ns) M ∧ RetU [.int m, .int M] H Q
def meanG (t : Int) (n : Nat) : Int := ((Nat.gcd t.natAbs n : Nat) : Int)
def sp_mean (K : PySem.W.Frag) (C : Addr) : Sp := fun vs H Q _ => ∃ p ns, vs = [.ref p] ∧ Tab K C H p ns ∧ Good ns ∧ RetU [.int ((leadsL ns).sum.fdiv (meanG (leadsL ns).sum ns.length)), .int ((ns.length : Int).fdiv (meanG (leadsL ns).sum ns.length))] H Q
def sp_fixed (K : PySem.W.Frag) (C : Addr) : Sp := fun vs H Q _ => ∃ p ns, vs = [.ref p] ∧ Tab K C H p ns ∧ Good ns ∧ RetL ((fixL ns).map V.int) H Q
section
variable {K : PySem.W.Frag} {C p : Addr} {H : Hp} {ns : List Int} {x : Int}
theorem spu_leads {m M : Int} (t : Tab K C H p ns) (g : Good ns) (h1 : IsMin (leadsL ns) m) (h2 : IsMax (leadsL ns) M) : SpU (sp_leads K C) [.ref p] H [.int m, .int M] := fun H1 e Q q E => ⟨p, ns, m, M, rfl, t.mono e, g, h1, h2, q⟩
theorem spu_mean (t : Tab K C H p ns) (g : Good ns) : SpU (sp_mean K C) [.ref p] H [.int ((leadsL ns).sum.fdiv (meanG (leadsL ns).sum ns.length)), .int ((ns.length : Int).fdiv (meanG (leadsL ns).sum ns.length))] := fun H1 e Q q E => ⟨p, ns, rfl, t.mono e, g, q⟩
theorem spl_fixed (t : Tab K C H p ns) (g : Good ns) : SpL (sp_fixed K C) [.ref p] H ((fixL ns).map V.int) := fun H1 e Q q E => ⟨p, ns, rfl, t.mono e, g, q⟩
end
theorem meanG_pos {t : Int} {n : Nat} (h : 1 ≤ n) (h2 : n ≤ 600) : meanG t n ≠ 0 ∧ (meanG t n).natAbs < 1073741824 ∧ 0 < meanG t n := by
  unfold meanG
  have h1 := Nat.gcd_pos_of_pos_right t.natAbs (show 0 < n by omega)
  have h3 := Nat.gcd_le_right t.natAbs (show 0 < n by omega)
  omega
section
variable {P : Program} {w : World} {K : PySem.W.Frag} {mg : Str → Option Value} {base : Heap} {C : Addr}
theorem ok_answers {f f1 f2 f3 : Addr} {fd fd1 fd2 fd3 : FuncData} (F : Fun K "answers" "Table.answers" s_Table_answers f fd) (T : Txt K mg C) (c_need_day : Cal P w K mg base "need_day" f1 fd1 ["value"] 2 sp_need_day)
    (c_need_count : Cal P w K mg base "need_count" f2 fd2 ["value"] 3 sp_need_count) (m_on : Met P w K mg base C "on" f3 fd3 ["self", "day"] 3 (sp_on K C)) : FnOk P w K mg base CX0 4 f fd ["self", "day", "count"] (sp_answers K C) := by
  refine F.ok sc_Table_answers (fun vs H Q E h => ?_) (fun cdv A outer s H vs Q E hr h => ?_)
  · obtain ⟨p, ns, x, n, rfl, _⟩ := h
    rfl
  · obtain ⟨p, ns, x, n, rfl, t, g, hn, k⟩ := h
    obtain ⟨dx, l, h1, h2⟩ := id t
    obtain ⟨tk, cA⟩ := T.cA
    refine ⟨_, (pss_cons (ps_expr (pe_call c_need_day.ok (hr.mono (by decide)) (by rfl) c_need_day.mgx c_need_day.kp c_need_day.bd .nil pass0 (pa_cons (pv 1) pa_nil))) (pss_cons (ps_expr (pe_call c_need_count.ok (hr.mono (by decide)) (by rfl) c_need_count.mgx c_need_count.kp c_need_count.bd .nil pass0 (pa_cons (pv 2) pa_nil))) (pss_cons (ps_if (pt_cmpR op_gt (pv 2) (pe_con (pv 0) (by rfl)) (nomark _)) (pss_one ps_never) pss_nil) (pss_one (ps_ret (pe_lc (own := [("more", 3)]) (g := (gName 3)) (by rfl) sc_Table_answers.nd (pi_range1 (by rfl) T.b_range (pa_cons (pv 2) pa_nil)) (blkOk_by (own := [("more", 3)]) (N := ["self", "day", "count", "more"]) (sc := defScope s_Table_answers) (by decide +kernel)) (fun _ _ _ _ _ => (pg_name (i := 3) sc_Table_answers.nd rfl (Or.inl rfl))) (fun _ _ _ _ _ => pts_nil) (fun _ _ _ _ _ => (pe_meth (pv 0) T.cl m_on.me m_on.ok (hr.mono (by decide)) m_on.bd .nil pass0 (pa_cons (pe_op op_add (pv 1) (pv 3)) pa_nil))))))))), ?_⟩
    refine q_drop (ev_call (ea_cons (ev_var rfl) ea_nil) spv_need_day) fun H1 e1 => ?_
    refine q_drop (ev_call (ea_cons (ev_var rfl) ea_nil) (spv_need_count (by omega))) fun H2 e2 => ?_
    have e3 := e1.trans e2
    refine q_when (b := false) (et_test (ev_op (ev_var rfl) (ev_con (ev_var rfl) (e3 p _ h1) T.cl cA rfl) (rv_res rv_I0 (by simp; omega)))) (fun q => nomatch q) fun _ H3 e4 => ?_
    have e5 := e3.trans e4
    have eg : given ((n : Int).toNat) (fun _ => true) (fun i => V.int (onL ns (x + (i : Int)))) = (ansL ns x n).map V.int := by
      rw [given_all, Int.toNat_natCast]
      unfold ansL
      rw [List.map_map] <;> rfl
    have el := el_lcR1 (σ := start ["self", "day", "count", "more"] [.ref p, .int x, .int (n : Int)]) (H := H3) (vs := [3]) (j := 3) (ta := tCons (tVar 2) tNil) (t := tYes) (te := tMeth C "on" (sp_on K C) [] E0 (tVar 0) (tCons (tOp (rI0 fun i j => .int (i + j)) (tVar 1) (tVar 3)) tNil)) (fun _ => true) (fun i => V.int (onL ns (x + (i : Int)))) (ea_cons (ev_var rfl) ea_nil) (by omega) (fun _ => rfl) (fun _ _ _ _ => lc_yes)
      (fun i H4 e6 _ _ => ev_meth (ev_var rfl) ((e5.trans e6) p _ h1) rfl (ea_cons (ev_op (ev_var rfl) (ev_var rfl) rv_I0) ea_nil) (spv_on (t.mono (e5.trans e6)) g))
    rw [eg] at el
    exact s_retL el fun q H4 n4 e6 h4 => k q H4 (fresh_back e5 n4) (e5.trans e6) h4
theorem ok_leads {f f1 : Addr} {fd fd1 : FuncData} (F : Fun K "leads" "Table.leads" s_Table_leads f fd) (T : Txt K mg C) (m_asked_rows : Met P w K mg base C "asked_rows" f1 fd1 ["self"] 1 (sp_rows K C)) : FnOk P w K mg base CX0 2 f fd ["self"] (sp_leads K C) := by
  refine F.ok sc_Table_leads (fun vs H Q E h => ?_) (fun cdv A outer s H vs Q E hr h => ?_)
  · obtain ⟨p, ns, m, M, rfl, _⟩ := h
    rfl
  · obtain ⟨p, ns, m, M, rfl, t, g, hm, hM, k⟩ := h
    obtain ⟨dx, l, h1, h2⟩ := id t
    have hgm := g.most
    refine ⟨_, (pss_cons (ps_setLc (i := 1) (own := [("asked", 2), ("served", 3)]) (g := (gTup K 2 (gCons (gName 2) (gCons (gName 3) gNil)))) (by rfl) sc_Table_leads.nd rfl rfl (sw_true rfl rfl rfl (by decide +kernel)) (pi_list (pe_meth0 (pv 0) T.cl m_asked_rows.me m_asked_rows.ok (hr.mono (by decide)) m_asked_rows.bd .nil pass0)) (blkOk_by (own := [("asked", 2), ("served", 3)]) (N := ["self", "behind", "asked", "served"]) (sc := defScope s_Table_leads) (by decide +kernel)) (fun _ _ _ _ _ => (pg_tup (by rfl) (pgs_cons (pg_name (i := 2) sc_Table_leads.nd rfl (Or.inl rfl)) (pgs_cons (pg_name (i := 3) sc_Table_leads.nd rfl (Or.inl rfl)) pgs_nil)))) (fun _ _ _ _ _ => pts_nil) (fun _ _ _ _ _ => (pe_op op_sub (pv 3) (pv 2)))) (pss_one (ps_ret (pe_tup (pa_cons (pe_callB (minL (K := K) rfl rfl) (by rfl) T.b_min (by decide +kernel) (pa_cons (pv 1) pa_nil)) (pa_cons (pe_callB (maxL (K := K) rfl rfl) (by rfl) T.b_max (by decide +kernel) (pa_cons (pv 1) pa_nil)) pa_nil)))))), ?_⟩
    refine q_asgL (xs := (leadsL ns).map V.int) (by
      rw [← leads_given]
      have e0 : (ns.map V.int).length = ns.length := List.length_map ..
      rw [← e0]
      refine el_lcR (fun _ => true) (fun k => V.int (ns.getD k 0 - (k : Int))) (evr_meth (ev_var rfl) h1 rfl ea_nil (spr_rows t)) (by rw [e0]; omega) (fun _ _ => rfl) (fun _ _ _ _ _ => lc_yes) (fun i y H2 e2 hi _ => ?_)
      rw [e0] at *
      have hlt : i < ns.length := by have := (List.getElem?_eq_some_iff.mp hi).1; simpa using this
      rw [getI hlt] at hi
      cases hi
      exact ev_op (ev_var rfl) (ev_var rfl) rv_I0) fun q H1 _ e1 h3 => ?_
    exact s_retU (eu_tup (ea_cons (ev_cb (ea_cons (ev_var rfl) ea_nil) (rc_min (sq_of h3) hm.1 hm.2)) (ea_cons (ev_cb (ea_cons (ev_var rfl) ea_nil) (rc_max (sq_of h3) hM.1 hM.2)) ea_nil)) (by show 2 ≤ 100000; decide)) fun q H2 n2 e2 h4 => k q H2 (fresh_back e1 n2) (e1.trans e2) h4
theorem ok_mean {f f1 f2 p2 : Addr} {fd fd1 fd2 : FuncData} (F : Fun K "mean_lead" "Table.mean_lead" s_Table_mean_lead f fd) (T : Txt K mg C) (m_asked_rows : Met P w K mg base C "asked_rows" f1 fd1 ["self"] 1 (sp_rows K C))
    (m_length : Prp P w K mg base C "length" p2 f2 fd2 ["self"] 1 (sp_length K C)) : FnOk P w K mg base CX0 3 f fd ["self"] (sp_mean K C) := by
  refine F.ok sc_Table_mean_lead (fun vs H Q E h => ?_) (fun cdv A outer s H vs Q E hr h => ?_)
  · obtain ⟨p, ns, rfl, _⟩ := h
    rfl
  · obtain ⟨p, ns, rfl, t, g, k⟩ := h
    obtain ⟨dx, l, h1, h2⟩ := id t
    have hgm := g.most
    obtain ⟨g1, g2, g3⟩ := meanG_pos (t := (leadsL ns).sum) g.pos g.most
    refine ⟨_, (pss_cons (ps_set (i := 1) sc_Table_mean_lead.nd rfl (Or.inl rfl) (pe_callB (sumL (K := K) rfl rfl) (by rfl) T.b_sum (by decide +kernel) (pa_cons (pe_lc (own := [("asked", 3), ("served", 4)]) (g := (gTup K 2 (gCons (gName 3) (gCons (gName 4) gNil)))) (by rfl) sc_Table_mean_lead.nd (pi_list (pe_meth0 (pv 0) T.cl m_asked_rows.me m_asked_rows.ok (hr.mono (by decide)) m_asked_rows.bd .nil pass0)) (blkOk_by (own := [("asked", 3), ("served", 4)]) (N := ["self", "total", "shared", "asked", "served"]) (sc := defScope s_Table_mean_lead) (by decide +kernel)) (fun _ _ _ _ _ => (pg_tup (by rfl) (pgs_cons (pg_name (i := 3) sc_Table_mean_lead.nd rfl (Or.inl rfl)) (pgs_cons (pg_name (i := 4) sc_Table_mean_lead.nd rfl (Or.inl rfl)) pgs_nil)))) (fun _ _ _ _ _ => pts_nil) (fun _ _ _ _ _ => (pe_op op_sub (pv 4) (pv 3)))) pa_nil))) (pss_cons (ps_set (i := 2) sc_Table_mean_lead.nd rfl (Or.inl rfl) (pe_callBfun cr_gcd (by rfl) T.b_gcd (pa_cons (pv 1) (pa_cons (pe_prop (pv 0) T.cl m_length.pr m_length.ok (hr.mono (by decide)) m_length.bd .nil pass0 (by rfl)) pa_nil)))) (pss_one (ps_ret (pe_tup (pa_cons (pe_op op_fdivN (pv 1) (pv 2)) (pa_cons (pe_op op_fdivN (pe_prop (pv 0) T.cl m_length.pr m_length.ok (hr.mono (by decide)) m_length.bd .nil pass0 (by rfl)) (pv 2)) pa_nil))))))), ?_⟩
    refine q_asg (v := .int (leadsL ns).sum) (ev_cbL (xs := (leadsL ns).map V.int) (by
      rw [← leads_given]
      have e0 : (ns.map V.int).length = ns.length := List.length_map ..
      rw [← e0]
      refine el_lcR (fun _ => true) (fun k => V.int (ns.getD k 0 - (k : Int))) (evr_meth (ev_var rfl) h1 rfl ea_nil (spr_rows t)) (by rw [e0]; omega) (fun _ _ => rfl) (fun _ _ _ _ _ => lc_yes) (fun i y H2 e2 hi _ => ?_)
      rw [e0] at *
      have hlt : i < ns.length := by have := (List.getElem?_eq_some_iff.mp hi).1; simpa using this
      rw [getI hlt] at hi
      cases hi
      exact ev_op (ev_var rfl) (ev_var rfl) rv_I0) fun q H1 _ h3 => rc_sum (sq_of h3)) fun H1 e1 => ?_
    refine q_asg (v := .int (meanG (leadsL ns).sum ns.length)) (ev_cb (ea_cons (ev_var rfl) (ea_cons (ev_prop (ev_var rfl) (e1 p _ h1) (spv_length (t.mono e1))) ea_nil)) rc_gcd) fun H2 e2 => ?_
    have e3 := e1.trans e2
    exact s_retU (eu_tup (ea_cons (ev_op (ev_var rfl) (ev_var rfl) (rv_I ⟨g1, g2⟩)) (ea_cons (ev_op (ev_prop (ev_var rfl) (e3 p _ h1) (spv_length (t.mono e3))) (ev_var rfl) (rv_I ⟨g1, g2⟩)) ea_nil)) (by show 2 ≤ 100000; decide)) fun q H2 n2 e4 h4 => k q H2 (fresh_back e3 n2) (e3.trans e4) h4
theorem ok_fixed {f f1 : Addr} {fd fd1 : FuncData} (F : Fun K "fixed_days" "Table.fixed_days" s_Table_fixed_days f fd) (T : Txt K mg C) (m_asked_rows : Met P w K mg base C "asked_rows" f1 fd1 ["self"] 1 (sp_rows K C)) : FnOk P w K mg base CX0 2 f fd ["self"] (sp_fixed K C) := by
  refine F.ok sc_Table_fixed_days (fun vs H Q E h => ?_) (fun cdv A outer s H vs Q E hr h => ?_)
  · obtain ⟨p, ns, rfl, _⟩ := h
    rfl
  · obtain ⟨p, ns, rfl, t, g, k⟩ := h
    obtain ⟨dx, l, h1, h2⟩ := id t
    have hgm := g.most
    refine ⟨_, (pss_one (ps_ret (pe_lc (own := [("asked", 1), ("served", 2)]) (g := (gTup K 2 (gCons (gName 1) (gCons (gName 2) gNil)))) (by rfl) sc_Table_fixed_days.nd (pi_list (pe_meth0 (pv 0) T.cl m_asked_rows.me m_asked_rows.ok (hr.mono (by decide)) m_asked_rows.bd .nil pass0)) (blkOk_by (own := [("asked", 1), ("served", 2)]) (N := ["self", "asked", "served"]) (sc := defScope s_Table_fixed_days) (by decide +kernel)) (fun _ _ _ _ _ => (pg_tup (by rfl) (pgs_cons (pg_name (i := 1) sc_Table_fixed_days.nd rfl (Or.inl rfl)) (pgs_cons (pg_name (i := 2) sc_Table_fixed_days.nd rfl (Or.inl rfl)) pgs_nil)))) (fun _ _ _ _ _ => (pts_one (pt_cmpR op_eq (pv 1) (pv 2) (nomark _)))) (fun _ _ _ _ _ => (pv 1))))), ?_⟩
    refine s_retL (xs := (fixL ns).map V.int) (by
      have eg : (fixL ns).map V.int = given (ns.map V.int).length (fun k => decide (ns.getD k 0 = (k : Int))) (fun k => V.int (k : Int)) := by
        unfold fixL given
        rw [List.map_map, List.length_map] <;> rfl
      rw [eg]
      have e0 : (ns.map V.int).length = ns.length := List.length_map ..
      refine el_lcR (fun k => decide (ns.getD k 0 = (k : Int))) (fun k => V.int (k : Int)) (evr_meth (ev_var rfl) h1 rfl ea_nil (spr_rows t)) (by rw [e0]; omega) (fun _ _ => rfl) (fun i y H2 e2 hi => ?_) (fun i y H2 e2 hi _ => ev_var rfl)
      have hlt : i < ns.length := by have := (List.getElem?_eq_some_iff.mp hi).1; simpa using this
      rw [getI hlt] at hi
      cases hi
      refine et_is (et_test (ev_op (ev_var rfl) (ev_var rfl) (rv_eq rfl))) ?_
      by_cases q : ns.getD i 0 = (i : Int)
      · rw [decide_eq_true q, decide_eq_true (by rw [q])]
      · rw [decide_eq_false q, decide_eq_false (fun z => q (by injection z with z; exact z.symm))]) fun q H1 n1 e1 h3 => k q H1 n1 e1 h3
end
end K11
end
section
set_option maxHeartbeats 4000000
namespace K11
open PySem L2 Evl G TM
/-! ### the pot -/
def wo (H : Hp) (p : Addr) : Hp := fun b => if b = p then none else H b
theorem wo_ne {H : Hp} {p b : Addr} (h : b ≠ p) : wo H p b = H b := by unfold wo; rw [if_neg h]
theorem wo_at {H : Hp} {p : Addr} : wo H p p = none := by unfold wo; rw [if_pos rfl]
theorem wo_ex {H : Hp} {p : Addr} : Ex (wo H p) H := fun b o h => by
  by_cases hb : b = p
  · subst hb; rw [wo_at] at h; cases h
  · rwa [wo_ne hb] at h
theorem wo_mono {H H' : Hp} {p : Addr} (e : Ex H H') : Ex (wo H p) (wo H' p) := fun b o h => by
  by_cases hb : b = p
  · subst hb; rw [wo_at] at h; cases h
  · rw [wo_ne hb] at h ⊢; exact e b o h
theorem wo_sub {H H' : Hp} {p : Addr} (e : Ex (wo H p) H') : Ex (wo H p) (wo H' p) := fun b o h => by
  by_cases hb : b = p
  · subst hb; rw [wo_at] at h; cases h
  · have := e b o h
    rwa [wo_ne hb]
theorem wo_upd {H : Hp} {p : Addr} {o : HO} : Ex (wo H p) (upd H p o) := fun b u h => by
  by_cases hb : b = p
  · subst hb; rw [wo_at] at h; cases h
  · rw [upd_ne hb]; rwa [wo_ne hb] at h
theorem wo_fresh {H H' : Hp} {p q : Addr} {o : HO} (hp : H p = some o) (e : Ex (wo H p) H') (h : H' q = none) (hp' : ∃ o, H' p = some o) : H q = none := by
  by_cases hq : q = p
  · subst hq; obtain ⟨o, ho⟩ := hp'; rw [ho] at h; cases h
  · cases hh : H q with
    | none => rfl
    | some u => have := e q u (by rw [wo_ne hq]; exact hh); rw [h] at this; cases this
def PotOk (a b : Int) : Prop := 0 ≤ a ∧ 0 ≤ b ∧ b < 4294967296
def PotAt (H : Hp) (p : Addr) : Prop := ∃ a b, PotOk a b ∧ H p = some (.lst [.int a, .int b])
def sp_pot (K : PySem.W.Frag) : Sp := fun vs H Q _ => ∃ (s : Addr) (ns : List Int) (k : Int), vs = [.ref s, .int k] ∧ SqL K H s (ns.map V.int) ∧ 0 ≤ k ∧ k ≤ 100 ∧ ∀ p H2, H p = none → Ex H H2 → PotAt H2 p → Q (.ref p) H2
def sp_draw : Sp := fun vs H Q _ => ∃ p n, vs = [.ref p, .int n] ∧ PotAt H p ∧ 0 < n ∧ n < 1073741824 ∧ ∀ d H2, 0 ≤ d → d < n → Ex (wo H p) H2 → PotAt H2 p → Q (.int d) H2
def sp_pick (K : PySem.W.Frag) : Sp := fun vs H Q _ => ∃ (p s : Addr) (xs : List V), vs = [.ref p, .ref s] ∧ PotAt H p ∧ SqL K (wo H p) s xs ∧ 0 < xs.length ∧ xs.length ≤ 1000 ∧ ∀ (i : Nat) (v : V) (H2 : Hp), xs[i]? = some v → Ex (wo H p) H2 → PotAt H2 p → Q v H2
theorem fmod_pos {a b : Int} (h : 0 < b) : 0 ≤ a.fmod b ∧ a.fmod b < b := by
  rw [Int.fmod_eq_emod_of_nonneg _ (by omega)]
  exact ⟨Int.emod_nonneg _ (by omega), Int.emod_lt_of_pos _ h⟩
section
variable {P : Program} {w : World} {K : PySem.W.Frag} {mg : Str → Option Value} {base : Heap} {C : Addr}
theorem ok_pot {f : Addr} {fd : FuncData} (F : Fun K "_law_pot" "_law_pot" s__law_pot f fd) (T : Txt K mg C) : FnOk P w K mg base CX0 1 f fd ["_law_script", "_law_k"] (sp_pot K) := by
  refine F.ok sc__law_pot (fun vs H Q E h => ?_) (fun cdv A outer s H vs Q E hr h => ?_)
  · obtain ⟨s, ns, k, rfl, _⟩ := h
    rfl
  · obtain ⟨s, ns, k, rfl, hs, hk0, hk1, kq⟩ := h
    refine ⟨_, (pss_cons (ps_set (i := 2) sc__law_pot.nd rfl (Or.inl rfl) (pe_ifExp (pt_cmpR op_lt (pv 1) (pe_callB (lenS (K := K) rfl) (by rfl) T.b_len (by decide +kernel) (pa_cons (pv 0) pa_nil)) (nomark _)) (pe_callB call_abs (by rfl) T.b_abs (by decide +kernel) (pa_cons (pe_ix (ixL (K := K) rfl) (pv 0) (pv 1) (fun _ _ => rfl)) pa_nil)) (pe_op op_add (pe_op op_mul pe_int (pv 1)) pe_int))) (pss_one (ps_ret (pe_lst (pa_cons (pe_callB (call_max2 rfl) (by rfl) T.b_max (by decide +kernel) (pa_cons pe_int (pa_cons (pe_op op_sub (pv 2) (pe_op op_pow pe_int pe_int)) pa_nil))) (pa_cons (pe_op op_add (pe_op op_modN (pe_callTy call_int1 (by rfl) T.b_int (by decide +kernel) (pa_cons (pe_op op_add (pe_op op_add (pe_op op_mul (pe_op op_modN (pe_callTy call_int1 (by rfl) T.b_int (by decide +kernel) (pa_cons (pv 2) pa_nil)) pe_int) pe_int) (pe_op op_mul pe_int (pv 1))) pe_int) pa_nil)) pe_int) pe_int) pa_nil)))))), ?_⟩
    have hcell : ∃ c : Int, 0 ≤ c ∧ Ev (tIf (tTest (tOp (rI0 fun i j => .bl (decide (i < j))) (tVar 1) (tCB (fun xs H Q => ∃ p ys, xs = [.ref p] ∧ (SqL K H p ys ∨ SqT K H p ys) ∧ Q (.int (ys.length : Int)) H) (tCons (tVar 0) tNil))))
        (tCB (fun xs H Q => ∃ i, xs = [.int i] ∧ Q (.int (if i < 0 then -i else i)) H) (tCons (tOp (rIxL K) (tVar 0) (tVar 1)) tNil)) (tOp (rI0 fun i j => .int (i + j)) (tOp (rI CMul fun i j => .int (i * j)) (tC (.int 173)) (tVar 1)) (tC (.int 71)))) (start ["_law_script", "_law_k", "_law_cell"] [.ref s, .int k]) H (.int c) := by
      by_cases hlt : k < (ns.length : Int)
      · refine ⟨if ns.getD k.toNat 0 < 0 then - ns.getD k.toNat 0 else ns.getD k.toNat 0, by split <;> omega, ?_⟩
        exact ev_if (b := true) (et_test (ev_op (ev_var rfl) (ev_cb (ea_cons (ev_var rfl) ea_nil) (rc_len (.inl hs) (by rw [List.length_map]))) (rv_res rv_I0 (congrArg V.bl (decide_eq_true hlt))))) (fun _ => ev_cb (ea_cons (ev_op (ev_var rfl) (ev_var rfl) (rv_ixL hs (atI_int hk0 hlt))) ea_nil) rc_abs) (fun q => nomatch q)
      · refine ⟨173 * k + 71, by omega, ?_⟩
        exact ev_if (b := false) (et_test (ev_op (ev_var rfl) (ev_cb (ea_cons (ev_var rfl) ea_nil) (rc_len (.inl hs) (by rw [List.length_map]))) (rv_res rv_I0 (congrArg V.bl (decide_eq_false hlt))))) (fun q => nomatch q) (fun _ => ev_op (ev_op ev_c (ev_var rfl) (rv_I (.inl ⟨by decide, by decide⟩))) ev_c rv_I0)
    obtain ⟨c, hc, ec⟩ := hcell
    refine q_asg ec fun H1 e1 => ?_
    have m1 := fmod_pos (a := c) (show (0 : Int) < 2147483549 by decide)
    refine s_retL (el_lst (ea_cons (ev_cb (ea_cons ev_c (ea_cons (ev_op (ev_var rfl) (ev_op ev_c ev_c (rv_I ⟨by decide, by decide, by decide⟩)) rv_I0) ea_nil)) rc_max2) (ea_cons (ev_op (ev_op (ev_cb (ea_cons (ev_op (ev_op (ev_op (ev_op (ev_cb (ea_cons (ev_var rfl) ea_nil) rc_int1) ev_c (rv_I (by decide))) ev_c (rv_I (.inr ⟨by decide, by decide⟩))) (ev_op ev_c (ev_var rfl) (rv_I (.inl ⟨by decide, by decide⟩))) rv_I0) ev_c rv_I0) ea_nil) rc_int1) ev_c (rv_I (by decide))) ev_c rv_I0) ea_nil)) (by show 2 ≤ 100000; decide)) fun p H2 hp e2 h2 => ?_
    refine kq p H2 (fresh_back e1 hp) (e1.trans e2) ⟨_, _, ⟨?_, ?_, ?_⟩, h2⟩
    · split <;> omega
    · have := fmod_pos (a := c.fmod 2147483549 * 40009 + 6011 * k + 37) (show (0 : Int) < 2147483563 by decide)
      omega
    · have := fmod_pos (a := c.fmod 2147483549 * 40009 + 6011 * k + 37) (show (0 : Int) < 2147483563 by decide)
      omega
theorem ok_draw {f : Addr} {fd : FuncData} (F : Fun K "_law_draw" "_law_draw" s__law_draw f fd) (T : Txt K mg C) : FnOk P w K mg base CX0 1 f fd ["_law_pot_here", "_law_size"] sp_draw := by
  refine F.ok sc__law_draw (fun vs H Q E h => ?_) (fun cdv A outer s H vs Q E hr h => ?_)
  · obtain ⟨p, n, rfl, _⟩ := h
    rfl
  · obtain ⟨p, n, rfl, ⟨a, b, ⟨a0, b0, b1⟩, hp⟩, n0, n1, k⟩ := h
    have hq : SqL K H p [.int a, .int b] := sq_of hp
    refine ⟨_, (pss_cons (ps_if (pt_cmpR op_gt (pe_ix (ixL (K := K) rfl) (pv 0) pe_int (fun _ _ => rfl)) pe_int (nomark _)) (pss_cons (ps_asg (pe_callB call_divmod (by rfl) T.b_divmod (by decide +kernel) (pa_cons (pe_ix (ixL (K := K) rfl) (pv 0) pe_int (fun _ _ => rfl)) (pa_cons (pv 1) pa_nil))) (pg_tup (by rfl) (pgs_cons (pg_sub (pv 0) pe_int set_list) (pgs_cons (pg_name (i := 2) sc__law_draw.nd rfl (Or.inl rfl)) pgs_nil)))) (pss_one (ps_ret (pv 2)))) pss_nil) (pss_cons (ps_asg (pe_op op_modN (pe_callTy call_int1 (by rfl) T.b_int (by decide +kernel) (pa_cons (pe_op op_add (pe_op op_mul (pe_ix (ixL (K := K) rfl) (pv 0) pe_int (fun _ _ => rfl)) pe_int) pe_int) pa_nil)) pe_int) (pg_sub (pv 0) pe_int set_list)) (pss_one (ps_ret (pe_op op_modN (pe_callTy call_int1 (by rfl) T.b_int (by decide +kernel) (pa_cons (pe_op op_fdivN (pe_op op_modN (pe_callTy call_int1 (by rfl) T.b_int (by decide +kernel) (pa_cons (pe_op op_mul (pe_ix (ixL (K := K) rfl) (pv 0) pe_int (fun _ _ => rfl)) (pe_ix (ixL (K := K) rfl) (pv 0) pe_int (fun _ _ => rfl))) pa_nil)) pe_int) pe_int) pa_nil)) (pv 1)))))), ?_⟩
    refine q_when (et_test (ev_op (ev_op (ev_var rfl) ev_c (rv_ixL (v := .int a) hq rfl)) ev_c rv_I0)) (fun hb H1 e1 => ?_) (fun hb H1 e1 => ?_)
    · have ha : 0 < a := of_decide_eq_true hb
      refine q_asgG (eu_divmod (ev_op (ev_var rfl) ev_c (rv_ixL (v := .int a) (ex_l e1 hq) rfl)) (ev_var rfl) n0 n1) fun u H2 hu e2 h2 => ?_
      have e3 := e1.trans e2
      have hp2 := e3 p _ hp
      refine ⟨u, _, rfl, st_of h2, rfl, _, _, rfl, .ref p, rfl, ⟨p, [.int a, .int b], 0, 0, rfl, rfl, hp2, rfl, ?_⟩⟩
      refine ⟨_, _, rfl, rfl, ?_⟩
      refine s_ret (ev_var rfl) fun H3 e4 => ?_
      refine k _ H3 (Int.emod_nonneg _ (by omega)) (Int.emod_lt_of_pos _ n0) ((wo_mono e3).trans (wo_upd.trans e4)) ⟨a / n, b, ⟨Int.ediv_nonneg a0 (by omega), b0, b1⟩, e4 p _ upd_same⟩
    · have hq1 := ex_l e1 hq
      have m1 := fmod_pos (a := b * 39373 + 30011) (show (0 : Int) < 2147483563 by decide)
      refine q_setL (xs := [.int a, .int b]) (j := 1) (v := .int ((b * 39373 + 30011).fmod 2147483563)) (e1 p _ hp) (ev_op (ev_cb (ea_cons (ev_op (ev_op (ev_op (ev_var rfl) ev_c (rv_ixL (v := .int b) hq1 rfl)) ev_c (rv_I (.inr ⟨by decide, by decide⟩))) ev_c rv_I0) ea_nil) rc_int1) ev_c (rv_I (by decide))) (ev_var rfl) ev_c (by show 1 < 2; decide) fun H2 e2 => ?_
      generalize hb' : (b * 39373 + 30011).fmod 2147483563 = b' at m1 ⊢
      have hp3 : SqL K (upd H2 p (.lst ([.int a, .int b].set 1 (.int b')))) p [.int a, .int b'] := sq_of upd_same
      have m2 := fmod_pos (a := ((b' * b').fmod 2147483549).fdiv 23) n0
      refine s_ret (ev_op (ev_cb (ea_cons (ev_op (ev_op (ev_cb (ea_cons (ev_op (ev_op (ev_var rfl) ev_c (rv_ixL (v := .int b') hp3 rfl)) (ev_op (ev_var rfl) ev_c (rv_ixL (v := .int b') hp3 rfl)) (rv_I (.inl ⟨by omega, by omega⟩))) ea_nil) rc_int1) ev_c (rv_I (by decide))) ev_c (rv_I ⟨by decide, by decide⟩)) ea_nil) rc_int1) (ev_var rfl) (rv_I (by omega))) fun H3 e3 => ?_
      exact k _ H3 m2.1 m2.2 ((wo_mono (e1.trans e2)).trans (wo_upd.trans e3)) ⟨a, b', ⟨a0, m1.1, by omega⟩, e3 p _ upd_same⟩
theorem ok_pick {f f1 : Addr} {fd fd1 : FuncData} (F : Fun K "_law_pick" "_law_pick" s__law_pick f fd) (T : Txt K mg C) (c__law_draw : Cal P w K mg base "_law_draw" f1 fd1 ["_law_pot_here", "_law_size"] 1 sp_draw) : FnOk P w K mg base CX0 2 f fd ["_law_pot_here", "_law_some"] (sp_pick K) := by
  refine F.ok sc__law_pick (fun vs H Q E h => ?_) (fun cdv A outer s H vs Q E hr h => ?_)
  · obtain ⟨p, s, xs, rfl, _⟩ := h
    rfl
  · obtain ⟨p, l, xs, rfl, hp, hs, h0, h1, k⟩ := h
    refine ⟨_, (pss_one (ps_ret (pe_ix (ixL (K := K) rfl) (pv 1) (pe_call c__law_draw.ok (hr.mono (by decide)) (by rfl) c__law_draw.mgx c__law_draw.kp c__law_draw.bd .nil pass0 (pa_cons (pv 0) (pa_cons (pe_callB (lenS (K := K) rfl) (by rfl) T.b_len (by decide +kernel) (pa_cons (pv 1) pa_nil)) pa_nil))) (fun _ _ => rfl)))), ?_⟩
    refine ⟨_, rfl, (ea_cons (ev_var rfl) (ea_cons (ev_cb (ea_cons (ev_var rfl) ea_nil) (rc_len (.inl (ex_l wo_ex hs)) rfl)) ea_nil)) H (Ex.refl H) _ fun H1 e1 => ?_⟩
    have hp1 : PotAt H1 p := by obtain ⟨a, b, h, q⟩ := hp; exact ⟨a, b, h, e1 p _ q⟩
    refine ⟨p, (xs.length : Int), rfl, hp1, by omega, by omega, fun d H2 d0 d1 e2 hp2 => ?_⟩
    obtain ⟨i, rfl⟩ : ∃ i : Nat, d = (i : Int) := ⟨d.toNat, by omega⟩
    have hi : i < xs.length := by omega
    have e3 : Ex (wo H p) H2 := (wo_mono e1).trans e2
    exact ⟨l, xs, (i : Int), xs[i], rfl, rfl, ex_l e3 hs, atI_nat (List.getElem?_eq_getElem hi), k i _ H2 (List.getElem?_eq_getElem hi) e3 hp2⟩
end
end K11
end
section
set_option maxHeartbeats 4000000
namespace K11
open PySem L2 Evl G TM
section
variable {K : PySem.W.Frag} {σ : L2.St} {H : Hp} {p : Addr} {i : Nat} {tA : TA} {tn : TE} {Q : VK} {E : XK}
theorem PotAt.mono {H' : Hp} (h : PotAt H p) (e : Ex H H') : PotAt H' p := by obtain ⟨a, b, q, r⟩ := h; exact ⟨a, b, q, e p _ r⟩
theorem PotAt.some (h : PotAt H p) : ∃ o, H p = some o := by obtain ⟨a, b, q, r⟩ := h; exact ⟨_, r⟩
theorem pickC {xs : List V} (hp : PotAt H p) (hv : σ[i]? = some (some (.ref p))) (ha : EvA tA σ (wo H p) xs) (h0 : 0 < xs.length) (h1 : xs.length ≤ 1000) (k : ∀ (j : Nat) (v : V) (H2 : Hp), xs[j]? = some v → Ex (wo H p) H2 → PotAt H2 p → Q v H2) :
    tCall (sp_pick K) [] E (tCons (tVar i) (tCons (tLst tA) tNil)) σ H Q := ⟨.ref p, hv, ha H wo_ex _ fun H1 e1 => ⟨sz_of (by omega), fun s hs => by
      have hp1 := hp.mono e1
      obtain ⟨o, ho⟩ := hp1.some
      have hne : s ≠ p := (ne_of_none ho hs).symm
      exact ⟨p, s, xs, rfl, hp1.mono (Ex.new hs), sq_of (by rw [wo_ne hne]; exact upd_same), h0, h1, fun j v H2 hj e2 h2 => k j v H2 hj ((wo_mono (e1.trans (Ex.new hs))).trans e2) h2⟩⟩⟩
theorem drawC {n : Int} (hp : PotAt H p) (hv : σ[i]? = some (some (.ref p))) (hn : Ev tn σ (wo H p) (.int n)) (h0 : 0 < n) (h1 : n < 1073741824) (k : ∀ d H2, 0 ≤ d → d < n → Ex (wo H p) H2 → PotAt H2 p → Q (.int d) H2) :
    tCall sp_draw [] E (tCons (tVar i) (tCons tn tNil)) σ H Q := ⟨.ref p, hv, hn H wo_ex _ fun H1 e1 => ⟨p, n, rfl, hp.mono e1, h0, h1, fun d H2 d0 d1 e2 h2 => k d H2 d0 d1 ((wo_mono e1).trans e2) h2⟩⟩
theorem q_parL {D : Ends} {tz : TS} {i j : Nat} {ta tb : TE} {xs : List V} {w : V} (h : EvL ta σ H xs) (hb : ∀ H1, Ex H H1 → Ev tb σ H1 w) (k : ∀ p H1, H p = none → Ex H H1 → H1 p = some (.lst xs) → tz D ((σ.set i (some (.ref p))).set j (some w)) H1) :
    tSeq (tPar i j (tCons ta (tCons tb tNil))) tz D σ H := h H (Ex.refl H) _ fun p H1 hp e1 h1 => (hb H1 e1) H1 (Ex.refl _) _ fun H2 e2 => ⟨_, _, rfl, k p H2 hp (e1.trans e2) (e2 p _ h1)⟩
end
/-- rising days, from first on, at most so many days later -/
structure Rise (ns : List Int) (f : Int) (d : Int) : Prop where
  pos : 1 ≤ ns.length
  fst : ns.getD 0 0 = f
  up : ∀ i j : Nat, i ≤ j → j < ns.length → ns.getD i 0 ≤ ns.getD j 0
  last : ns.getD (ns.length - 1) 0 - f = d
theorem rise_one (f : Int) : Rise [f] f 0 := ⟨by simp, by simp, fun i j h1 h2 => by
  have : j = 0 := by simpa using h2
  subst this
  have : i = 0 := by omega
  subst this
  exact Int.le_refl _, by simp⟩
theorem getD_app1 {ns : List Int} {v : Int} {i : Nat} (h : i < ns.length) : (ns ++ [v]).getD i 0 = ns.getD i 0 := by
  rw [List.getD_eq_getElem?_getD, List.getElem?_append_left h, ← List.getD_eq_getElem?_getD]
theorem getD_app2 {ns : List Int} {v : Int} : (ns ++ [v]).getD ns.length 0 = v := by
  rw [List.getD_eq_getElem?_getD, List.getElem?_append_right (Nat.le_refl _)]
  simp
theorem rise_app {ns : List Int} {f d s : Int} (r : Rise ns f d) (hs : 0 ≤ s) : Rise (ns ++ [ns.getD (ns.length - 1) 0 + s]) f (d + s) := by
  have hp := r.pos
  refine ⟨by simp, by rw [getD_app1 (by omega)]; exact r.fst, fun i j h1 h2 => ?_, ?_⟩
  · rw [List.length_append, List.length_singleton] at h2
    by_cases hj : j < ns.length
    · rw [getD_app1 hj, getD_app1 (by omega)]
      exact r.up i j h1 hj
    · have e : j = ns.length := by omega
      subst e
      rw [getD_app2]
      by_cases hi : i < ns.length
      · rw [getD_app1 hi]
        have := r.up i (ns.length - 1) (by omega) (by omega)
        omega
      · have e : i = ns.length := by omega
        subst e
        rw [getD_app2]
        omega
  · rw [List.length_append, List.length_singleton, Nat.add_sub_cancel, getD_app2]
    have := r.last
    omega
theorem rise_good {ns : List Int} {f d : Int} (r : Rise ns f d) (h : ns.length ≤ 600) (hd : d ≤ (ns.length : Int)) : Good ns := ⟨r.pos, h, r.up, by have := r.last; have := r.fst; omega⟩
theorem rise_bd {ns : List Int} {f d : Int} (r : Rise ns f d) {i : Nat} (h : i < ns.length) : f ≤ ns.getD i 0 ∧ ns.getD i 0 ≤ f + d := by
  have h1 := r.up 0 i (by omega) h
  have h2 := r.up i (ns.length - 1) (by omega) (by have := r.pos; omega)
  have := r.fst
  have := r.last
  omega
def sp_ldays : Sp := fun vs H Q _ => ∃ (p : Addr) (n : Nat) (f : Int), vs = [.ref p, .int (n : Int), .int f] ∧ PotAt H p ∧ 1 ≤ n ∧ n ≤ 600 ∧ ∀ (l : Addr) (ns : List Int) (H2 : Hp), ns.length = n → Good ns → ns.getD 0 0 = f → (∀ i, i < n → f ≤ ns.getD i 0 ∧ ns.getD i 0 ≤ f + (n : Int)) → H l = none → Ex (wo H p) H2 → H2 l = some (.lst (ns.map V.int)) → PotAt H2 p → Q (.ref l) H2
def sp_lon (K : PySem.W.Frag) : Sp := fun vs H Q _ => ∃ (l : Addr) (ns : List Int) (x : Int), vs = [.ref l, .int x] ∧ SqL K H l (ns.map V.int) ∧ Good ns ∧ RetV (.int (onL ns x)) H Q
def sp_lby (K : PySem.W.Frag) : Sp := fun vs H Q _ => ∃ (l : Addr) (ns : List Int) (x : Int), vs = [.ref l, .int x] ∧ SqL K H l (ns.map V.int) ∧ Good ns ∧ RetV (.int (byL ns x)) H Q
def sp_ltil (K : PySem.W.Frag) : Sp := fun vs H Q _ => ∃ (l : Addr) (ns : List Int) (x : Int), vs = [.ref l, .int x] ∧ SqL K H l (ns.map V.int) ∧ Good ns ∧ RetV (.int (byL ns (x + 1) - 1)) H Q
def sp_low : Sp := fun vs H Q _ => ∃ (t : Int) (n : Nat), vs = [.int t, .int (n : Int)] ∧ 1 ≤ n ∧ n ≤ 600 ∧ RetU [.int (t.fdiv (meanG t n)), .int ((n : Int).fdiv (meanG t n))] H Q
section
variable {K : PySem.W.Frag} {l : Addr} {H : Hp} {ns : List Int} {x : Int}
theorem spv_lon (h : SqL K H l (ns.map V.int)) (g : Good ns) : SpV (sp_lon K) ([.ref l, .int x] ++ []) H (.int (onL ns x)) := fun H1 e Q q E => ⟨l, ns, x, rfl, ex_l e h, g, q⟩
theorem spv_lby (h : SqL K H l (ns.map V.int)) (g : Good ns) : SpV (sp_lby K) ([.ref l, .int x] ++ []) H (.int (byL ns x)) := fun H1 e Q q E => ⟨l, ns, x, rfl, ex_l e h, g, q⟩
theorem spv_ltil (h : SqL K H l (ns.map V.int)) (g : Good ns) : SpV (sp_ltil K) ([.ref l, .int x] ++ []) H (.int (byL ns (x + 1) - 1)) := fun H1 e Q q E => ⟨l, ns, x, rfl, ex_l e h, g, q⟩
theorem spu_low {t : Int} {n : Nat} (h1 : 1 ≤ n) (h2 : n ≤ 600) : SpU sp_low ([.int t, .int (n : Int)] ++ []) H [.int (t.fdiv (meanG t n)), .int ((n : Int).fdiv (meanG t n))] := fun H1 e Q q E => ⟨t, n, rfl, h1, h2, q⟩
end
section
variable {P : Program} {w : World} {K : PySem.W.Frag} {mg : Str → Option Value} {base : Heap} {C : Addr}
theorem ok_ldays {f f1 : Addr} {fd fd1 : FuncData} (F : Fun K "_law_days" "_law_days" s__law_days f fd) (T : Txt K mg C) (c__law_pick : Cal P w K mg base "_law_pick" f1 fd1 ["_law_pot_here", "_law_some"] 2 (sp_pick K)) : FnOk P w K mg base CX0 3 f fd ["_law_pot_here", "_law_length", "_law_first"] sp_ldays := by
  refine F.ok sc__law_days (fun vs H Q E h => ?_) (fun cdv A outer s H vs Q E hr h => ?_)
  · obtain ⟨p, n, x, rfl, _⟩ := h
    rfl
  · obtain ⟨p, n, x, rfl, hp, n0, n1, k⟩ := h
    refine ⟨_, (pss_cons (ps_par (i := 3) (j := 4) (by rfl) sc__law_days.nd rfl rfl (by decide) rfl rfl (pa_cons (pe_lst (pa_cons (pv 2) pa_nil)) (pa_cons (pv 1) pa_nil)) (by rfl)) (pss_cons (ps_for PassesOwn.never rfl (pi_range1 (by rfl) T.b_range (pa_cons (pe_op op_sub (pv 1) pe_int) pa_nil)) (pg_name (i := 5) sc__law_days.nd rfl (Or.inl rfl)) (pss_cons (ps_set (i := 6) sc__law_days.nd rfl (Or.inl rfl) (pe_callB (call_min2 rfl) (by rfl) T.b_min (by decide +kernel) (pa_cons (pv 4) (pa_cons (pe_call c__law_pick.ok (hr.mono (by decide)) (by rfl) c__law_pick.mgx c__law_pick.kp c__law_pick.bd .nil pass0 (pa_cons (pv 0) (pa_cons (pe_lst (pa_cons pe_int (pa_cons pe_int (pa_cons pe_int (pa_cons pe_int (pa_cons pe_int (pa_cons pe_int (pa_cons (pv 1) pa_nil)))))))) pa_nil))) pa_nil)))) (pss_cons (ps_expr (pe_bm PySem.F.plainAttrs_list PySem.F.slot_list_append PySem.F.type_list_append mt_append (pv 3) (pa_cons (pe_op op_add (pe_ix (ixL (K := K) rfl) (pv 3) (pe_un un_neg pe_int) (fun _ _ => rfl)) (pv 6)) pa_nil))) (pss_one (ps_set (i := 4) sc__law_days.nd rfl (Or.inl rfl) (pe_op op_sub (pv 4) (pv 6))))))) (pss_one (ps_ret (pv 3))))), ?_⟩
    refine q_parL (xs := [.int x]) (w := .int (n : Int)) (el_lst (ea_cons (ev_var rfl) ea_nil) (by show 1 ≤ 100000; decide)) (fun _ _ => ev_var rfl) fun l H1 hl e1 h1 => ?_
    refine q_forR1 (n := (n : Int) - 1) (ea_cons (ev_op (ev_var rfl) ev_c rv_I0) ea_nil) (by omega) (fun i σ' H' => ∃ (ns : List Int) (d : Int) (o1 o2 : Option V), σ' = [some (.ref p), some (.int (n : Int)), some (.int x), some (.ref l), some (.int ((n : Int) - d)), o1, o2] ∧
      ns.length = i + 1 ∧ Rise ns x d ∧ 0 ≤ d ∧ d ≤ (n : Int) ∧ Ex (wo H p) H' ∧ H' l = some (.lst (ns.map V.int)) ∧ PotAt H' p) (fun H2 e2 => ?_) (fun i σ' H' hi hpv => ?_) (fun σ' H' hpv => ?_)
    · refine ⟨[x], 0, none, none, ?_, rfl, rise_one x, by omega, by omega, wo_ex.trans (e1.trans e2), e2 l _ h1, hp.mono (e1.trans e2)⟩
      rw [Int.sub_zero] <;> rfl
    · obtain ⟨ns, d, o1, o2, rfl, hlen, r, d0, dn, e3, h3, hp3⟩ := hpv
      obtain ⟨o, ho⟩ := hp.some
      have hlp : l ≠ p := (ne_of_none ho hl).symm
      have hwl : wo H p l = none := by rw [wo_ne hlp]; exact hl
      refine ⟨_, rfl, pickC (xs := ([0, 0, 1, 1, 2, 3, (n : Int)] : List Int).map V.int) hp3 rfl (ea_cons ev_c (ea_cons ev_c (ea_cons ev_c (ea_cons ev_c (ea_cons ev_c (ea_cons ev_c (ea_cons (ev_var rfl) ea_nil))))))) (by show 0 < 7; decide) (by show 7 ≤ 1000; decide) fun j v H4 hj e4 hp4 => ?_⟩
      obtain ⟨s, hs0, rfl⟩ : ∃ s : Int, 0 ≤ s ∧ v = .int s := by
        rw [List.getElem?_map] at hj
        obtain ⟨s, hs, rfl⟩ := Option.map_eq_some_iff.mp hj
        have hm := List.mem_of_getElem? hs
        refine ⟨s, ?_, rfl⟩
        simp only [List.mem_cons, List.mem_nil_iff, or_false] at hm
        omega
      refine ⟨_, _, rfl, ?_⟩
      have hst : 0 ≤ (if s < (n : Int) - d then s else (n : Int) - d) ∧ (if s < (n : Int) - d then s else (n : Int) - d) ≤ (n : Int) - d := by split <;> omega
      generalize (if s < (n : Int) - d then s else (n : Int) - d) = st at hst
      have h4 : H4 l = some (.lst (ns.map V.int)) := e4 l _ (by rw [wo_ne hlp]; exact h3)
      refine q_app (v := .int (ns.getD (ns.length - 1) 0 + st)) h4 (ev_var rfl) (ev_op (ev_op (ev_var rfl) (ev_un ev_c ru_neg) (rv_ixL (sq_of h4) (atI_m1 r.pos))) (ev_var rfl) rv_I0) (by rw [List.length_map]; omega) fun H5 e5 => ?_
      refine s_asg (ev_op (ev_var rfl) (ev_var rfl) rv_I0) fun H6 e6 => ?_
      refine ⟨ns ++ [ns.getD (ns.length - 1) 0 + st], d + st, some (.int (i : Int)), some (.int st), ?_, by rw [List.length_append, hlen] <;> rfl, rise_app r hst.1, by omega, by omega, ?_, ?_, ?_⟩
      · have e9 : (n : Int) - (d + st) = (n : Int) - d - st := by omega
        rw [e9] <;> rfl
      · refine (Ex.mut (o := .lst (ns.map V.int ++ [.int (ns.getD (ns.length - 1) 0 + st)])) (fun b o hb => e5 b o (e4 b o ?_)) hwl).trans e6
        have hbp : b ≠ p := fun q => by subst q; rw [wo_at] at hb; cases hb
        rw [wo_ne hbp]
        exact e3 b o hb
      · rw [List.map_append]
        exact e6 l _ upd_same
      · obtain ⟨a, b, q1, q2⟩ := hp4
        exact ⟨a, b, q1, e6 p _ (by rw [upd_ne hlp.symm]; exact e5 p _ q2)⟩
    · obtain ⟨ns, d, o1, o2, rfl, hlen, r, d0, dn, e3, h3, hp3⟩ := hpv
      have hl2 : ns.length = n := by omega
      refine s_ret (ev_var rfl) fun H4 e4 => ?_
      exact k l ns H4 hl2 (rise_good r (by omega) (by omega)) r.fst (fun i hi => by have := rise_bd r (i := i) (by omega); omega) hl (e3.trans e4) (e4 l _ h3) (hp3.mono e4)
theorem ok_lon {f : Addr} {fd : FuncData} (F : Fun K "_law_on" "_law_on" s__law_on f fd) (T : Txt K mg C) : FnOk P w K mg base CX0 1 f fd ["_law_days_here", "_law_day"] (sp_lon K) := by
  refine F.ok sc__law_on (fun vs H Q E h => ?_) (fun cdv A outer s H vs Q E hr h => ?_)
  · obtain ⟨l, ns, x, rfl, _⟩ := h
    rfl
  · obtain ⟨l, ns, x, rfl, hs, g, k⟩ := h
    have hp := g.posI
    have hm := g.most
    refine ⟨_, (pss_cons (ps_set (i := 2) sc__law_on.nd rfl (Or.inl rfl) (pe_op op_mul (pe_op op_fdivN (pv 1) (pe_callB (lenS (K := K) rfl) (by rfl) T.b_len (by decide +kernel) (pa_cons (pv 0) pa_nil))) (pe_callB (lenS (K := K) rfl) (by rfl) T.b_len (by decide +kernel) (pa_cons (pv 0) pa_nil)))) (pss_one (ps_ret (pe_op op_add (pe_ix (ixL (K := K) rfl) (pv 0) (pe_op op_sub (pv 1) (pv 2)) (fun _ _ => rfl)) (pv 2))))), ?_⟩
    have len : ∀ H1, Ex H H1 → RC (fun xs H Q => ∃ p ys, xs = [.ref p] ∧ (SqL K H p ys ∨ SqT K H p ys) ∧ Q (.int (ys.length : Int)) H) [.ref l] H1 (.int (ns.length : Int)) := fun H1 e => rc_len (.inl (ex_l e hs)) (by rw [List.length_map])
    refine q_asg (v := .int (x / (ns.length : Int) * (ns.length : Int))) (ev_is (ev_op (ev_op (ev_var rfl) (ev_cb (ea_cons (ev_var rfl) ea_nil) (len H (Ex.refl _))) (rv_I ⟨by omega, by omega⟩)) (ev_cb (ea_cons (ev_var rfl) ea_nil) (len H (Ex.refl _))) (rv_I (.inr ⟨by omega, by omega⟩))) (by rw [Int.fdiv_eq_ediv_of_nonneg _ (by omega)])) fun H1 e1 => ?_
    have i0 := Int.emod_nonneg x (show (ns.length : Int) ≠ 0 by omega)
    have i1 := Int.emod_lt_of_pos x hp
    have i2 : x - x / (ns.length : Int) * (ns.length : Int) = x % (ns.length : Int) := by
      have := Int.emod_add_mul_ediv x (ns.length : Int)
      rw [Int.mul_comm] at this
      omega
    exact s_ret (ev_op (ev_op (ev_var rfl) (ev_is (ev_op (ev_var rfl) (ev_var rfl) rv_I0) (congrArg V.int i2)) (rv_ixL (ex_l e1 hs) (atI_int i0 i1))) (ev_var rfl) rv_I0) fun H2 e2 => k H2 (e1.trans e2)
theorem ok_lby {f f1 : Addr} {fd fd1 : FuncData} (F : Fun K "_law_by" "_law_by" s__law_by f fd) (T : Txt K mg C) (c__law_on : Cal P w K mg base "_law_on" f1 fd1 ["_law_days_here", "_law_day"] 1 (sp_lon K)) : FnOk P w K mg base CX0 2 f fd ["_law_days_here", "_law_day"] (sp_lby K) := by
  refine F.ok sc__law_by (fun vs H Q E h => ?_) (fun cdv A outer s H vs Q E hr h => ?_)
  · obtain ⟨l, ns, x, rfl, _⟩ := h
    rfl
  · obtain ⟨l, ns, x, rfl, hs, g, k⟩ := h
    have hgm := g.most
    obtain ⟨M, hM⟩ := isMax_ex (leads_ne g)
    refine ⟨_, (pss_cons (ps_set (i := 2) sc__law_by.nd rfl (Or.inl rfl) (pe_op op_sub (pe_op op_sub (pv 1) (pe_callB (maxL (K := K) rfl rfl) (by rfl) T.b_max (by decide +kernel) (pa_cons (pe_lc (own := [("_law_place", 3), ("_law_served", 4)]) (g := (gTup K 2 (gCons (gName 3) (gCons (gName 4) gNil)))) (by rfl) sc__law_by.nd (pi_enum (by rfl) T.b_enumerate (pa_cons (pv 0) pa_nil)) (blkOk_by (own := [("_law_place", 3), ("_law_served", 4)]) (N := ["_law_days_here", "_law_day", "_law_here", "_law_place", "_law_served"]) (sc := defScope s__law_by) (by decide +kernel)) (fun _ _ _ _ _ => (pg_tup (by rfl) (pgs_cons (pg_name (i := 3) sc__law_by.nd rfl (Or.inl rfl)) (pgs_cons (pg_name (i := 4) sc__law_by.nd rfl (Or.inl rfl)) pgs_nil)))) (fun _ _ _ _ _ => pts_nil) (fun _ _ _ _ _ => (pe_op op_sub (pv 4) (pv 3)))) pa_nil))) pe_int)) (pss_cons (ps_while PassesOwn.never (pt_cmpR op_lt (pe_call c__law_on.ok (hr.mono (by decide)) (by rfl) c__law_on.mgx c__law_on.kp c__law_on.bd .nil pass0 (pa_cons (pv 0) (pa_cons (pv 2) pa_nil))) (pv 1) (nomark _)) (pss_one (ps_set (i := 2) sc__law_by.nd rfl (Or.inl rfl) (pe_op op_add (pv 2) pe_int)))) (pss_one (ps_ret (pv 2))))), ?_⟩
    have e0 : (ns.map V.int).length = ns.length := List.length_map ..
    refine q_asg (v := .int (x - M - 1)) (ev_op (ev_op (ev_var rfl) (ev_cbL (xs := (leadsL ns).map V.int) (by
      rw [← leads_given, ← e0]
      refine el_lcE (fun _ => true) (fun k => V.int (ns.getD k 0 - (k : Int))) (ev_var rfl) hs (by rw [e0]; omega) (fun _ _ => rfl) (fun _ _ _ _ _ => lc_yes) (fun i y H2 e2 hi _ => ?_)
      have hlt : i < ns.length := by have := (List.getElem?_eq_some_iff.mp hi).1; simpa using this
      rw [getI hlt] at hi
      cases hi
      exact ev_op (ev_var rfl) (ev_var rfl) rv_I0) fun q H1 _ h3 => rc_max (sq_of h3) hM.1 hM.2) rv_I0) ev_c rv_I0) fun H1 e1 => ?_
    have hle : ∀ i, i < ns.length → ns.getD i 0 - (i : Int) ≤ M := fun i hi => hM.2 _ (List.mem_map.mpr ⟨i, List.mem_range.mpr hi, rfl⟩)
    have hst := start_le g (y := x) hle
    refine q_while (fun m σ' H' => ∃ h : Int, m = (byL ns x - h).toNat ∧ h ≤ byL ns x ∧ Ex H H' ∧ σ' = [some (.ref l), some (.int x), some (.int h), none, none]) (byL ns x - (x - M - 1)).toNat ⟨_, rfl, hst, e1, rfl⟩ ?_
    rintro m σ' H' ⟨h, rfl, hh, e, rfl⟩
    refine ⟨decide (onL ns h < x), et_test (ev_op (ev_call (ea_cons (ev_var rfl) (ea_cons (ev_var rfl) ea_nil)) (spv_lon (ex_l e hs) g)) (ev_var rfl) rv_I0), fun ht H2 e2 => ?_, fun ht H2 e2 => ?_⟩
    · have hlt : onL ns h < x := of_decide_eq_true ht
      have hby : ¬ byL ns x ≤ h := fun q => by have := (by_le g).mp q; omega
      refine ⟨fun σ2 H3 => Ex H H3 ∧ σ2 = [some (.ref l), some (.int x), some (.int (h + 1)), none, none], fun σ2 H3 ⟨q1, q2⟩ => ⟨(byL ns x - (h + 1)).toNat, by omega, h + 1, rfl, by omega, q1, q2⟩, ?_⟩
      exact s_asg (ev_op (ev_var rfl) ev_c rv_I0) fun H3 e3 => ⟨(e.trans e2).trans e3, rfl⟩
    · have hge : ¬ onL ns h < x := of_decide_eq_false ht
      have hby : byL ns x ≤ h := (by_le g).mpr (by omega)
      have e9 : h = byL ns x := by omega
      subst e9
      exact s_ret (ev_var rfl) fun H3 e3 => k H3 ((e.trans e2).trans e3)
theorem ok_ltil {f f1 : Addr} {fd fd1 : FuncData} (F : Fun K "_law_til" "_law_til" s__law_til f fd) (T : Txt K mg C) (c__law_by : Cal P w K mg base "_law_by" f1 fd1 ["_law_days_here", "_law_day"] 2 (sp_lby K)) : FnOk P w K mg base CX0 3 f fd ["_law_days_here", "_law_day"] (sp_ltil K) := by
  refine F.ok sc__law_til (fun vs H Q E h => ?_) (fun cdv A outer s H vs Q E hr h => ?_)
  · obtain ⟨l, ns, x, rfl, _⟩ := h
    rfl
  · obtain ⟨l, ns, x, rfl, hs, g, k⟩ := h
    refine ⟨_, (pss_one (ps_ret (pe_op op_sub (pe_call c__law_by.ok (hr.mono (by decide)) (by rfl) c__law_by.mgx c__law_by.kp c__law_by.bd .nil pass0 (pa_cons (pv 0) (pa_cons (pe_op op_add (pv 1) pe_int) pa_nil))) pe_int))), ?_⟩
    exact s_ret (ev_op (ev_call (ea_cons (ev_var rfl) (ea_cons (ev_op (ev_var rfl) ev_c rv_I0) ea_nil)) (spv_lby hs g)) ev_c rv_I0) k
theorem ok_low {f : Addr} {fd : FuncData} (F : Fun K "_law_low" "_law_low" s__law_low f fd) (T : Txt K mg C) : FnOk P w K mg base CX0 1 f fd ["_law_above", "_law_below"] sp_low := by
  refine F.ok sc__law_low (fun vs H Q E h => ?_) (fun cdv A outer s H vs Q E hr h => ?_)
  · obtain ⟨t, n, rfl, _⟩ := h
    rfl
  · obtain ⟨t, n, rfl, n0, n1, k⟩ := h
    obtain ⟨g1, g2, g3⟩ := meanG_pos (t := t) n0 n1
    refine ⟨_, (pss_cons (ps_par (i := 2) (j := 3) (by rfl) sc__law_low.nd rfl rfl (by decide) rfl rfl (pa_cons (pe_callB call_abs (by rfl) T.b_abs (by decide +kernel) (pa_cons (pv 0) pa_nil)) (pa_cons (pe_callB call_abs (by rfl) T.b_abs (by decide +kernel) (pa_cons (pv 1) pa_nil)) pa_nil)) (by rfl)) (pss_cons (ps_while PassesOwn.never (pt_cmpR op_gt (pv 3) pe_int (nomark _)) (pss_one (ps_par (i := 2) (j := 3) (by rfl) sc__law_low.nd rfl rfl (by decide) rfl rfl (pa_cons (pv 3) (pa_cons (pe_op op_modN (pe_callTy call_int1 (by rfl) T.b_int (by decide +kernel) (pa_cons (pv 2) pa_nil)) (pv 3)) pa_nil)) (by rfl)))) (pss_one (ps_ret (pe_tup (pa_cons (pe_op op_fdivN (pv 0) (pv 2)) (pa_cons (pe_op op_fdivN (pv 1) (pv 2)) pa_nil))))))), ?_⟩
    refine q_par (v := .int (t.natAbs : Int)) (w := .int (n : Int)) (ea_cons (ev_is (ev_cb (ea_cons (ev_var rfl) ea_nil) rc_abs) (congrArg V.int (by split <;> omega))) (ea_cons (ev_is (ev_cb (ea_cons (ev_var rfl) ea_nil) rc_abs) (congrArg V.int (by split <;> omega))) ea_nil)) fun H1 e1 => ?_
    refine q_while (fun m σ' H' => ∃ a b : Nat, m = b ∧ Nat.gcd a b = Nat.gcd t.natAbs n ∧ Ex H H' ∧ σ' = [some (.int t), some (.int (n : Int)), some (.int (a : Int)), some (.int (b : Int))]) n ⟨t.natAbs, n, rfl, rfl, e1, rfl⟩ ?_
    rintro m σ' H' ⟨a, b, rfl, hg, e, rfl⟩
    refine ⟨decide ((0 : Int) < (m : Int)), et_test (ev_op (ev_var rfl) ev_c rv_I0), fun ht H2 e2 => ?_, fun ht H2 e2 => ?_⟩
    · have hb : 0 < m := by have := of_decide_eq_true ht; omega
      refine ⟨fun σ2 H3 => Ex H H3 ∧ σ2 = [some (.int t), some (.int (n : Int)), some (.int (m : Int)), some (.int ((a % m : Nat) : Int))], fun σ2 H3 ⟨q1, q2⟩ => ⟨a % m, Nat.mod_lt _ hb, m, a % m, rfl, by rw [← hg, Nat.gcd_comm a m, Nat.gcd_rec m a, Nat.gcd_comm], q1, q2⟩, ?_⟩
      refine s_par (ea_cons (ev_var rfl) (ea_cons (ev_is (ev_op (ev_cb (ea_cons (ev_var rfl) ea_nil) rc_int1) (ev_var rfl) (rv_I (by omega))) (congrArg V.int (by rw [Int.fmod_eq_emod_of_nonneg _ (by omega)]; rfl))) ea_nil)) fun H3 e3 => ⟨(e.trans e2).trans e3, rfl⟩
    · have hb : ¬ (0 : Int) < (m : Int) := of_decide_eq_false ht
      have e0 : m = 0 := by omega
      subst e0
      rw [Nat.gcd_zero_right] at hg
      have eg : (a : Int) = meanG t n := by unfold meanG; rw [hg]
      rw [← eg] at k g1 g2
      exact s_retU (eu_tup (ea_cons (ev_op (ev_var rfl) (ev_var rfl) (rv_I ⟨g1, g2⟩)) (ea_cons (ev_op (ev_var rfl) (ev_var rfl) (rv_I ⟨g1, g2⟩)) ea_nil)) (by show 2 ≤ 100000; decide)) fun q H3 n3 e3 h3 => k q H3 (fresh_back (e.trans e2) n3) ((e.trans e2).trans e3) h3
end
end K11
end
section
set_option maxHeartbeats 4000000
namespace K11
open PySem L2 Evl G TM
section
variable {K : PySem.W.Frag} {σ : L2.St} {H : Hp} {p : Addr} {i j : Nat} {ta tb te : TE} {tA tr : TA} {D : Ends} {tz : TS} {QA : List V → Hp → Prop} {v w : V} {xs : List V} {vs : List Nat}
theorem ac_v (h : Ev te σ H v) (k : ∀ H1, Ex H H1 → tr σ H1 fun xs H2 => QA (v :: xs) H2) : tCons te tr σ H QA := h H (Ex.refl H) _ k
theorem ac_u (h : EvU te σ H xs) (k : ∀ p H1, H p = none → Ex H H1 → H1 p = some (.tup xs) → tr σ H1 fun xs H2 => QA (.ref p :: xs) H2) : tCons te tr σ H QA := h H (Ex.refl H) _ fun p H1 a b c => k p H1 a b c
theorem ac_nil (k : QA [] H) : tNil σ H QA := k
theorem q_lst (h : tA σ H fun vs H1 => vs.length ≤ sizeLine ∧ ∀ p, H1 p = none → tz D (σ.set i (some (.ref p))) (upd H1 p (.lst vs))) : tSeq (tAsg (tLst tA) (gName i)) tz D σ H := h
theorem eu_call {sp : Sp} {dvs ws : List V} {E : XK} (ha : EvA tA σ H ws) (hs : SpU sp (ws ++ dvs) H xs) : EvU (tCall sp dvs E tA) σ H xs := fun H1 e Q q =>
  ha H1 e _ fun H2 e2 => hs H2 (e.trans e2) Q (fun p H3 n3 e3 h3 => q p H3 (fresh_back e2 n3) (e2.trans e3) h3) E
theorem eu_meth {C dx : Addr} {m : Str} {fs : List (Str × V)} {sp : Sp} {dvs ws : List V} {E : XK} (h : Ev ta σ H (.ref p)) (ho : H p = some (.ins C dx fs)) (hl : fs.lookup m = none) (ha : EvA tA σ H ws) (hs : SpU sp (.ref p :: (ws ++ dvs)) H xs) : EvU (tMeth C m sp dvs E ta tA) σ H xs := fun H1 e Q q =>
  h H1 e _ fun H2 e2 => ⟨p, dx, fs, rfl, (e.trans e2) p _ ho, hl, ha H2 (e.trans e2) _ fun H3 e3 => hs H3 ((e.trans e2).trans e3) Q (fun q' H4 n4 e4 h4 => q q' H4 (fresh_back (e2.trans e3) n4) ((e2.trans e3).trans e4) h4) E⟩
/-- xs.append(e), e a new list; e a new list of new pairs -/
theorem q_appR {l : Addr} {zs : List V} (hl : H l = some (.lst xs)) (ha : Ev ta σ H (.ref l)) (h : EvR te σ H zs) (hz : xs.length < 100000)
    (k : ∀ (p : Addr) (ts : List Addr) (H1 : Hp), H p = none → Ex H H1 → H1 p = some (.lst (ts.map V.ref)) → ts.length = zs.length → (∀ (j : Nat) (T : Addr) (x : V), ts[j]? = some T → zs[j]? = some x → H1 T = some (.tup [.int (j : Int), x])) → tz D σ (upd H1 l (.lst (xs ++ [.ref p])))) :
    tSeq (tDrop (tBM K "list" rAppend ta (tCons te tNil))) tz D σ H := ha H (Ex.refl H) _ fun H1 e1 =>
  ⟨Or.inl ⟨rfl, xs, sq_of (e1 l _ hl)⟩, h H1 e1 _ fun p ts H2 hp e2 h2 hlen htp => ⟨l, xs, .ref p, rfl, rfl, e2 l _ (e1 l _ hl), sz_lt hz, k p ts H2 (fresh_back e1 hp) (e1.trans e2) h2 hlen htp⟩⟩
/-- [(a, b) for a, b in enumerate(xs)] -/
theorem evr_lcE {a : Addr} {tl : TE} (h : Ev tl σ H (.ref a)) (hs : SqL K H a xs) (hz : xs.length ≤ 40000) (hw : ∀ x y, wipe (((wipe σ vs).set i (some x)).set j (some y)) vs = wipe σ vs)
    (hi : ∀ x y, (((wipe σ vs).set i (some x)).set j (some y))[i]? = some (some x)) (hj : ∀ x y, (((wipe σ vs).set i (some x)).set j (some y))[j]? = some (some y)) :
    EvR (tLc (iEnum K (tCons tl tNil)) (gTup K 2 (gCons (gName i) (gCons (gName j) gNil))) tYes (tTup (tCons (tVar i) (tCons (tVar j) tNil))) vs) σ H xs := fun H0 e Q q => h H0 e _ fun H1 e1 => by
  have hs1 : SqL K H1 a xs := ex_l (e.trans e1) hs
  refine ⟨a, xs, rfl, hs1, fun Dl hD => ?_⟩
  refine ⟨fun i0 m H' => m = xs.length - i0 ∧ i0 ≤ xs.length ∧ ∃ ts : List Addr, ts.length = i0 ∧ Ex H1 H' ∧ H' Dl = some (.lst (ts.map V.ref)) ∧ ∀ (j : Nat) (T : Addr) (x : V), ts[j]? = some T → xs[j]? = some x → H' T = some (.tup [.int (j : Int), x]), ⟨xs.length, by simp, Nat.zero_le _, [], rfl, Ex.new hD, upd_same, fun j T x q => by simp at q⟩, ?_⟩
  rintro i0 m H' ⟨rfl, hi0, ts, hl, ex, hd, ht⟩
  have hs2 : SqL K H' a xs := ex_l ex hs1
  by_cases hlt : i0 < xs.length
  · refine .inr ⟨⟨xs, xs[i0], hs2, List.getElem?_eq_getElem hlt⟩, fun H'' => ∃ ts : List Addr, ts.length = i0 + 1 ∧ Ex H1 H'' ∧ H'' Dl = some (.lst (ts.map V.ref)) ∧ ∀ (j : Nat) (T : Addr) (x : V), ts[j]? = some T → xs[j]? = some x → H'' T = some (.tup [.int (j : Int), x]), fun H'' p' => ⟨xs.length - (i0 + 1), by omega, rfl, hlt, p'⟩, fun x0 H'' y => ?_⟩
    obtain ⟨T, w, rfl, hT, rfl, hx⟩ := y
    have hw' := hx xs hs2
    refine ⟨T, [.int (i0 : Int), w], rfl, st_of upd_same, rfl, _, _, rfl, _, _, rfl, rfl, hw _ _, ?_⟩
    unfold tYes
    refine iteT ?_
    refine ⟨_, hi _ _, _, hj _ _, by show 2 ≤ sizeLine; decide, fun U hU => ?_⟩
    have hDT : Dl ≠ T := ne_of_none hd hT
    have hd2 : upd H' T (.tup [.int (i0 : Int), w]) Dl = some (.lst (ts.map V.ref)) := by rw [upd_ne hDT]; exact hd
    have hDU : Dl ≠ U := ne_of_none hd2 hU
    refine ⟨ts.map V.ref, by rw [upd_ne hDU]; exact hd2, by rw [List.length_map]; exact sz_lt (by omega), ts ++ [U], by rw [List.length_append, hl] <;> rfl, ?_, by rw [upd_same, List.map_append] <;> rfl, ?_⟩
    · exact Ex.mut ((ex.trans (Ex.new hT)).trans (Ex.new hU)) hD
    · intro j0 T0 x0 q1 q2
      by_cases hj0 : j0 < ts.length
      · rw [List.getElem?_append_left hj0] at q1
        have q3 := ht j0 T0 x0 q1 q2
        rw [upd_ne (ne_of q3 hd (fun z => by cases z)), upd_ne (ne_of_none (by rw [upd_ne (ne_of_none q3 hT)]; exact q3) hU), upd_ne (ne_of_none q3 hT)]
        exact q3
      · have e9 : j0 = ts.length := by
          have := (List.getElem?_eq_some_iff.mp q1).1
          rw [List.length_append, List.length_singleton] at this
          omega
        subst e9
        rw [List.getElem?_append_right (Nat.le_refl _), Nat.sub_self] at q1
        cases q1
        rw [hl, hw'] at q2
        cases q2
        rw [upd_ne hDU.symm, upd_same, hl]
  · have e0 : i0 = xs.length := by omega
    subst e0
    exact .inl ⟨⟨xs, hs2, Nat.le_refl _⟩, q Dl ts H' (fresh_back e1 hD) (e1.trans ex) hd hl ht⟩
end
/-! ### data -/
def rowsD (ns : List Int) : PyData := .list (ns.mapIdx fun j n => .tuple [.int (j : Int), .int n])
theorem dp_rows {K : PySem.W.Frag} {H : Hp} {l : Addr} {ts : List Addr} {ns : List Int} (h : H l = some (.lst (ts.map V.ref))) (hl : ts.length = (ns.map V.int).length) (ht : ∀ (j : Nat) (T : Addr) (x : V), ts[j]? = some T → (ns.map V.int)[j]? = some x → H T = some (.tup [.int (j : Int), x])) : Dp K H (.ref l) (rowsD ns) := by
  refine .lst (sq_of h) ?_
  have key : ∀ (k : Nat) (us : List Addr) (ms : List Int), us.length = ms.length → (∀ (j : Nat) (T : Addr) (n : Int), us[j]? = some T → ms[j]? = some n → H T = some (.tup [.int ((k + j : Nat) : Int), .int n])) →
      DpAll K H (us.map V.ref) (ms.mapIdx fun j n => .tuple [.int ((k + j : Nat) : Int), .int n]) := by
    intro k us
    induction us generalizing k with
    | nil =>
      intro ms hl _
      cases ms with
      | nil => exact .nil
      | cons m ms => simp at hl
    | cons u us ih =>
      intro ms hl hh
      cases ms with
      | nil => simp at hl
      | cons m ms =>
        rw [List.mapIdx_cons]
        refine .cons (.tup (st_of (hh 0 u m rfl rfl)) (.cons (.int _) (.cons (.int _) .nil))) ?_
        have := ih (k + 1) ms (by simpa using hl) (fun j T n q1 q2 => by
          have := hh (j + 1) T n (by simpa using q1) (by simpa using q2)
          have e1 : k + 1 + j = k + (j + 1) := by omega
          rw [e1]; exact this)
        have e2 : (fun (j : Nat) (n : Int) => PyData.tuple [.int ((k + 1 + j : Nat) : Int), .int n]) = (fun (j : Nat) (n : Int) => PyData.tuple [.int ((k + (j + 1) : Nat) : Int), .int n]) := by
          funext j n
          have e1 : k + 1 + j = k + (j + 1) := by omega
          rw [e1]
        rw [e2] at this
        exact this
  have := key 0 ts ns (by simpa using hl) (fun j T n q1 q2 => by
    have := ht j T (.int n) q1 (by simp [q2])
    rw [Nat.zero_add]; exact this)
  simpa using this
def Bd (ns : List Int) : Prop := ∀ n, n ∈ ns → -1000000000000 ≤ n ∧ n ≤ 1000000000000
theorem small_int {i : Int} (h1 : -99999999999999999999 ≤ i) (h2 : i ≤ 99999999999999999999) : smallD (.int i) = true := by
  simp only [smallD, decide_eq_true_eq]
  omega
theorem smallAll_ints {ns : List Int} (h : Bd ns) : smallAll (ns.map PyData.int) = true := small_ints fun n hn => by have := h n hn; omega
theorem small_rows {ns : List Int} (h : Bd ns) (hl : ns.length ≤ 600) : smallD (rowsD ns) = true ∧ bnd (rowsD ns) ≤ 60 * ns.length + 2 := by
  unfold rowsD
  simp only [smallD, bnd]
  have key : ∀ (ms : List Int) (k : Nat), (∀ n, n ∈ ms → -1000000000000 ≤ n ∧ n ≤ 1000000000000) → k + ms.length ≤ 100000 → smallAll (ms.mapIdx fun j n => PyData.tuple [.int ((k + j : Nat) : Int), .int n]) = true ∧ bndAll (ms.mapIdx fun j n => PyData.tuple [.int ((k + j : Nat) : Int), .int n]) ≤ 60 * ms.length := by
    intro ms
    induction ms with
    | nil => intro k _ _; exact ⟨rfl, Nat.le_refl _⟩
    | cons m ms ih =>
      intro k hm hk
      rw [List.length_cons] at hk
      obtain ⟨i1, i2⟩ := ih (k + 1) (fun n hn => hm n (List.mem_cons_of_mem _ hn)) (by omega)
      have e2 : (fun (j : Nat) (n : Int) => PyData.tuple [.int ((k + 1 + j : Nat) : Int), .int n]) = (fun (j : Nat) (n : Int) => PyData.tuple [.int ((k + (j + 1) : Nat) : Int), .int n]) := by
        funext j n
        have e1 : k + 1 + j = k + (j + 1) := by omega
        rw [e1]
      rw [e2] at i1 i2
      have hb := hm m (List.mem_cons_self ..)
      rw [List.mapIdx_cons]
      refine ⟨?_, ?_⟩
      · simp only [smallAll, Bool.and_eq_true, smallD, decide_eq_true_eq, and_true]
        exact ⟨⟨by omega, by omega⟩, i1⟩
      · simp only [bndAll, bnd, List.length_cons]
        omega
  have := key ns 0 h (by omega)
  simp only [Nat.zero_add] at this
  exact ⟨this.1, by omega⟩
def tabStr (ns : List Int) : Str := Str.empty ++ "Table(" ++ (dInts ns).shown ++ ")"
end K11
end
section
set_option maxHeartbeats 4000000
namespace K11
open PySem L2 Evl G TM
structure MetG (P : Program) (w : World) (K : PySem.W.Frag) (mg : Str → Option Value) (base : Heap) (C : Addr) (m : Str) (f : Addr) (fd : FuncData) (ps : List Str) (k : Nat) (sp : Sp) : Prop where
  ok : FnG P w K mg base CX0 k f fd ps sp
  at_ : PySem.W.findIn K (.ref C) m = some (some (.ref f))
  fn : PySem.W.isFn K (.ref f) = true
  bd : Binds K fd ps []
def sp_repr (K : PySem.W.Frag) (C : Addr) : Sp := fun vs H Q _ => ∃ (p : Addr) (ns : List Int), vs = [.ref p] ∧ Tab K C H p ns ∧ Good ns ∧ Bd ns ∧ RetV (.str (tabStr ns)) H Q
theorem rc_reprO {K : PySem.W.Frag} {C p : Addr} {ns : List Int} {H : Hp} {E : XK} (t : Tab K C H p ns) (g : Good ns) (b : Bd ns) : RC (rReprO C (sp_repr K C) E) [.ref p] H (.str (tabStr ns)) := fun H1 e Q q => by
  obtain ⟨dx, l, h1, h2⟩ := t.mono e
  exact ⟨p, dx, _, rfl, h1, p, ns, rfl, t.mono e, g, b, fun H2 e2 => ⟨⟨_, rfl⟩, q H2 e2⟩⟩
theorem depth_all {ds : List PyData} {k : Nat} (h : ∀ d, d ∈ ds → d.depth ≤ k) : PyData.depthAll ds ≤ k := by
  induction ds with
  | nil => simp [PyData.depthAll]
  | cons d ds ih =>
    have h1 := h d (List.mem_cons_self ..)
    have h2 := ih fun x hx => h x (List.mem_cons_of_mem _ hx)
    simp only [PyData.depthAll]
    omega
theorem depth_ints (ns : List Int) : (dInts ns).depth ≤ 1 := by
  unfold dInts
  simp only [PyData.depth]
  have := depth_all (ds := ns.map PyData.int) (k := 0) fun d hd => by
    obtain ⟨n, _, rfl⟩ := List.mem_map.mp hd
    simp [PyData.depth]
  omega
theorem depth_rows (ns : List Int) : (rowsD ns).depth ≤ 2 := by
  unfold rowsD
  simp only [PyData.depth]
  have := depth_all (ds := ns.mapIdx fun j n => PyData.tuple [.int (j : Int), .int n]) (k := 1) fun d hd => by
    obtain ⟨i, hi, rfl⟩ := List.mem_mapIdx.mp hd
    simp [PyData.depth, PyData.depthAll]
  omega
theorem ints_fit {ns : List Int} (g : Good ns) (b : Bd ns) : (dInts ns).showable = true ∧ (dInts ns).depth ≤ 60 ∧ (dInts ns).shown.length ≤ 20000 := by
  have hs : smallD (dInts ns) = true := by unfold dInts; simp only [smallD]; exact smallAll_ints b
  refine ⟨small_show hs, ?_, ?_⟩
  · have := depth_ints ns; omega
  · refine Nat.le_trans (small_len hs) ?_
    unfold dInts
    simp only [bnd]
    rw [bnd_ints]
    have := g.most
    omega
def sp_whole (K : PySem.W.Frag) (C : Addr) : Sp := fun vs H Q _ => ∃ (t l : Addr) (ns : List Int), vs = [.ref t, .ref l] ∧ Tab K C H t ns ∧ SqL K H l (ns.map V.int) ∧ Good ns ∧ Bd ns ∧ RetV (.bl true) H Q
theorem spv_whole {K : PySem.W.Frag} {C t l : Addr} {ns : List Int} {H : Hp} (h : Tab K C H t ns) (hl : SqL K H l (ns.map V.int)) (g : Good ns) (b : Bd ns) : SpV (sp_whole K C) ([.ref t, .ref l] ++ []) H (.bl true) := fun H1 e Q q E => ⟨t, l, ns, rfl, h.mono e, ex_l e hl, g, b, q⟩
def wholeD (ns : List Int) (m M : Int) : List PyData := [.int (ns.length : Int), dInts ns, .tuple [.int m, .int M], .tuple [.int ((leadsL ns).sum.fdiv (meanG (leadsL ns).sum ns.length)), .int ((ns.length : Int).fdiv (meanG (leadsL ns).sum ns.length))], dInts (fixL ns), rowsD ns]
theorem leads_bd {ns : List Int} (g : Good ns) (b : Bd ns) {y : Int} (h : y ∈ leadsL ns) : -1000000001000 ≤ y ∧ y ≤ 1000000001000 := by
  obtain ⟨i, hi, rfl⟩ := List.mem_map.mp h
  have hi' := List.mem_range.mp hi
  have hm := g.most
  have := b (ns.getD i 0) (by rw [List.getD_eq_getElem?_getD, List.getElem?_eq_getElem hi']; exact List.getElem_mem hi')
  omega
theorem sum_bd {B : Int} (hB : 0 ≤ B) : ∀ {l : List Int}, (∀ y, y ∈ l → -B ≤ y ∧ y ≤ B) → -(B * (l.length : Int)) ≤ l.sum ∧ l.sum ≤ B * (l.length : Int)
  | [], _ => by simp
  | a :: l, h => by
    have h1 := h a (List.mem_cons_self ..)
    have h2 := sum_bd hB (l := l) fun y hy => h y (List.mem_cons_of_mem _ hy)
    rw [List.sum_cons, List.length_cons]
    have e : B * ((l.length + 1 : Nat) : Int) = B * (l.length : Int) + B := by rw [Int.natCast_add, Int.mul_add]; simp
    omega
theorem fdiv_bd {a b B : Int} (hb : 0 < b) (h1 : -B ≤ a) (h2 : a ≤ B) (hB : 0 ≤ B) : -B - 1 ≤ a.fdiv b ∧ a.fdiv b ≤ B := by
  rw [Int.fdiv_eq_ediv_of_nonneg _ (by omega)]
  constructor
  · refine Int.le_trans ?_ (Int.ediv_le_ediv hb h1)
    have : -B ≤ -B / b := by
      rw [Int.le_ediv_iff_mul_le hb]
      have : B ≤ B * b := by
        have := Int.mul_le_mul_of_nonneg_left (show (1 : Int) ≤ b by omega) hB
        omega
      rw [Int.neg_mul]
      omega
    omega
  · refine Int.le_trans (Int.ediv_le_ediv hb h2) ?_
    exact Int.ediv_le_self _ hB
theorem whole_fit {ns : List Int} {m M : Int} (g : Good ns) (b : Bd ns) (hm : IsMin (leadsL ns) m) (hM : IsMax (leadsL ns) M) : PyData.showable (.list (wholeD ns m M)) = true ∧ PyData.depth (.list (wholeD ns m M)) ≤ 60 ∧ (PyData.shown (.list (wholeD ns m M))).length ≤ sizeLine := by
  have hgm := g.most
  have hgp := g.pos
  have b1 := leads_bd g b hm.1
  have b2 := leads_bd g b hM.1
  obtain ⟨g1, g2, g3⟩ := meanG_pos (t := (leadsL ns).sum) g.pos g.most
  have hlen : (leadsL ns).length = ns.length := by unfold leadsL; rw [List.length_map, List.length_range]
  have s1 := sum_bd (B := 1000000001000) (by decide) (l := leadsL ns) fun y hy => by have := leads_bd g b hy; omega
  rw [hlen] at s1
  have d1 := fdiv_bd (a := (leadsL ns).sum) g3 (B := 1000000000000000) (by omega) (by omega) (by decide)
  have d2 := fdiv_bd (a := (ns.length : Int)) g3 (B := 1000) (by omega) (by omega) (by decide)
  have hf : Bd (fixL ns) := fun n hn => by
    obtain ⟨k, hk, rfl⟩ := List.mem_map.mp hn
    have := List.mem_range.mp (List.mem_filter.mp hk).1
    omega
  have hfl : (fixL ns).length ≤ 600 := by
    unfold fixL
    rw [List.length_map]
    refine Nat.le_trans (List.length_filter_le _ _) ?_
    rw [List.length_range]
    exact hgm
  obtain ⟨r1, r2⟩ := small_rows b hgm
  have hs : smallD (.list (wholeD ns m M)) = true := by
    unfold wholeD
    simp only [smallD, smallAll, Bool.and_eq_true, decide_eq_true_eq, and_true]
    refine ⟨by omega, ?_, ⟨by omega, by omega⟩, ⟨by omega, by omega⟩, ?_, r1⟩
    · unfold dInts; simp only [smallD]; exact smallAll_ints b
    · unfold dInts; simp only [smallD]; exact smallAll_ints hf
  refine ⟨small_show hs, ?_, ?_⟩
  · have a1 := depth_ints ns
    have a2 := depth_ints (fixL ns)
    have a3 := depth_rows ns
    unfold wholeD
    simp only [PyData.depth, PyData.depthAll]
    omega
  · refine Nat.le_trans (small_len hs) ?_
    unfold wholeD
    simp only [bnd, bndAll]
    unfold dInts
    simp only [bnd]
    rw [bnd_ints, bnd_ints, sizeLine_eq]
    omega
theorem ex_muts {H H' : Hp} {p : Addr} {o : HO} (e : Ex H H') (h : H p = none) : Ex H (upd H' p o) := Ex.mut e h
section
variable {P : Program} {w : World} {K : PySem.W.Frag} {mg : Str → Option Value} {base : Heap} {C : Addr}
theorem ok_repr {f : Addr} {fd : FuncData} (F : Fun K "__repr__" "Table.__repr__" s_Table___repr__ f fd) (T : Txt K mg C) : FnG P w K mg base CX0 1 f fd ["self"] (sp_repr K C) := by
  refine okG F sc_Table___repr__ (fun vs H Q E h => ?_) (fun cdv A outer s H vs Q E hg hr h => ?_)
  · obtain ⟨p, ns, rfl, _⟩ := h
    rfl
  · obtain ⟨p, ns, rfl, t, g, b, k⟩ := h
    obtain ⟨dx, l, h1, h2⟩ := id t
    obtain ⟨f1, f2, f3⟩ := ints_fit g b
    have hu := hr.units
    have z0 : ((("Table(" : String) : Str)).length = 6 := by decide
    have z1 : (((")" : String) : Str)).length = 1 := by decide
    have z2 : sizeLine = 16777216 := by decide
    refine ⟨_, (pss_one (ps_ret (pe_joined (PJ.cons pe_str (PJ.cons (pe_fmtD hg hu (pe_fldK (K := K) rfl (pv 0) rfl)) (PJ.cons pe_str PJ.nil)))))), ?_⟩
    refine ⟨_, rfl, by rw [cat_len]; decide, ?_⟩
    simp only [tJs, tFmtD]
    refine (ev_fld (σ := start ["self"] [.ref p]) (K := K) (C := C) (ev_var (i := 0) rfl) h1 T.cl T.nD lk_days) H (Ex.refl H) _ fun H1 e1 => ?_
    refine ⟨l, dInts ns, rfl, dp_ints (ex_l e1 h2), f1, f2, by omega, _, rfl, by rw [cat_len, cat_len, z0, z2]; show 0 + 6 + _ ≤ _; omega, ?_⟩
    refine ⟨_, rfl, by rw [cat_len, cat_len, cat_len, z0, z1, z2]; show 0 + 6 + _ + 1 ≤ _; omega, ?_⟩
    exact k H1 e1
end
end K11
end
section
set_option maxHeartbeats 4000000
namespace K11
open PySem L2 Evl G TM
section
variable {P : Program} {w : World} {K : PySem.W.Frag} {mg : Str → Option Value} {base : Heap} {C : Addr}
theorem fix_given {ns : List Int} : given ns.length (fun k => decide (ns.getD k 0 = (k : Int))) (fun k => V.int (k : Int)) = (fixL ns).map V.int := by
  unfold fixL given
  rw [List.map_map] <;> rfl
theorem dec_comm {a b : Int} : decide (V.int a = V.int b) = decide (a = b) := by
  by_cases h : a = b
  · rw [decide_eq_true h, decide_eq_true (by rw [h])]
  · rw [decide_eq_false h, decide_eq_false (fun z => h (by injection z))]
theorem ok_whole {f f1 f2 f3 f4 f5 f6 f7 f8 p2 : Addr} {fd fd1 fd2 fd3 fd4 fd5 fd6 fd7 fd8 : FuncData} (F : Fun K "_law_whole_right" "_law_whole_right" s__law_whole_right f fd) (T : Txt K mg C)
    (c__law_low : Cal P w K mg base "_law_low" f1 fd1 ["_law_above", "_law_below"] 1 sp_low) (m_length : Prp P w K mg base C "length" p2 f2 fd2 ["self"] 1 (sp_length K C)) (m_days : Met P w K mg base C "days" f3 fd3 ["self"] 1 (sp_days K C))
    (m_leads : Met P w K mg base C "leads" f4 fd4 ["self"] 2 (sp_leads K C)) (m_mean_lead : Met P w K mg base C "mean_lead" f5 fd5 ["self"] 3 (sp_mean K C)) (m_fixed_days : Met P w K mg base C "fixed_days" f6 fd6 ["self"] 2 (sp_fixed K C))
    (m_asked_rows : Met P w K mg base C "asked_rows" f7 fd7 ["self"] 1 (sp_rows K C)) (m_repr : MetG P w K mg base C "__repr__" f8 fd8 ["self"] 1 (sp_repr K C)) :
    FnG P w K mg base CX0 4 f fd ["_law_table", "_law_days_here"] (sp_whole K C) := by
  refine okG F sc__law_whole_right (fun vs H Q E h => ?_) (fun cdv A outer s H vs Q E hg hr h => ?_)
  · obtain ⟨t, l, ns, rfl, _⟩ := h
    rfl
  · obtain ⟨t, l, ns, rfl, tab, hs, g, b, k⟩ := h
    obtain ⟨dx, l0, h1, h2⟩ := id tab
    have hu := hr.units
    have hgm := g.most
    have hgp := g.pos
    obtain ⟨m, hm⟩ := isMin_ex (leads_ne g)
    obtain ⟨M, hM⟩ := isMax_ex (leads_ne g)
    obtain ⟨mc, tkq, rd, cv⟩ := T.cM
    obtain ⟨tk2, cL⟩ := T.cL
    obtain ⟨w1, w2, w3⟩ := whole_fit g b hm hM
    have e0 : (ns.map V.int).length = ns.length := List.length_map ..
    have lt_of : ∀ {i : Nat} {y : V}, (ns.map V.int)[i]? = some y → i < ns.length ∧ y = .int (ns.getD i 0) := fun {i y} hi => by
      have hlt : i < ns.length := by have := (List.getElem?_eq_some_iff.mp hi).1; simpa using this
      rw [getI hlt] at hi
      cases hi
      exact ⟨hlt, rfl⟩
    refine ⟨_, (pss_cons (ps_setLc (i := 2) (own := [("_law_place", 5), ("_law_served", 6)]) (g := (gTup K 2 (gCons (gName 5) (gCons (gName 6) gNil)))) (by rfl) sc__law_whole_right.nd rfl rfl (sw_true rfl rfl rfl (by decide +kernel)) (pi_enum (by rfl) T.b_enumerate (pa_cons (pv 1) pa_nil)) (blkOk_by (own := [("_law_place", 5), ("_law_served", 6)]) (N := ["_law_table", "_law_days_here", "_law_leads", "_law_due", "_law_told", "_law_place", "_law_served"]) (sc := defScope s__law_whole_right) (by decide +kernel)) (fun _ _ _ _ _ => (pg_tup (by rfl) (pgs_cons (pg_name (i := 5) sc__law_whole_right.nd rfl (Or.inl rfl)) (pgs_cons (pg_name (i := 6) sc__law_whole_right.nd rfl (Or.inl rfl)) pgs_nil)))) (fun _ _ _ _ _ => pts_nil) (fun _ _ _ _ _ => (pe_op op_sub (pv 6) (pv 5)))) (pss_cons (ps_set (i := 3) sc__law_whole_right.nd rfl (Or.inl rfl) (pe_lst (pa_cons (pe_callB (lenS (K := K) rfl) (by rfl) T.b_len (by decide +kernel) (pa_cons (pv 1) pa_nil)) (pa_cons (pv 1) (pa_cons (pe_tup (pa_cons (pe_callB (minL (K := K) rfl rfl) (by rfl) T.b_min (by decide +kernel) (pa_cons (pv 2) pa_nil)) (pa_cons (pe_callB (maxL (K := K) rfl rfl) (by rfl) T.b_max (by decide +kernel) (pa_cons (pv 2) pa_nil)) pa_nil))) (pa_cons (pe_call c__law_low.ok (hr.mono (by decide)) (by rfl) c__law_low.mgx c__law_low.kp c__law_low.bd .nil pass0 (pa_cons (pe_callB (sumL (K := K) rfl rfl) (by rfl) T.b_sum (by decide +kernel) (pa_cons (pv 2) pa_nil)) (pa_cons (pe_callB (lenS (K := K) rfl) (by rfl) T.b_len (by decide +kernel) (pa_cons (pv 1) pa_nil)) pa_nil))) pa_nil)))))) (pss_cons (ps_expr (pe_bm PySem.F.plainAttrs_list PySem.F.slot_list_append PySem.F.type_list_append mt_append (pv 3) (pa_cons (pe_lc (own := [("_law_place", 5)]) (g := (gName 5)) (by rfl) sc__law_whole_right.nd (pi_range1 (by rfl) T.b_range (pa_cons (pe_callB (lenS (K := K) rfl) (by rfl) T.b_len (by decide +kernel) (pa_cons (pv 1) pa_nil)) pa_nil)) (blkOk_by (own := [("_law_place", 5)]) (N := ["_law_table", "_law_days_here", "_law_leads", "_law_due", "_law_told", "_law_place", "_law_served"]) (sc := defScope s__law_whole_right) (by decide +kernel)) (fun _ _ _ _ _ => (pg_name (i := 5) sc__law_whole_right.nd rfl (Or.inl rfl))) (fun _ _ _ _ _ => (pts_one (pt_cmpR op_eq (pe_ix (ixL (K := K) rfl) (pv 1) (pv 5) (fun _ _ => rfl)) (pv 5) (nomark _)))) (fun _ _ _ _ _ => (pv 5))) pa_nil))) (pss_cons (ps_expr (pe_bm PySem.F.plainAttrs_list PySem.F.slot_list_append PySem.F.type_list_append mt_append (pv 3) (pa_cons (pe_lc (own := [("_law_place", 5), ("_law_served", 6)]) (g := (gTup K 2 (gCons (gName 5) (gCons (gName 6) gNil)))) (by rfl) sc__law_whole_right.nd (pi_enum (by rfl) T.b_enumerate (pa_cons (pv 1) pa_nil)) (blkOk_by (own := [("_law_place", 5), ("_law_served", 6)]) (N := ["_law_table", "_law_days_here", "_law_leads", "_law_due", "_law_told", "_law_place", "_law_served"]) (sc := defScope s__law_whole_right) (by decide +kernel)) (fun _ _ _ _ _ => (pg_tup (by rfl) (pgs_cons (pg_name (i := 5) sc__law_whole_right.nd rfl (Or.inl rfl)) (pgs_cons (pg_name (i := 6) sc__law_whole_right.nd rfl (Or.inl rfl)) pgs_nil)))) (fun _ _ _ _ _ => pts_nil) (fun _ _ _ _ _ => (pe_tup (pa_cons (pv 5) (pa_cons (pv 6) pa_nil))))) pa_nil))) (pss_cons (ps_set (i := 4) sc__law_whole_right.nd rfl (Or.inl rfl) (pe_lst (pa_cons (pe_prop (pv 0) T.cl m_length.pr m_length.ok (hr.mono (by decide)) m_length.bd .nil pass0 (by rfl)) (pa_cons (pe_meth0 (pv 0) T.cl m_days.me m_days.ok (hr.mono (by decide)) m_days.bd .nil pass0) (pa_cons (pe_meth0 (pv 0) T.cl m_leads.me m_leads.ok (hr.mono (by decide)) m_leads.bd .nil pass0) (pa_cons (pe_meth0 (pv 0) T.cl m_mean_lead.me m_mean_lead.ok (hr.mono (by decide)) m_mean_lead.bd .nil pass0) (pa_cons (pe_meth0 (pv 0) T.cl m_fixed_days.me m_fixed_days.ok (hr.mono (by decide)) m_fixed_days.bd .nil pass0) (pa_cons (pe_meth0 (pv 0) T.cl m_asked_rows.me m_asked_rows.ok (hr.mono (by decide)) m_asked_rows.bd .nil pass0) pa_nil)))))))) (pss_cons (ps_if (pt_cmpR op_ne (pe_callB (call_reprD hg hu) (by rfl) T.b_repr (by decide +kernel) (pa_cons (pv 4) pa_nil)) (pe_callB (call_reprD hg hu) (by rfl) T.b_repr (by decide +kernel) (pa_cons (pv 3) pa_nil)) (nomark _)) (pss_one (ps_ret pe_bl)) pss_nil) (pss_one (ps_ret (pe_and (pe_cmpR op_eq (pe_callB (call_reprO m_repr.at_ m_repr.fn m_repr.ok hg (hr.mono (by decide)) m_repr.bd pass0) (by rfl) T.b_repr (by decide +kernel) (pa_cons (pv 0) pa_nil)) (pe_op op_add_str (pe_op op_add_str pe_str (pe_callB (call_reprD hg hu) (by rfl) T.b_repr (by decide +kernel) (pa_cons (pv 1) pa_nil))) pe_str) (nomark _)) (pe_and (pe_cmpR op_eq (ClX.pe_cval (pe_glob (v := .ref C) rfl T.mg_Table rfl)) pe_int (nomark _)) (pe_one (pe_cmpR op_eq (pe_con (pv 0) (by rfl)) pe_int (nomark _))))))))))))), ?_⟩
    -- leads
    refine q_asgL (xs := (leadsL ns).map V.int) (by
      rw [← leads_given, ← e0]
      refine el_lcE (fun _ => true) (fun k => V.int (ns.getD k 0 - (k : Int))) (ev_var rfl) hs (by rw [e0]; omega) (fun _ _ => rfl) (fun _ _ _ _ _ => lc_yes) (fun i y H2 e2 hi _ => ?_)
      obtain ⟨hlt, rfl⟩ := lt_of hi
      exact ev_op (ev_var rfl) (ev_var rfl) rv_I0) fun q1 H1 _ e1 h3 => ?_
    -- due
    refine q_lst (ac_v (ev_cb (ea_cons (ev_var rfl) ea_nil) (rc_len (.inl (ex_l e1 hs)) e0)) fun H2 e2 => ac_v (ev_var rfl) fun H3 e3 => ac_u (eu_tup (ea_cons (ev_cb (ea_cons (ev_var rfl) ea_nil) (rc_min (ex_l (e2.trans e3) (sq_of h3)) hm.1 hm.2)) (ea_cons (ev_cb (ea_cons (ev_var rfl) ea_nil) (rc_max (ex_l (e2.trans e3) (sq_of h3)) hM.1 hM.2)) ea_nil)) (by show 2 ≤ 100000; decide)) fun u2 H4 n4 e4 h4 =>
      ac_u (eu_call (ea_cons (ev_cb (ea_cons (ev_var rfl) ea_nil) (rc_sum (ex_l ((e2.trans e3).trans e4) (sq_of h3)))) (ea_cons (ev_cb (ea_cons (ev_var rfl) ea_nil) (rc_len (.inl (ex_l (((e1.trans e2).trans e3).trans e4) hs)) e0)) ea_nil)) (spu_low hgp hgm)) fun u3 H5 n5 e5 h5 => ac_nil ⟨by show 4 ≤ sizeLine; decide, fun d hd => ?_⟩)
    have eA : Ex H H5 := (((e1.trans e2).trans e3).trans e4).trans e5
    have h4' : H5 u2 = some (.tup [.int m, .int M]) := e5 u2 _ h4
    have nd4 : u2 ≠ d := ne_of_none h4' hd
    have nd5 : u3 ≠ d := ne_of_none h5 hd
    have eB : Ex H (upd H5 d (.lst [.int (ns.length : Int), .ref l, .ref u2, .ref u3])) := eA.trans (Ex.new hd)
    have hdH : H d = none := fresh_back eA hd
    generalize hH6 : upd H5 d (.lst [.int (ns.length : Int), .ref l, .ref u2, .ref u3]) = H6 at eB
    have hd6 : H6 d = some (.lst [.int (ns.length : Int), .ref l, .ref u2, .ref u3]) := by rw [← hH6]; exact upd_same
    have h46 : H6 u2 = some (.tup [.int m, .int M]) := by rw [← hH6, upd_ne nd4]; exact h4'
    have h56 : H6 u3 = some (.tup [.int ((leadsL ns).sum.fdiv (meanG (leadsL ns).sum ns.length)), .int ((ns.length : Int).fdiv (meanG (leadsL ns).sum ns.length))]) := by rw [← hH6, upd_ne nd5]; exact h5
    clear hH6 h4 h4' h5
    -- due.append(..)
    have elF : EvL (tLc (iRng1 (tCons (tCB (fun xs H Q => ∃ p ys, xs = [.ref p] ∧ (SqL K H p ys ∨ SqT K H p ys) ∧ Q (.int (ys.length : Int)) H) (tCons (tVar 1) tNil)) tNil)) (gName 5) (tTest (tOp rEq (tOp (rIxL K) (tVar 1) (tVar 5)) (tVar 5))) (tVar 5) [5]) ([some (.ref t), some (.ref l), some (.ref q1), some (.ref d), none, none, none] : L2.St) H6 ((fixL ns).map V.int) := by
      have := el_lcR1 (σ := ([some (.ref t), some (.ref l), some (.ref q1), some (.ref d), none, none, none] : L2.St)) (H := H6) (vs := [5]) (j := 5) (ta := tCons (tCB (fun xs H Q => ∃ p ys, xs = [.ref p] ∧ (SqL K H p ys ∨ SqT K H p ys) ∧ Q (.int (ys.length : Int)) H) (tCons (tVar 1) tNil)) tNil) (t := tTest (tOp rEq (tOp (rIxL K) (tVar 1) (tVar 5)) (tVar 5))) (te := tVar 5)
        (fun k => decide (ns.getD k 0 = (k : Int))) (fun k => V.int (k : Int)) (n := (ns.length : Int)) (ea_cons (ev_cb (ea_cons (ev_var rfl) ea_nil) (rc_len (.inl (ex_l eB hs)) e0)) ea_nil) (by omega) (fun _ => rfl)
        (fun i H7 e7 hi => by
          refine et_is (et_test (ev_op (ev_op (ev_var rfl) (ev_var rfl) (rv_ixL (ex_l (eB.trans e7) hs) (atI_nat (getI (by omega : i < ns.length))))) (ev_var rfl) (rv_eq rfl))) dec_comm)
        (fun i H7 e7 hi _ => ev_var rfl)
      rw [Int.toNat_natCast, fix_given] at this
      exact this
    refine q_appL hd6 (ev_var rfl) elF (by show 4 < 100000; decide) fun q4 H7 n7 e7 h7 => ?_
    have nd7 : q4 ≠ d := (ne_of_none hd6 n7).symm
    have eC : Ex H (upd H7 d (.lst ([.int (ns.length : Int), .ref l, .ref u2, .ref u3] ++ [.ref q4]))) := (eB.trans e7).mut hdH
    have h47 := e7 u2 _ h46
    have h57 := e7 u3 _ h56
    generalize hH8 : upd H7 d (.lst ([.int (ns.length : Int), .ref l, .ref u2, .ref u3] ++ [.ref q4])) = H8 at eC
    have hd8 : H8 d = some (.lst [.int (ns.length : Int), .ref l, .ref u2, .ref u3, .ref q4]) := by rw [← hH8]; exact upd_same
    have h48 : H8 u2 = some (.tup [.int m, .int M]) := by rw [← hH8, upd_ne nd4]; exact h47
    have h58 : H8 u3 = some (.tup [.int ((leadsL ns).sum.fdiv (meanG (leadsL ns).sum ns.length)), .int ((ns.length : Int).fdiv (meanG (leadsL ns).sum ns.length))]) := by rw [← hH8, upd_ne nd5]; exact h57
    have h78 : H8 q4 = some (.lst ((fixL ns).map V.int)) := by rw [← hH8, upd_ne nd7]; exact h7
    clear hH8 h47 h57 h7 h46 h56 hd6
    refine q_appR hd8 (ev_var rfl) (evr_lcE (xs := ns.map V.int) (ev_var rfl) (ex_l eC hs) (by rw [e0]; omega) (fun _ _ => rfl) (fun _ _ => rfl) (fun _ _ => rfl)) (by show 5 < 100000; decide) fun q5 ts H9 n9 e9 h9 hlen htp => ?_
    have nd9 : q5 ≠ d := (ne_of_none hd8 n9).symm
    have hd9 := e9 d _ hd8
    have eD : Ex H (upd H9 d (.lst ([.int (ns.length : Int), .ref l, .ref u2, .ref u3, .ref q4] ++ [.ref q5]))) := (eC.trans e9).mut hdH
    have g4 := e9 u2 _ h48
    have g5 := e9 u3 _ h58
    have g7 := e9 q4 _ h78
    generalize hH10 : upd H9 d (.lst ([.int (ns.length : Int), .ref l, .ref u2, .ref u3, .ref q4] ++ [.ref q5])) = H10 at eD
    have dueD : Dp K H10 (.ref d) (.list (wholeD ns m M)) := by
      refine .lst (xs := [.int (ns.length : Int), .ref l, .ref u2, .ref u3, .ref q4, .ref q5]) (sq_of (by rw [← hH10]; exact upd_same)) ?_
      refine .cons (.int _) (.cons (dp_ints (ex_l eD hs)) (.cons (.tup (st_of (xs := [.int m, .int M]) (by rw [← hH10, upd_ne nd4]; exact g4)) (.cons (.int _) (.cons (.int _) .nil))) (.cons (.tup (st_of (xs := [.int _, .int _]) (by rw [← hH10, upd_ne nd5]; exact g5)) (.cons (.int _) (.cons (.int _) .nil))) (.cons (dp_ints (sq_of (by rw [← hH10, upd_ne nd7]; exact g7))) (.cons (dp_rows (ts := ts) (by rw [← hH10, upd_ne nd9]; exact h9) hlen fun j T x a1 a2 => ?_) .nil)))))
      have a3 := htp j T x a1 a2
      rw [← hH10, upd_ne (ne_of a3 hd9 (fun z => by cases z))]
      exact a3
    clear hH10 g4 g5 g7 h9 htp hd9 h48 h58 h78 hd8
    have tab10 := tab.mono eD
    have h110 := eD t _ h1
    -- told
    refine q_asgD (K := K) (d := .list (wholeD ns m M)) (evd_lst (ds := wholeD ns m M) (evad_cons (evd_int (ev_prop (ev_var rfl) h110 (spv_length tab10))) (evad_cons (evd_ints (el_meth (ev_var rfl) h110 rfl ea_nil (spl_days tab10))) (evad_cons (evd_u (eu_meth (ev_var rfl) h110 rfl ea_nil (spu_leads tab10 g hm hM)) fun _ _ => .cons (.int _) (.cons (.int _) .nil))
      (evad_cons (evd_u (eu_meth (ev_var rfl) h110 rfl ea_nil (spu_mean tab10 g)) fun _ _ => .cons (.int _) (.cons (.int _) .nil)) (evad_cons (evd_ints (el_meth (ev_var rfl) h110 rfl ea_nil (spl_fixed tab10 g))) (evad_cons (evd_r (evr_meth (ev_var rfl) h110 rfl ea_nil (spr_rows tab10))) evad_nil)))))) (by show 6 ≤ 100000; decide)) fun v11 H11 e11 toldD => ?_
    have eE := eD.trans e11
    refine q_when (b := false) (et_is (et_test (ev_op (ev_repr (evd_ref (ev_var rfl) toldD) w1 w2 w3) (ev_repr (evd_ref (ev_var rfl) (dp_mono e11 dueD)) w1 w2 w3) (rv_ne rfl))) (by rw [decide_eq_true rfl]; rfl)) (fun q => nomatch q) fun _ H12 e12 => ?_
    have eF := eE.trans e12
    have tab12 := tab.mono eF
    obtain ⟨f1, f2, f3⟩ := ints_fit g b
    have z0 : ((("Table(" : String) : Str)).length = 6 := by decide
    have z1 : (((")" : String) : Str)).length = 1 := by decide
    have z2 : sizeLine = 16777216 := by decide
    refine s_ret (ev_is (ev_andV (a := true) (ev_is (ev_op (ev_cb (ea_cons (ev_var rfl) ea_nil) (rc_reprO tab12 g b)) (ev_op (ev_op ev_c (ev_repr (evd_ref (ev_var rfl) (dp_ints (ex_l eF hs))) f1 f2 (Nat.le_trans f3 (by rw [z2]; decide))) (rv_cat (by rw [z0, z2]; show 6 + (dInts ns).shown.length ≤ _; omega))) ev_c (rv_cat (by rw [cat_len, z0, z1, z2]; show 6 + (dInts ns).shown.length + 1 ≤ _; omega))) (rv_eq rfl)) (congrArg V.bl (decide_eq_true (by unfold tabStr; rw [Str.empty_append]; rfl)))) fun _ => ev_andV (a := true) (b := true) (ev_is (ev_op (ev_const ev_glob rd cv) ev_c (rv_eq rfl)) (congrArg V.bl (decide_eq_true rfl))) fun _ => ev_is (ev_op (ev_con (ev_var rfl) (eF t _ h1) T.cl cL rfl) ev_c (rv_eq rfl)) (congrArg V.bl (decide_eq_true rfl))) rfl) fun H13 e13 => k H13 (eF.trans e13)
end
end K11
end
section
set_option maxHeartbeats 4000000
namespace K11
open PySem L2 Evl G TM
section
variable {K : PySem.W.Frag} {σ : L2.St} {H : Hp} {p C : Addr} {tf : TE} {tA : TA} {vs : List V} {z : V} {X : Cx} {sp : Sp} {E : XK} {ta tb : TE} {d : PyData}
theorem ev_callO {dx : Addr} {fs : List (Str × V)} (h : Ev tf σ H (.ref p)) (ho : H p = some (.ins C dx fs)) (ha : EvA tA σ H vs) (hs : SpV sp (.ref p :: vs) H z) : Ev (StX.tCallO X C sp E tf tA) σ H z := fun H1 e Q q =>
  h H1 e _ fun H2 e2 => ⟨p, rfl, ha H2 (e.trans e2) _ fun H3 e3 => ⟨.inr ⟨dx, fs, ((e.trans e2).trans e3) p _ ho⟩, hs H3 ((e.trans e2).trans e3) Q (fun H4 e4 => q H4 ((e2.trans e3).trans e4)) E⟩⟩
/-- data that are alike -/
theorem ev_neD (ha : EvD K ta σ H d) (hb : EvD K tb σ H d) (hs : SeqAt.shaped d = true) (hc : d.canLay0 = true) : Ev (tOp (rNeD K) ta tb) σ H (.bl false) := fun H1 e Q q =>
  ha H1 e _ fun v H2 e2 hv => hb H2 (e.trans e2) _ fun u H3 e3 hu => ⟨d, d, dp_mono e3 hv, hu, hs, hs, by rw [SeqAt.eqv_refl d hc]; exact q H3 (e2.trans e3)⟩
end
/-! ### bounds -/
theorem bd_get {ns : List Int} (b : Bd ns) {i : Nat} (hi : i < ns.length) : -1000000000000 ≤ ns.getD i 0 ∧ ns.getD i 0 ≤ 1000000000000 := b _ (by rw [List.getD_eq_getElem?_getD, List.getElem?_eq_getElem hi]; exact List.getElem_mem hi)
theorem on_bd {ns : List Int} (g : Good ns) (b : Bd ns) (x : Int) : x - 1000000001000 ≤ onL ns x ∧ onL ns x ≤ x + 1000000001000 := by
  obtain ⟨i, t, hi, rfl⟩ := split_at g x
  rw [on_at g hi]
  have := bd_get b hi
  have := g.most
  omega
theorem by_bd {ns : List Int} (g : Good ns) (b : Bd ns) (x : Int) : x - 1000000001000 ≤ byL ns x ∧ byL ns x ≤ x + 1000000001001 := by
  have h := byL_is g x
  have h1 := on_bd g b (byL ns x)
  have h2 := on_bd g b (byL ns x - 1)
  have := h.1
  have := h.2
  omega
theorem few_fit {is : List Int} (h : ∀ i, i ∈ is → -99999999999999999999 ≤ i ∧ i ≤ 99999999999999999999) (hl : is.length ≤ 1000) : PyData.showable (dInts is) = true ∧ PyData.depth (dInts is) ≤ 60 ∧ (PyData.shown (dInts is)).length ≤ sizeLine := by
  have hs : smallD (dInts is) = true := by unfold dInts; simp only [smallD]; exact small_ints fun n hn => by have := h n hn; omega
  refine ⟨small_show hs, by have := depth_ints is; omega, Nat.le_trans (small_len hs) ?_⟩
  unfold dInts
  simp only [bnd]
  rw [bnd_ints, sizeLine_eq]
  omega
theorem bools_fit (b : Bool) : PyData.showable (.list [.bool b, .bool b]) = true ∧ PyData.depth (.list [.bool b, .bool b]) ≤ 60 ∧ (PyData.shown (.list [.bool b, .bool b])).length ≤ sizeLine := by
  have hs : smallD (.list [.bool b, .bool b]) = true := by simp [smallD, smallAll]
  refine ⟨small_show hs, by simp [PyData.depth, PyData.depthAll], Nat.le_trans (small_len hs) ?_⟩
  simp only [bnd, bndAll]
  rw [sizeLine_eq]
  omega
def Far (x : Int) : Prop := -1000000000000 ≤ x ∧ x ≤ 1000000000000
def sp_day (K : PySem.W.Frag) (C : Addr) : Sp := fun vs H Q _ => ∃ (t l : Addr) (ns : List Int) (x : Int), vs = [.ref t, .ref l, .int x] ∧ Tab K C H t ns ∧ SqL K H l (ns.map V.int) ∧ Good ns ∧ Bd ns ∧ Far x ∧ RetV (.bl true) H Q
theorem spv_dayR {K : PySem.W.Frag} {C t l : Addr} {ns : List Int} {x : Int} {H : Hp} (h : Tab K C H t ns) (hl : SqL K H l (ns.map V.int)) (g : Good ns) (b : Bd ns) (f : Far x) : SpV (sp_day K C) ([.ref t, .ref l, .int x] ++ []) H (.bl true) := fun H1 e Q q E => ⟨t, l, ns, x, rfl, h.mono e, ex_l e hl, g, b, f, q⟩
def KbDay (K : PySem.W.Frag) (fd : FuncData) : Prop := KBn K fd ["self", "day"] 1 ["day"] (fun us ws => us ++ ws) (fun vs zs => vs ++ zs)
section
variable {P : Program} {w : World} {K : PySem.W.Frag} {mg : Str → Option Value} {base : Heap} {C : Addr}
theorem ok_day {f f1 f2 f3 f4 f5 f6 f7 f8 : Addr} {fd fd1 fd2 fd3 fd4 fd5 fd6 fd7 fd8 : FuncData} (F : Fun K "_law_day_right" "_law_day_right" s__law_day_right f fd) (T : Txt K mg C)
    (c__law_on : Cal P w K mg base "_law_on" f1 fd1 ["_law_days_here", "_law_day"] 1 (sp_lon K)) (c__law_by : Cal P w K mg base "_law_by" f2 fd2 ["_law_days_here", "_law_day"] 2 (sp_lby K)) (c__law_til : Cal P w K mg base "_law_til" f3 fd3 ["_law_days_here", "_law_day"] 3 (sp_ltil K))
    (m_on : Met P w K mg base C "on" f4 fd4 ["self", "day"] 3 (sp_on K C)) (m_by : Met P w K mg base C "by" f5 fd5 ["self", "day"] 3 (sp_by K C)) (m_til : Met P w K mg base C "til" f6 fd6 ["self", "day"] 4 (sp_til K C)) (m_is_served : Met P w K mg base C "is_served" f7 fd7 ["self", "day"] 4 (sp_served K C))
    (m_call : Met P w K mg base C "__call__" f8 fd8 ["self", "day"] 4 (sp_on K C)) (co : StX.CallO K C f8) (kb_on_day : KbDay K fd4) (kb_by_day : KbDay K fd5) (kb_til_day : KbDay K fd6) (kb_is_served_day : KbDay K fd7) :
    FnG P w K mg base CX0 5 f fd ["_law_table", "_law_days_here", "_law_day"] (sp_day K C) := by
  refine okG F sc__law_day_right (fun vs H Q E h => ?_) (fun cdv A outer s H vs Q E hg hr h => ?_)
  · obtain ⟨t, l, ns, x, rfl, _⟩ := h
    rfl
  · obtain ⟨t, l, ns, x, rfl, tab, hs, g, b, ⟨fx1, fx2⟩, k⟩ := h
    obtain ⟨dx, l0, h1, h2⟩ := id tab
    have hu := hr.units
    have o1 := on_bd g b x
    have y1 := by_bd g b x
    have y2 := by_bd g b (x + 1)
    have B1 := byL_is g x
    have B2 := byL_is g (x + 1)
    refine ⟨_, (pss_cons (ps_set (i := 3) sc__law_day_right.nd rfl (Or.inl rfl) (pe_call c__law_on.ok (hr.mono (by decide)) (by rfl) c__law_on.mgx c__law_on.kp c__law_on.bd .nil pass0 (pa_cons (pv 1) (pa_cons (pv 2) pa_nil)))) (pss_cons (ps_if (pt_cmpR op_ne (pe_callB (call_reprD hg hu) (by rfl) T.b_repr (by decide +kernel) (pa_cons (pe_lst (pa_cons (pe_meth (pv 0) T.cl m_on.me m_on.ok (hr.mono (by decide)) m_on.bd .nil pass0 (pa_cons (pv 2) pa_nil)) (pa_cons (StX.pe_callO (pv 0) co (m_call.ok.raw m_call.bd .nil) (hr.mono (by decide)) pass0 (pa_cons (pv 2) pa_nil)) (pa_cons (pe_methN0 (pv 0) T.cl m_on.me m_on.ok (hr.mono (by decide)) kb_on_day pass0 (pk_cons (pv 2) pk_nil)) pa_nil)))) pa_nil)) (pe_callB (call_reprD hg hu) (by rfl) T.b_repr (by decide +kernel) (pa_cons (pe_op op_rep (pe_lst (pa_cons (pv 3) pa_nil)) pe_int) pa_nil)) (nomark _)) (pss_one (ps_ret pe_bl)) pss_nil) (pss_cons (ps_par (i := 4) (j := 5) (by rfl) sc__law_day_right.nd rfl rfl (by decide) rfl rfl (pa_cons (pe_call c__law_by.ok (hr.mono (by decide)) (by rfl) c__law_by.mgx c__law_by.kp c__law_by.bd .nil pass0 (pa_cons (pv 1) (pa_cons (pv 2) pa_nil))) (pa_cons (pe_call c__law_til.ok (hr.mono (by decide)) (by rfl) c__law_til.mgx c__law_til.kp c__law_til.bd .nil pass0 (pa_cons (pv 1) (pa_cons (pv 2) pa_nil))) pa_nil)) (by rfl)) (pss_cons (ps_if (pt_cmpR op_ne (pe_callB (call_reprD hg hu) (by rfl) T.b_repr (by decide +kernel) (pa_cons (pe_lst (pa_cons (pe_meth (pv 0) T.cl m_by.me m_by.ok (hr.mono (by decide)) m_by.bd .nil pass0 (pa_cons (pv 2) pa_nil)) (pa_cons (pe_meth (pv 0) T.cl m_til.me m_til.ok (hr.mono (by decide)) m_til.bd .nil pass0 (pa_cons (pv 2) pa_nil)) (pa_cons (pe_methN0 (pv 0) T.cl m_by.me m_by.ok (hr.mono (by decide)) kb_by_day pass0 (pk_cons (pv 2) pk_nil)) (pa_cons (pe_methN0 (pv 0) T.cl m_til.me m_til.ok (hr.mono (by decide)) kb_til_day pass0 (pk_cons (pv 2) pk_nil)) pa_nil))))) pa_nil)) (pe_callB (call_reprD hg hu) (by rfl) T.b_repr (by decide +kernel) (pa_cons (pe_op op_rep (pe_lst (pa_cons (pv 4) (pa_cons (pv 5) pa_nil))) pe_int) pa_nil)) (nomark _)) (pss_one (ps_ret pe_bl)) pss_nil) (pss_cons (ps_if (pt_cmpR op_ne (pe_callB (call_reprD hg hu) (by rfl) T.b_repr (by decide +kernel) (pa_cons (pe_lst (pa_cons (pe_meth (pv 0) T.cl m_is_served.me m_is_served.ok (hr.mono (by decide)) m_is_served.bd .nil pass0 (pa_cons (pv 2) pa_nil)) (pa_cons (pe_methN0 (pv 0) T.cl m_is_served.me m_is_served.ok (hr.mono (by decide)) kb_is_served_day pass0 (pk_cons (pv 2) pk_nil)) pa_nil))) pa_nil)) (pe_callB (call_reprD hg hu) (by rfl) T.b_repr (by decide +kernel) (pa_cons (pe_op op_rep (pe_lst (pa_cons (pe_cmpR op_eq (pe_call c__law_on.ok (hr.mono (by decide)) (by rfl) c__law_on.mgx c__law_on.kp c__law_on.bd .nil pass0 (pa_cons (pv 1) (pa_cons (pv 4) pa_nil))) (pv 2) (nomark _)) pa_nil)) pe_int) pa_nil)) (nomark _)) (pss_one (ps_ret pe_bl)) pss_nil) (pss_cons (ps_if (PW.pt (pw_or (pt_cmpR op_gt (pe_meth (pv 0) T.cl m_by.me m_by.ok (hr.mono (by decide)) m_by.bd .nil pass0 (pa_cons (pv 3) pa_nil)) (pv 2) (nomark _)) (pw_or (pt_cmpR op_lt (pe_meth (pv 0) T.cl m_til.me m_til.ok (hr.mono (by decide)) m_til.bd .nil pass0 (pa_cons (pv 3) pa_nil)) (pv 2) (nomark _)) (pw_or (pt_cmpR op_lt (pe_meth (pv 0) T.cl m_on.me m_on.ok (hr.mono (by decide)) m_on.bd .nil pass0 (pa_cons (pe_meth (pv 0) T.cl m_by.me m_by.ok (hr.mono (by decide)) m_by.bd .nil pass0 (pa_cons (pv 2) pa_nil)) pa_nil)) (pv 2) (nomark _)) (pw_or1 (pt_cmpR op_gt (pe_meth (pv 0) T.cl m_on.me m_on.ok (hr.mono (by decide)) m_on.bd .nil pass0 (pa_cons (pe_meth (pv 0) T.cl m_til.me m_til.ok (hr.mono (by decide)) m_til.bd .nil pass0 (pa_cons (pv 2) pa_nil)) pa_nil)) (pv 2) (nomark _))))))) (pss_one (ps_ret pe_bl)) pss_nil) (pss_one (ps_ret (pe_and (pe_cmpR op_lt (pe_meth (pv 0) T.cl m_on.me m_on.ok (hr.mono (by decide)) m_on.bd .nil pass0 (pa_cons (pe_op op_sub (pv 4) pe_int) pa_nil)) (pv 2) (nomark _)) (pe_and (pe_cmpR op_gt (pe_meth (pv 0) T.cl m_on.me m_on.ok (hr.mono (by decide)) m_on.bd .nil pass0 (pa_cons (pe_op op_add (pv 5) pe_int) pa_nil)) (pv 2) (nomark _)) (pe_one (pe_cmpR op_eq (pe_meth (pv 0) T.cl m_til.me m_til.ok (hr.mono (by decide)) m_til.bd .nil pass0 (pa_cons (pv 2) pa_nil)) (pe_op op_sub (pe_meth (pv 0) T.cl m_by.me m_by.ok (hr.mono (by decide)) m_by.bd .nil pass0 (pa_cons (pe_op op_add (pv 2) pe_int) pa_nil)) pe_int) (nomark _))))))))))))), ?_⟩
    refine q_asg (v := .int (onL ns x)) (ev_call (ea_cons (ev_var rfl) (ea_cons (ev_var rfl) ea_nil)) (spv_lon hs g)) fun H1 e1 => ?_
    have t1 := tab.mono e1
    have i1 := e1 t _ h1
    obtain ⟨a1, a2, a3⟩ := few_fit (is := [onL ns x, onL ns x, onL ns x]) (by simp only [List.mem_cons, List.mem_nil_iff, or_false]; intro i hi; omega) (by show 3 ≤ 1000; decide)
    refine q_when (b := false) (et_is (et_test (ev_op (ev_repr (evd_lst (ds := [.int (onL ns x), .int (onL ns x), .int (onL ns x)]) (evad_cons (evd_int (ev_meth (ev_var rfl) i1 rfl (ea_cons (ev_var rfl) ea_nil) (spv_on t1 g))) (evad_cons (evd_int (ev_callO (ev_var rfl) i1 (ea_cons (ev_var rfl) ea_nil) (spv_on t1 g))) (evad_cons (evd_int (ev_methN (ev_var rfl) i1 rfl ea_nil (ea_cons (ev_var rfl) ea_nil) rfl rfl (spv_on t1 g))) evad_nil))) (by show 3 ≤ 100000; decide)) a1 a2 a3)
      (ev_repr (evd_rep (k := 3) (evad_cons (evd_int (ev_var rfl)) evad_nil) (by show 1 ≤ 1000; decide) (by decide) ev_c) a1 a2 a3) (rv_ne rfl))) (congrArg not (decide_eq_true (show _ = _ from rfl)))) (fun q => nomatch q) fun _ H2 e2 => ?_
    have e12 := e1.trans e2
    refine q_par (v := .int (byL ns x)) (w := .int (byL ns (x + 1) - 1)) (ea_cons (ev_call (ea_cons (ev_var rfl) (ea_cons (ev_var rfl) ea_nil)) (spv_lby (ex_l e12 hs) g)) (ea_cons (ev_call (ea_cons (ev_var rfl) (ea_cons (ev_var rfl) ea_nil)) (spv_ltil (ex_l e12 hs) g)) ea_nil)) fun H3 e3 => ?_
    have e13 := e12.trans e3
    have t3 := tab.mono e13
    have i3 := e13 t _ h1
    obtain ⟨b1, b2, b3⟩ := few_fit (is := [byL ns x, byL ns (x + 1) - 1, byL ns x, byL ns (x + 1) - 1]) (by simp only [List.mem_cons, List.mem_nil_iff, or_false]; intro i hi; omega) (by show 4 ≤ 1000; decide)
    refine q_when (b := false) (et_is (et_test (ev_op (ev_repr (evd_lst (ds := [.int (byL ns x), .int (byL ns (x + 1) - 1), .int (byL ns x), .int (byL ns (x + 1) - 1)]) (evad_cons (evd_int (ev_meth (ev_var rfl) i3 rfl (ea_cons (ev_var rfl) ea_nil) (spv_by t3 g))) (evad_cons (evd_int (ev_meth (ev_var rfl) i3 rfl (ea_cons (ev_var rfl) ea_nil) (spv_til t3 g))) (evad_cons (evd_int (ev_methN (ev_var rfl) i3 rfl ea_nil (ea_cons (ev_var rfl) ea_nil) rfl rfl (spv_by t3 g))) (evad_cons (evd_int (ev_methN (ev_var rfl) i3 rfl ea_nil (ea_cons (ev_var rfl) ea_nil) rfl rfl (spv_til t3 g))) evad_nil)))) (by show 4 ≤ 100000; decide)) b1 b2 b3)
      (ev_repr (evd_rep (k := 2) (evad_cons (evd_int (ev_var rfl)) (evad_cons (evd_int (ev_var rfl)) evad_nil)) (by show 2 ≤ 1000; decide) (by decide) ev_c) b1 b2 b3) (rv_ne rfl))) (congrArg not (decide_eq_true (show _ = _ from rfl)))) (fun q => nomatch q) fun _ H4 e4 => ?_
    have e14 := e13.trans e4
    have t4 := tab.mono e14
    have i4 := e14 t _ h1
    obtain ⟨c1, c2, c3⟩ := bools_fit (decide (onL ns (byL ns x) = x))
    refine q_when (b := false) (et_is (et_test (ev_op (ev_repr (evd_lst (ds := [.bool (decide (onL ns (byL ns x) = x)), .bool (decide (onL ns (byL ns x) = x))]) (evad_cons (evd_bl (ev_meth (ev_var rfl) i4 rfl (ea_cons (ev_var rfl) ea_nil) (spv_served t4 g))) (evad_cons (evd_bl (ev_methN (ev_var rfl) i4 rfl ea_nil (ea_cons (ev_var rfl) ea_nil) rfl rfl (spv_served t4 g))) evad_nil)) (by show 2 ≤ 100000; decide)) c1 c2 c3)
      (ev_repr (evd_rep (k := 2) (ds := [.bool (decide (onL ns (byL ns x) = x))]) (evad_cons (evd_bl (ev_is (ev_op (ev_call (ea_cons (ev_var rfl) (ea_cons (ev_var rfl) ea_nil)) (spv_lon (ex_l e14 hs) g)) (ev_var rfl) (rv_eq rfl)) (congrArg V.bl dec_comm))) evad_nil) (by show 1 ≤ 1000; decide) (by decide) ev_c) c1 c2 c3) (rv_ne rfl))) (congrArg not (decide_eq_true (show _ = _ from rfl)))) (fun q => nomatch q) fun _ H5 e5 => ?_
    have e15 := e14.trans e5
    have t5 := tab.mono e15
    have i5 := e15 t _ h1
    have k1 : byL ns (onL ns x) ≤ x := (by_le g).mpr (Int.le_refl _)
    have k2 : ¬ byL ns (onL ns x + 1) ≤ x := fun q => by have := (by_le g).mp q; omega
    have k3 : x ≤ onL ns (byL ns x) := B1.1
    have k4 : onL ns (byL ns (x + 1) - 1) < x + 1 := B2.2
    refine q_when (b := false) (et_or (a := false) (b := false) (et_is (et_test (ev_op (ev_meth (ev_var rfl) i5 rfl (ea_cons (ev_var rfl) ea_nil) (spv_by t5 g)) (ev_var rfl) rv_I0)) (decide_eq_false (by omega))) fun _ => et_or (a := false) (b := false) (et_is (et_test (ev_op (ev_meth (ev_var rfl) i5 rfl (ea_cons (ev_var rfl) ea_nil) (spv_til t5 g)) (ev_var rfl) rv_I0)) (decide_eq_false (by omega))) fun _ => et_or (a := false) (b := false) (et_is (et_test (ev_op (ev_meth (ev_var rfl) i5 rfl (ea_cons (ev_meth (ev_var rfl) i5 rfl (ea_cons (ev_var rfl) ea_nil) (spv_by t5 g)) ea_nil) (spv_on t5 g)) (ev_var rfl) rv_I0)) (decide_eq_false (by omega))) fun _ =>
      et_is (et_test (ev_op (ev_meth (ev_var rfl) i5 rfl (ea_cons (ev_meth (ev_var rfl) i5 rfl (ea_cons (ev_var rfl) ea_nil) (spv_til t5 g)) ea_nil) (spv_on t5 g)) (ev_var rfl) rv_I0)) (decide_eq_false (by omega))) (fun q => nomatch q) fun _ H6 e6 => ?_
    have e16 := e15.trans e6
    have t6 := tab.mono e16
    have i6 := e16 t _ h1
    have k5 : onL ns (byL ns x - 1) < x := B1.2
    have k6 : x < onL ns (byL ns (x + 1) - 1 + 1) := by rw [show byL ns (x + 1) - 1 + 1 = byL ns (x + 1) by omega]; have := B2.1; omega
    refine s_ret (ev_is (ev_andV (a := true) (ev_is (ev_op (ev_meth (ev_var rfl) i6 rfl (ea_cons (ev_op (ev_var rfl) ev_c rv_I0) ea_nil) (spv_on t6 g)) (ev_var rfl) rv_I0) (congrArg V.bl (decide_eq_true k5))) fun _ => ev_andV (a := true) (b := true) (ev_is (ev_op (ev_meth (ev_var rfl) i6 rfl (ea_cons (ev_op (ev_var rfl) ev_c rv_I0) ea_nil) (spv_on t6 g)) (ev_var rfl) rv_I0) (congrArg V.bl (decide_eq_true k6))) fun _ => ev_is (ev_op (ev_meth (ev_var rfl) i6 rfl (ea_cons (ev_var rfl) ea_nil) (spv_til t6 g)) (ev_op (ev_meth (ev_var rfl) i6 rfl (ea_cons (ev_op (ev_var rfl) ev_c rv_I0) ea_nil) (spv_by t6 g)) ev_c rv_I0) (rv_eq rfl)) (congrArg V.bl (decide_eq_true rfl))) rfl) fun H7 e7 => k H7 (e16.trans e7)
end
end K11
end
section
set_option maxHeartbeats 4000000
namespace K11
open PySem L2 Evl G TM
section
variable {K : PySem.W.Frag} {σ : L2.St} {H : Hp} {p C : Addr} {i j i0 : Nat} {tA tr : TA} {tn ta tl te : TE} {Q : VK} {E : XK} {D : Ends} {tz : TS} {xs : List V} {vs : List Nat} {QA : List V → Hp → Prop} {ns : List Int}
theorem q_pick (hp : PotAt H p) (hv : σ[i]? = some (some (.ref p))) (ha : EvA tA σ (wo H p) xs) (h0 : 0 < xs.length) (h1 : xs.length ≤ 1000) (k : ∀ (j : Nat) (v : V) (H2 : Hp), xs[j]? = some v → Ex (wo H p) H2 → PotAt H2 p → tz D (σ.set i0 (some v)) H2) :
    tSeq (tAsg (tCall (sp_pick K) [] E (tCons (tVar i) (tCons (tLst tA) tNil))) (gName i0)) tz D σ H := pickC hp hv ha h0 h1 k
theorem ac_l (h : EvL te σ H xs) (k : ∀ p H1, H p = none → Ex H H1 → H1 p = some (.lst xs) → tr σ H1 fun xs H2 => QA (.ref p :: xs) H2) : tCons te tr σ H QA := h H (Ex.refl H) _ fun p H1 a b c => k p H1 a b c
/-- all([e for x in [..]]), the pot drawn from at each turn -/
theorem all_pot (hp : PotAt H p) (ha : EvA tA σ (wo H p) xs) (hz : xs.length ≤ 1000) (hw : ∀ x, wipe ((wipe σ vs).set j (some x)) vs = wipe σ vs)
    (he : ∀ (i : Nat) (x : V) (H' : Hp), xs[i]? = some x → Ex (wo H p) H' → PotAt H' p → ∀ Q : VK, (∀ H2, Ex (wo H' p) H2 → PotAt H2 p → Q (.bl true) H2) → te ((wipe σ vs).set j (some x)) H' Q)
    (k : ∀ H2, Ex (wo H p) H2 → PotAt H2 p → Q (.bl true) H2) : tCB (rAll K) (tCons (tLc (iList K (tLst tA)) (gName j) tYes te vs) tNil) σ H Q := ha H wo_ex _ fun H1 e1 => ⟨sz_of (by omega), fun a hn => by
  have hp1 := hp.mono e1
  obtain ⟨o1, ho1⟩ := hp1.some
  have hpa : p ≠ a := ne_of_none ho1 hn
  have hp2 : PotAt (upd H1 a (.lst xs)) p := hp1.mono (Ex.new hn)
  refine ⟨a, rfl, ⟨xs, sq_of upd_same⟩, fun Dl hD => ?_⟩
  generalize hH2 : upd H1 a (.lst xs) = H2 at hp2 hD
  have ha2 : H2 a = some (.lst xs) := by rw [← hH2]; exact upd_same
  have e2 : Ex (wo H p) (wo H2 p) := wo_mono (e1.trans (by rw [← hH2]; exact Ex.new hn))
  obtain ⟨o2, ho2⟩ := hp2.some
  have hpD : p ≠ Dl := ne_of_none ho2 hD
  have hwD : wo H2 p Dl = none := by rw [wo_ne hpD.symm]; exact hD
  refine lc_list (xs := xs) (fun i H' => Ex (wo H2 p) H' ∧ PotAt H' p ∧ H' Dl = some (.lst (List.replicate i (V.bl true)))) ⟨?_, ?_, upd_same⟩ (fun i H' _ h => sq_of (h.1 a _ (by rw [wo_ne hpa.symm]; exact ha2))) (fun i x H' hi h => ?_) (fun H' h => ?_)
  · exact wo_ex.trans (Ex.new hD)
  · exact hp2.mono (Ex.new hD)
  · obtain ⟨g1, g2, g3⟩ := h
    refine ⟨hw x, ?_⟩
    unfold tYes
    refine iteT ?_
    refine he i x H' hi (e2.trans g1) g2 _ fun H3 e3 p3 => ?_
    have hd3 : H3 Dl = some (.lst (List.replicate i (V.bl true))) := e3 Dl _ (by rw [wo_ne hpD.symm]; exact g3)
    have hlt : i < xs.length := (List.getElem?_eq_some_iff.mp hi).1
    refine ⟨_, hd3, by rw [List.length_replicate]; exact sz_lt (by omega), ?_, ?_, ?_⟩
    · exact Ex.mut (fun b o hb => e3 b o (by
        have hbp : b ≠ p := fun q => by subst q; rw [wo_at] at hb; cases hb
        rw [wo_ne hbp]; exact g1 b o hb)) hwD
    · obtain ⟨a1, b1, q1, q2⟩ := p3
      exact ⟨a1, b1, q1, by rw [upd_ne hpD]; exact q2⟩
    · rw [upd_same, List.replicate_succ']
  · obtain ⟨g1, g2, g3⟩ := h
    refine ⟨Dl, List.replicate xs.length true, rfl, sq_of (by rw [List.map_replicate]; exact g3), ?_⟩
    have : (List.replicate xs.length true).all id = true := by simp
    rw [this]
    exact k H' (e2.trans g1) g2⟩
/-- the same, nothing changed by the turns -/
theorem all_ev (h : tl σ H fun x H1 => ∃ a xs, x = .ref a ∧ H1 a = some (.lst xs) ∧ xs.length ≤ 1000 ∧ (∀ (i : Nat) (y : V) (H2 : Hp), Ex H1 H2 → xs[i]? = some y → Ev te ((wipe σ vs).set j (some y)) H2 (.bl true)) ∧ ∀ H2, Ex H1 H2 → Q (.bl true) H2) (hw : ∀ x, wipe ((wipe σ vs).set j (some x)) vs = wipe σ vs)
    (hm : ∀ {Q1 Q2 : VK}, (∀ x H1, Q1 x H1 → Q2 x H1) → tl σ H Q1 → tl σ H Q2) : tCB (rAll K) (tCons (tLc (iList K tl) (gName j) tYes te vs) tNil) σ H Q := by
  refine hm (fun x H1 h => ?_) h
  obtain ⟨a, xs, rfl, ha, hz, he, k⟩ := h
  refine ⟨a, rfl, ⟨xs, sq_of ha⟩, fun Dl hD => ?_⟩
  refine lc_list (xs := xs) (Cw H1 (fun _ => true) (fun _ => V.bl true) Dl) ⟨hD, Ex.new hD, upd_same⟩ (fun i H' _ p => sq_of (p.2.1 a _ ha)) (fun i x H' hi p => ⟨hw x, cw_turn p (by have := (List.getElem?_eq_some_iff.mp hi).1; omega) lc_yes (fun _ => he i x H1 (Ex.refl _) hi)⟩) (fun H' p => ?_)
  have e1 : given xs.length (fun _ => true) (fun _ => V.bl true) = (List.replicate xs.length true).map V.bl := by
    unfold given
    rw [List.filter_eq_self.mpr (fun _ _ => rfl)]
    apply List.ext_getElem <;> simp
  refine ⟨Dl, List.replicate xs.length true, rfl, sq_of (by rw [← e1]; exact p.2.2), ?_⟩
  have : (List.replicate xs.length true).all id = true := by simp
  rw [this]
  exact k H' p.2.1
/-- Table(s) -/
theorem make_tab {s : Addr} (ha : Ev ta σ H (.ref s)) (hs : SeqT K H s (ns.map V.int)) (g : Good ns) (k : ∀ (x l dx : Addr) (H2 : Hp), H x = none → H l = none → Ex H H2 → H2 x = some (.ins C dx [("_days", .ref l)]) → H2 l = some (.lst (ns.map V.int)) → Q (.ref x) H2) :
    tMake C (sp_init K C) [] E (tCons ta tNil) σ H Q := ha H (Ex.refl H) _ fun H1 e1 => fun x dx hx hdx hne => by
  have hsx : s ≠ x := by rcases hs with h | h <;> exact ne_of_none (e1 s _ h) hx
  have hsd : s ≠ dx := by rcases hs with h | h <;> exact ne_of_none (e1 s _ h) hdx
  refine ⟨x, dx, s, ns, rfl, upd_same, (hs.mono e1).imp (fun h => by rw [upd_ne hsx, upd_ne hsd]; exact h) (fun h => by rw [upd_ne hsx, upd_ne hsd]; exact h), g, fun l H' hk h1 h2 hl => ⟨rfl, ?_⟩⟩
  have hlx : l ≠ x := (ne_of h1 h2 (fun z => by cases z)).symm
  refine k x l dx H' (fresh_back e1 hx) ?_ (fun b o hb => ?_) h1 h2
  · rw [upd_ne hlx] at hl
    by_cases q : l = dx
    · subst q; rw [upd_same] at hl; cases hl
    · rw [upd_ne q] at hl; exact fresh_back e1 hl
  · have hb1 := e1 b _ hb
    have hbx : b ≠ x := ne_of_none hb1 hx
    exact hk b o (by rw [upd_ne hbx, upd_ne (ne_of_none hb1 hdx)]; exact hb1) hbx
theorem make_tabK {s : Addr} {gV : List V → List V → List V} (hgV : ∀ x, gV [.ref x] [.ref s] = [.ref x, .ref s]) (h : ta σ H fun v H1 => v = .ref s ∧ Ex H H1 ∧ SeqT K H1 s (ns.map V.int)) (hm : ∀ {Q1 Q2 : VK}, (∀ x H1, Q1 x H1 → Q2 x H1) → ta σ H Q1 → ta σ H Q2) (g : Good ns) (k : ∀ (x l dx : Addr) (H2 : Hp), H x = none → H l = none → Ex H H2 → H2 x = some (.ins C dx [("_days", .ref l)]) → H2 l = some (.lst (ns.map V.int)) → Q (.ref x) H2) :
    tMakeK C 0 1 (sp_init K C) gV E tNil (tCons ta tNil) σ H Q := by
  refine hm (fun v H1 h => ?_) h
  obtain ⟨rfl, e1, hs⟩ := h
  refine ⟨rfl, rfl, fun x dx hx hdx hne => ?_⟩
  have hsx : s ≠ x := by rcases hs with h | h <;> exact ne_of_none h hx
  have hsd : s ≠ dx := by rcases hs with h | h <;> exact ne_of_none h hdx
  rw [hgV]
  refine ⟨x, dx, s, ns, rfl, upd_same, hs.imp (fun h => by rw [upd_ne hsx, upd_ne hsd]; exact h) (fun h => by rw [upd_ne hsx, upd_ne hsd]; exact h), g, fun l H' hk h1 h2 hl => ⟨rfl, ?_⟩⟩
  have hlx : l ≠ x := (ne_of h1 h2 (fun z => by cases z)).symm
  refine k x l dx H' (fresh_back e1 hx) ?_ (fun b o hb => ?_) h1 h2
  · rw [upd_ne hlx] at hl
    by_cases q : l = dx
    · subst q; rw [upd_same] at hl; cases hl
    · rw [upd_ne q] at hl; exact fresh_back e1 hl
  · have hb1 := e1 b _ hb
    have hbx : b ≠ x := ne_of_none hb1 hx
    exact hk b o (by rw [upd_ne hbx, upd_ne (ne_of_none hb1 hdx)]; exact hb1) hbx
end
structure Ini (P : Program) (w : World) (K : PySem.W.Frag) (mg : Str → Option Value) (base : Heap) (C : Addr) (f : Addr) (fd : FuncData) : Prop where
  ok : FnOk P w K mg base CX0 3 f fd ["self", "days"] (sp_init K C)
  bd : Binds K fd ["self", "days"] []
theorem ans_given {ns : List Int} {x : Int} {n : Nat} : given ((n : Int).toNat) (fun _ => true) (fun i => V.int (onL ns (x + (i : Int)))) = (ansL ns x n).map V.int := by
  rw [given_all, Int.toNat_natCast]
  unfold ansL
  rw [List.map_map] <;> rfl
def sp_ansR (K : PySem.W.Frag) (C : Addr) : Sp := fun vs H Q _ => ∃ (p t l : Addr) (ns : List Int) (x : Int), vs = [.ref p, .ref t, .ref l, .int x] ∧ PotAt H p ∧ Tab K C (wo H p) t ns ∧ SqL K (wo H p) l (ns.map V.int) ∧ Good ns ∧ Bd ns ∧ ns.length ≤ 24 ∧ Far x ∧ ∀ H2, Ex (wo H p) H2 → PotAt H2 p → Q (.bl true) H2
def sp_longR : Sp := fun vs H Q _ => ∃ p, vs = [.ref p] ∧ PotAt H p ∧ ∀ H2, Ex (wo H p) H2 → PotAt H2 p → Q (.bl true) H2
section
variable {P : Program} {w : World} {K : PySem.W.Frag} {mg : Str → Option Value} {base : Heap} {C : Addr}
theorem ok_ansR {f f1 f2 f3 : Addr} {fd fd1 fd2 fd3 : FuncData} (F : Fun K "_law_answers_right" "_law_answers_right" s__law_answers_right f fd) (T : Txt K mg C)
    (c__law_on : Cal P w K mg base "_law_on" f1 fd1 ["_law_days_here", "_law_day"] 1 (sp_lon K)) (c__law_pick : Cal P w K mg base "_law_pick" f2 fd2 ["_law_pot_here", "_law_some"] 2 (sp_pick K)) (m_answers : Met P w K mg base C "answers" f3 fd3 ["self", "day", "count"] 4 (sp_answers K C))
    (kb_answers_count_day : KBn K fd3 ["self", "day", "count"] 1 ["count", "day"] (fun us ws => us ++ ws.reverse) (fun vs zs => vs ++ zs.reverse)) :
    FnG P w K mg base CX0 5 f fd ["_law_pot_here", "_law_table", "_law_days_here", "_law_day"] (sp_ansR K C) := by
  refine okG F sc__law_answers_right (fun vs H Q E h => ?_) (fun cdv A outer s H vs Q E hg hr h => ?_)
  · obtain ⟨p, t, l, ns, x, rfl, _⟩ := h
    rfl
  · obtain ⟨p, t, l, ns, x, rfl, hp, tab, hs, g, b, h24, ⟨fx1, fx2⟩, k⟩ := h
    have hu := hr.units
    have hgp := g.pos
    have e0 : (ns.map V.int).length = ns.length := List.length_map ..
    refine ⟨_, (pss_cons (ps_set (i := 4) sc__law_answers_right.nd rfl (Or.inl rfl) (pe_call c__law_pick.ok (hr.mono (by decide)) (by rfl) c__law_pick.mgx c__law_pick.kp c__law_pick.bd .nil pass0 (pa_cons (pv 0) (pa_cons (pe_lst (pa_cons pe_int (pa_cons pe_int (pa_cons pe_int (pa_cons pe_int (pa_cons (pe_callB (lenS (K := K) rfl) (by rfl) T.b_len (by decide +kernel) (pa_cons (pv 2) pa_nil)) (pa_cons (pe_op op_add (pe_op op_mul pe_int (pe_callB (lenS (K := K) rfl) (by rfl) T.b_len (by decide +kernel) (pa_cons (pv 2) pa_nil))) pe_int) pa_nil))))))) pa_nil)))) (pss_cons (ps_setLc (i := 5) (own := [("_law_step", 7)]) (g := (gName 7)) (by rfl) sc__law_answers_right.nd rfl rfl (sw_true rfl rfl rfl (by decide +kernel)) (pi_range1 (by rfl) T.b_range (pa_cons (pv 4) pa_nil)) (blkOk_by (own := [("_law_step", 7)]) (N := ["_law_pot_here", "_law_table", "_law_days_here", "_law_day", "_law_count", "_law_due", "_law_told", "_law_step"]) (sc := defScope s__law_answers_right) (by decide +kernel)) (fun _ _ _ _ _ => (pg_name (i := 7) sc__law_answers_right.nd rfl (Or.inl rfl))) (fun _ _ _ _ _ => pts_nil) (fun _ _ _ _ _ => (pe_call c__law_on.ok (hr.mono (by decide)) (by rfl) c__law_on.mgx c__law_on.kp c__law_on.bd .nil pass0 (pa_cons (pv 2) (pa_cons (pe_op op_add (pv 3) (pv 7)) pa_nil))))) (pss_cons (ps_set (i := 6) sc__law_answers_right.nd rfl (Or.inl rfl) (pe_meth (pv 1) T.cl m_answers.me m_answers.ok (hr.mono (by decide)) m_answers.bd .nil pass0 (pa_cons (pv 3) (pa_cons (pv 4) pa_nil)))) (pss_cons (ps_if (PW.pt (pw_or (pt_cmpR op_ne (pe_callB (call_reprD hg hu) (by rfl) T.b_repr (by decide +kernel) (pa_cons (pv 6) pa_nil)) (pe_callB (call_reprD hg hu) (by rfl) T.b_repr (by decide +kernel) (pa_cons (pv 5) pa_nil)) (nomark _)) (pw_or1 (pt_cmpR op_ne (pe_callB (call_reprD hg hu) (by rfl) T.b_repr (by decide +kernel) (pa_cons (pe_methN0 (pv 1) T.cl m_answers.me m_answers.ok (hr.mono (by decide)) kb_answers_count_day pass0 (pk_cons (pv 4) (pk_cons (pv 3) pk_nil))) pa_nil)) (pe_callB (call_reprD hg hu) (by rfl) T.b_repr (by decide +kernel) (pa_cons (pv 5) pa_nil)) (nomark _))))) (pss_one (ps_ret pe_bl)) pss_nil) (pss_cons (ps_expr (pe_bm PySem.F.plainAttrs_list PySem.F.slot_list_append PySem.F.type_list_append mt_append (pv 6) (pa_cons pe_int pa_nil))) (pss_one (ps_ret (pe_cmpR op_eq (pe_callB (call_reprD hg hu) (by rfl) T.b_repr (by decide +kernel) (pa_cons (pe_meth (pv 1) T.cl m_answers.me m_answers.ok (hr.mono (by decide)) m_answers.bd .nil pass0 (pa_cons (pv 3) (pa_cons (pv 4) pa_nil))) pa_nil)) (pe_callB (call_reprD hg hu) (by rfl) T.b_repr (by decide +kernel) (pa_cons (pv 5) pa_nil)) (nomark _))))))))), ?_⟩
    refine q_pick (xs := ([0, 1, 2, 5, (ns.length : Int), 2 * (ns.length : Int) + 1] : List Int).map V.int) hp rfl (ea_cons ev_c (ea_cons ev_c (ea_cons ev_c (ea_cons ev_c (ea_cons (ev_cb (ea_cons (ev_var rfl) ea_nil) (rc_len (.inl hs) e0)) (ea_cons (ev_op (ev_op ev_c (ev_cb (ea_cons (ev_var rfl) ea_nil) (rc_len (.inl hs) e0)) (rv_I (.inl ⟨by decide, by decide⟩))) ev_c rv_I0) ea_nil)))))) (by show 0 < 6; decide) (by show 6 ≤ 1000; decide) fun j v H2 hj e2 hp2 => ?_
    obtain ⟨n, hn, rfl⟩ : ∃ n : Nat, n ≤ 49 ∧ v = .int (n : Int) := by
      rw [List.getElem?_map] at hj
      obtain ⟨c, hc, rfl⟩ := Option.map_eq_some_iff.mp hj
      have hm := List.mem_of_getElem? hc
      simp only [List.mem_cons, List.mem_nil_iff, or_false] at hm
      exact ⟨c.toNat, by omega, congrArg V.int (by omega)⟩
    have t2 := tab.mono e2
    obtain ⟨dx, l0, i2, j2⟩ := id t2
    have s2 := ex_l e2 hs
    refine q_asgL (xs := (ansL ns x n).map V.int) (by
      rw [← ans_given]
      exact el_lcR1 (fun _ => true) (fun i => V.int (onL ns (x + (i : Int)))) (ea_cons (ev_var rfl) ea_nil) (by omega) (fun _ => rfl) (fun _ _ _ _ => lc_yes)
        (fun i H4 e6 _ _ => ev_call (ea_cons (ev_var rfl) (ea_cons (ev_op (ev_var rfl) (ev_var rfl) rv_I0) ea_nil)) (spv_lon (ex_l e6 s2) g))) fun q3 H3 n3 e3 h3 => ?_
    refine q_asgL (el_meth (ev_var rfl) (e3 t _ i2) rfl (ea_cons (ev_var rfl) (ea_cons (ev_var rfl) ea_nil)) (spl_answers (t2.mono e3) g (by omega : n ≤ 600))) fun q4 H4 n4 e4 h4 => ?_
    have e34 := e3.trans e4
    obtain ⟨a1, a2, a3⟩ := few_fit (is := ansL ns x n) (fun i hi => by
      obtain ⟨m, hm, rfl⟩ := List.mem_map.mp hi
      have := List.mem_range.mp hm
      have := on_bd g b (x + (m : Int))
      omega) (by unfold ansL; rw [List.length_map, List.length_range]; omega)
    refine q_when (b := false) (et_or (a := false) (b := false) (et_is (et_test (ev_op (ev_repr (evd_ref (ev_var rfl) (dp_ints (sq_of h4))) a1 a2 a3) (ev_repr (evd_ref (ev_var rfl) (dp_ints (sq_of (e4 q3 _ h3)))) a1 a2 a3) (rv_ne rfl))) (congrArg not (decide_eq_true (show _ = _ from rfl)))) fun _ =>
      et_is (et_test (ev_op (ev_repr (evd_ints (el_methN (ev_var rfl) (e34 t _ i2) rfl ea_nil (ea_cons (ev_var rfl) (ea_cons (ev_var rfl) ea_nil)) rfl rfl (spl_answers (t2.mono e34) g (by omega : n ≤ 600)))) a1 a2 a3) (ev_repr (evd_ref (ev_var rfl) (dp_ints (sq_of (e4 q3 _ h3)))) a1 a2 a3) (rv_ne rfl))) (congrArg not (decide_eq_true (show _ = _ from rfl)))) (fun q => nomatch q) fun _ H5 e5 => ?_
    refine q_app (v := .int 7) (e5 q4 _ h4) (ev_var rfl) ev_c (by rw [List.length_map]; unfold ansL; rw [List.length_map, List.length_range]; omega) fun H6 e6 => ?_
    have e46 := e5.trans e6
    have e36 := e4.trans e46
    have eB : Ex H3 (upd H6 q4 (.lst ((ansL ns x n).map V.int ++ [.int 7]))) := e36.mut n4
    have i7 := (e3.trans eB) t _ i2
    refine s_ret (ev_is (ev_op (ev_repr (evd_ints (el_meth (ev_var rfl) i7 rfl (ea_cons (ev_var rfl) (ea_cons (ev_var rfl) ea_nil)) (spl_answers (t2.mono (e3.trans eB)) g (by omega : n ≤ 600)))) a1 a2 a3) (ev_repr (evd_ref (ev_var rfl) (dp_ints (sq_of (eB q3 _ h3)))) a1 a2 a3) (rv_eq rfl)) (congrArg V.bl (decide_eq_true (show _ = _ from rfl)))) fun H7 e7 => ?_
    exact k H7 ((e2.trans (e3.trans eB)).trans e7) (hp2.mono ((e3.trans eB).trans e7))
end
end K11
end
section
set_option maxHeartbeats 4000000
namespace K11
open PySem L2 Evl G TM
section
variable {K : PySem.W.Frag} {σ : L2.St} {H : Hp} {p C : Addr} {i j i0 : Nat} {tA tr : TA} {tn ta tb tl te : TE} {Q : VK} {E : XK} {D : Ends} {tz : TS} {xs : List V} {vs : List Nat} {QA : List V → Hp → Prop} {ns : List Int} {r : R2}
theorem ac_k (h : te σ H fun v H1 => tr σ H1 fun xs H2 => QA (v :: xs) H2) : tCons te tr σ H QA := h
theorem op_k (h : ta σ H fun x H1 => tb σ H1 fun y H2 => r x y H2 Q) : tOp r ta tb σ H Q := h
theorem lst_k (h : tA σ H fun vs H1 => vs.length ≤ sizeLine ∧ ∀ p, H1 p = none → Q (.ref p) (upd H1 p (.lst vs))) : tLst tA σ H Q := h
theorem ret_k (h : te σ H D.rt) : tRet te D σ H := h
theorem asg_k (h : te σ H fun v H1 => tz D (σ.set i (some v)) H1) : tSeq (tAsg te (gName i)) tz D σ H := h
theorem v_k {v : V} (h : Ev te σ H v) (k : ∀ H1, Ex H H1 → Q v H1) : te σ H Q := h H (Ex.refl H) _ k
theorem all_k (h : tl σ H fun x H1 => tCB (rAll K) (tCons (tLc (iList K (tC x)) (gName j) tYes te vs) tNil) σ H1 Q) : tCB (rAll K) (tCons (tLc (iList K tl) (gName j) tYes te vs) tNil) σ H Q := h
/-- each turn says True; what the turns may change is told by W -/
theorem all_at {a : Addr} (W : Hp → Prop) (ha : H a = some (.lst xs)) (hz : xs.length ≤ 1000) (hw : ∀ x, wipe ((wipe σ vs).set j (some x)) vs = wipe σ vs)
    (hW : ∀ H2, W H2 → H2 a = some (.lst xs)) (hD : ∀ H2 l o, W H2 → H l = none → W (upd H2 l o))
    (he : ∀ (i : Nat) (x : V) (H' : Hp), xs[i]? = some x → W H' → ∀ Q : VK, (∀ H2, W H2 → (∀ l o, H l = none → H' l = some o → H2 l = some o) → Q (.bl true) H2) → te ((wipe σ vs).set j (some x)) H' Q)
    (h0 : W H) (k : ∀ H2, W H2 → Q (.bl true) H2) : tCB (rAll K) (tCons (tLc (iList K (tC (.ref a))) (gName j) tYes te vs) tNil) σ H Q := by
  refine ⟨a, rfl, ⟨xs, sq_of ha⟩, fun Dl hDl => ?_⟩
  refine lc_list (xs := xs) (fun i H' => W H' ∧ H' Dl = some (.lst (List.replicate i (V.bl true)))) ⟨hD _ _ _ h0 hDl, upd_same⟩ (fun i H' _ h => sq_of (hW _ h.1)) (fun i x H' hi h => ?_) (fun H' h => ?_)
  · obtain ⟨g1, g3⟩ := h
    refine ⟨hw x, ?_⟩
    unfold tYes
    refine iteT ?_
    refine he i x H' hi g1 _ fun H3 w3 e3 => ?_
    have hlt : i < xs.length := (List.getElem?_eq_some_iff.mp hi).1
    refine ⟨_, e3 Dl _ hDl g3, by rw [List.length_replicate]; exact sz_lt (by omega), hD _ _ _ w3 hDl, ?_⟩
    rw [upd_same, List.replicate_succ']
  · obtain ⟨g1, g3⟩ := h
    refine ⟨Dl, List.replicate xs.length true, rfl, sq_of (by rw [List.map_replicate]; exact g3), ?_⟩
    have : (List.replicate xs.length true).all id = true := by simp
    rw [this]
    exact k H' g1
/-- each turn says True and changes nothing -/
theorem all_calm {a : Addr} (ha : H a = some (.lst xs)) (hz : xs.length ≤ 1000) (hw : ∀ x, wipe ((wipe σ vs).set j (some x)) vs = wipe σ vs)
    (he : ∀ (i : Nat) (x : V), xs[i]? = some x → Ev te ((wipe σ vs).set j (some x)) H (.bl true)) (k : ∀ H2, Ex H H2 → Q (.bl true) H2) : tCB (rAll K) (tCons (tLc (iList K (tC (.ref a))) (gName j) tYes te vs) tNil) σ H Q :=
  all_ev (tl := tC (.ref a)) ⟨a, xs, rfl, ha, hz, fun i y H2 e2 hi => (he i y hi).mono e2, k⟩ hw (fun f h => f _ _ h)
theorem bd_of {ns : List Int} (h : ∀ i, i < ns.length → -1000000000000 ≤ ns.getD i 0 ∧ ns.getD i 0 ≤ 1000000000000) : Bd ns := fun n hn => by
  obtain ⟨i, hi, rfl⟩ := List.mem_iff_getElem.mp hn
  have := h i hi
  rw [List.getD_eq_getElem?_getD, List.getElem?_eq_getElem hi] at this
  exact this
end
section
variable {P : Program} {w : World} {K : PySem.W.Frag} {mg : Str → Option Value} {base : Heap} {C : Addr}
theorem ok_longR {f f1 f2 f3 f4 f5 f6 p4 : Addr} {fd fd1 fd2 fd3 fd4 fd5 fd6 : FuncData} (F : Fun K "_law_long_right" "_law_long_right" s__law_long_right f fd) (T : Txt K mg C) (mkI : Mk K C f6)
    (c__law_days : Cal P w K mg base "_law_days" f1 fd1 ["_law_pot_here", "_law_length", "_law_first"] 3 sp_ldays) (c__law_draw : Cal P w K mg base "_law_draw" f2 fd2 ["_law_pot_here", "_law_size"] 1 sp_draw) (c__law_day_right : CalG P w K mg base "_law_day_right" f3 fd3 ["_law_table", "_law_days_here", "_law_day"] 5 (sp_day K C))
    (m_length : Prp P w K mg base C "length" p4 f4 fd4 ["self"] 1 (sp_length K C)) (m_leads : Met P w K mg base C "leads" f5 fd5 ["self"] 2 (sp_leads K C)) (m_init : Ini P w K mg base C f6 fd6) :
    FnG P w K mg base CX0 6 f fd ["_law_pot_here"] sp_longR := by
  refine okG F sc__law_long_right (fun vs H Q E h => ?_) (fun cdv A outer s H vs Q E hg hr h => ?_)
  · obtain ⟨p, rfl, _⟩ := h
    rfl
  · obtain ⟨p, rfl, hp, k⟩ := h
    obtain ⟨o, ho⟩ := hp.some
    have hu := hr.units
    refine ⟨_, (pss_cons (ps_set (i := 1) sc__law_long_right.nd rfl (Or.inr rfl) (pe_call c__law_days.ok (hr.mono (by decide)) (by rfl) c__law_days.mgx c__law_days.kp c__law_days.bd .nil pass0 (pa_cons (pv 0) (pa_cons pe_int (pa_cons (pe_op op_sub (pe_call c__law_draw.ok (hr.mono (by decide)) (by rfl) c__law_draw.mgx c__law_draw.kp c__law_draw.bd .nil pass0 (pa_cons (pv 0) (pa_cons pe_int pa_nil))) pe_int) pa_nil))))) (pss_cons (ps_set (i := 2) sc__law_long_right.nd rfl (Or.inr rfl) (pe_make mkI m_init.ok (hr.mono (by decide)) (by rfl) T.mg_Table m_init.bd .nil pass0 (pa_cons (pv 1) pa_nil))) (pss_cons (ps_setLc (i := 3) (own := [("_law_at", 4), ("_law_served", 5)]) (g := (gTup K 2 (gCons (gName 4) (gCons (gName 5) gNil)))) (by rfl) sc__law_long_right.nd rfl rfl (sw_true rfl rfl rfl (by decide +kernel)) (pi_enum (by rfl) T.b_enumerate (pa_cons (pv 1) pa_nil)) (blkOk_by (own := [("_law_at", 4), ("_law_served", 5)]) (N := ["_law_pot_here", "_law_days_here", "_law_table", "_law_leads", "_law_at", "_law_served", "_law_day"]) (sc := defScope s__law_long_right) (by decide +kernel)) (fun _ _ _ _ _ => (pg_tup (by rfl) (pgs_cons (pg_name (i := 4) sc__law_long_right.nd rfl (Or.inl rfl)) (pgs_cons (pg_name (i := 5) sc__law_long_right.nd rfl (Or.inl rfl)) pgs_nil)))) (fun _ _ _ _ _ => pts_nil) (fun _ _ _ _ _ => (pe_op op_sub (pv 5) (pv 4)))) (pss_cons (ps_if (PW.pt (pw_or (pt_cmpR op_ne (pe_prop (pv 2) T.cl m_length.pr m_length.ok (hr.mono (by decide)) m_length.bd .nil pass0 (by rfl)) pe_int (nomark _)) (pw_or1 (pt_cmpR (neD (K := K) rfl hr.units) (pe_meth0 (pv 2) T.cl m_leads.me m_leads.ok (hr.mono (by decide)) m_leads.bd .nil pass0) (pe_tup (pa_cons (pe_callB (minL (K := K) rfl rfl) (by rfl) T.b_min (by decide +kernel) (pa_cons (pv 3) pa_nil)) (pa_cons (pe_callB (maxL (K := K) rfl rfl) (by rfl) T.b_max (by decide +kernel) (pa_cons (pv 3) pa_nil)) pa_nil))) (nomark _))))) (pss_one (ps_ret pe_bl)) pss_nil) (pss_one (ps_ret (pe_callB (allL (K := K) rfl rfl) (by rfl) T.b_all (by decide +kernel) (pa_cons (pe_lc (own := [("_law_day", 6)]) (g := (gName 6)) (by rfl) sc__law_long_right.nd (pi_list (pe_lst (pa_cons pe_int (pa_cons (pe_un un_neg pe_int) (pa_cons pe_int (pa_cons pe_int (pa_cons (pe_op op_sub (pe_call c__law_draw.ok (hr.mono (by decide)) (by rfl) c__law_draw.mgx c__law_draw.kp c__law_draw.bd .nil pass0 (pa_cons (pv 0) (pa_cons pe_int pa_nil))) pe_int) (pa_cons (pe_ix (ixL (K := K) rfl) (pv 1) pe_int (fun _ _ => rfl)) (pa_cons (pe_op op_add (pe_ix (ixL (K := K) rfl) (pv 1) (pe_un un_neg pe_int) (fun _ _ => rfl)) pe_int) pa_nil))))))))) (blkOk_by (own := [("_law_day", 6)]) (N := ["_law_pot_here", "_law_days_here", "_law_table", "_law_leads", "_law_at", "_law_served", "_law_day"]) (sc := defScope s__law_long_right) (by decide +kernel)) (fun _ _ _ _ _ => (pg_name (i := 6) sc__law_long_right.nd rfl (Or.inl rfl))) (fun _ _ _ _ _ => pts_nil) (fun _ _ _ _ _ => (pe_callG c__law_day_right.ok hg (hr.mono (by decide)) (by rfl) c__law_day_right.mgx c__law_day_right.kp c__law_day_right.bd .nil pass0 (pa_cons (pv 2) (pa_cons (pv 1) (pa_cons (pv 6) pa_nil)))))) pa_nil)))))))), ?_⟩
    refine asg_k ?_
    refine ⟨.ref p, rfl, ?_⟩
    refine op_k (drawC (n := 2000) hp rfl ev_c (by decide) (by decide) fun d H1 d0 d1 e1 hp1 => ?_)
    refine v_k (ev_c (v := .int 1000)) fun H1' e1' => ?_
    refine rv_I0 H1' (Ex.refl _) _ fun H1'' e1'' => ?_
    refine ⟨p, 600, d - 1000, rfl, hp1.mono (e1'.trans e1''), by decide, by decide, fun l ns H2 hlen g hf hb hl e2 h2 hp2 => ?_⟩
    have hp1'' := hp1.mono (e1'.trans e1'')
    obtain ⟨o1, ho1⟩ := hp1''.some
    have hlp : l ≠ p := (ne_of_none ho1 hl).symm
    have e2a : Ex (wo H p) H2 := (wo_sub (e1.trans (e1'.trans e1''))).trans e2
    have b : Bd ns := bd_of fun i hi => by have := hb i (by rw [← hlen]; exact hi); omega
    have e0 : (ns.map V.int).length = ns.length := List.length_map ..
    have hgm := g.most
    clear e1 e1' e1'' hp1 hp1'' ho1 hl e2
    obtain ⟨o2, ho2⟩ := hp2.some
    refine asg_k (make_tab (ev_var rfl) (Or.inl h2) g fun x l2 dx H3 hx hl2 e3 h3 h3l => ?_)
    have hxp : x ≠ p := (ne_of_none ho2 hx).symm
    have hl2p : l2 ≠ p := (ne_of_none ho2 hl2).symm
    have tab3 : Tab K C (wo H3 p) x ns := ⟨dx, l2, by rw [wo_ne hxp]; exact h3, sq_of (by rw [wo_ne hl2p]; exact h3l)⟩
    have s3 : SqL K (wo H3 p) l (ns.map V.int) := sq_of (by rw [wo_ne hlp]; exact e3 l _ h2)
    have hp3 := hp2.mono e3
    obtain ⟨m, hm⟩ := isMin_ex (leads_ne g)
    obtain ⟨M, hM⟩ := isMax_ex (leads_ne g)
    have lt_of : ∀ {i : Nat} {y : V}, (ns.map V.int)[i]? = some y → i < ns.length ∧ y = .int (ns.getD i 0) := fun {i y} hi => by
      have hlt : i < ns.length := by have := (List.getElem?_eq_some_iff.mp hi).1; simpa using this
      rw [getI hlt] at hi
      cases hi
      exact ⟨hlt, rfl⟩
    refine q_asgL (xs := (leadsL ns).map V.int) (by
      rw [← leads_given, ← e0]
      refine el_lcE (fun _ => true) (fun k => V.int (ns.getD k 0 - (k : Int))) (ev_var rfl) (ex_l wo_ex s3) (by rw [e0]; omega) (fun _ _ => rfl) (fun _ _ _ _ _ => lc_yes) (fun i y H2 e2 hi _ => ?_)
      obtain ⟨hlt, rfl⟩ := lt_of hi
      exact ev_op (ev_var rfl) (ev_var rfl) rv_I0) fun q4 H4 n4 e4 h4 => ?_
    have tab4 := tab3.mono (wo_mono e4)
    have s4 := ex_l (wo_mono e4) s3
    have tab4' := tab4.mono wo_ex
    obtain ⟨dx4, l4, i4, j4⟩ := id tab4'
    refine q_when (b := false) (et_or (a := false) (b := false) (et_is (et_test (ev_op (ev_prop (ev_var rfl) i4 (spv_length tab4')) ev_c (rv_ne rfl))) (congrArg not (decide_eq_true (show V.int (ns.length : Int) = V.int 600 by rw [hlen]; rfl)))) fun _ =>
      et_test (ev_neD (K := K) (d := .tuple [.int m, .int M]) (evd_u (eu_meth (ev_var rfl) i4 rfl ea_nil (spu_leads tab4' g hm hM)) fun _ _ => .cons (.int _) (.cons (.int _) .nil))
        (evd_u (eu_tup (ea_cons (ev_cb (ea_cons (ev_var rfl) ea_nil) (rc_min (sq_of h4) hm.1 hm.2)) (ea_cons (ev_cb (ea_cons (ev_var rfl) ea_nil) (rc_max (sq_of h4) hM.1 hM.2)) ea_nil)) (by show 2 ≤ 100000; decide)) fun _ _ => .cons (.int _) (.cons (.int _) .nil)) rfl rfl)) (fun q => nomatch q) fun _ H5 e5 => ?_
    have hp5 := (hp3.mono e4).mono e5
    have tab5 := tab4.mono (wo_mono e5)
    have s5 := ex_l (wo_mono e5) s4
    have eA : Ex (wo H p) H5 := ((e2a.trans e3).trans e4).trans e5
    refine ret_k (all_k (lst_k ?_))
    refine ac_v ev_c fun H6 e6 => ac_v (ev_un ev_c ru_neg) fun H7 e7 => ac_v ev_c fun H8 e8 => ac_v ev_c fun H9 e9 => ac_k (op_k ?_)
    have e59 := ((e6.trans e7).trans e8).trans e9
    refine drawC (n := 5000) (hp5.mono e59) rfl ev_c (by decide) (by decide) fun d2 H10 d20 d21 e10 hp10 => ?_
    have tab10 := (tab5.mono (wo_mono e59)).mono e10
    have s10 := ex_l e10 (ex_l (wo_mono e59) s5)
    have eB : Ex (wo H p) H10 := (wo_sub (eA.trans e59)).trans e10
    refine v_k (ev_c (v := .int 2500)) fun H11 e11 => ?_
    refine rv_I0 H11 (Ex.refl _) _ fun H12 e12 => ?_
    have eC := e11.trans e12
    refine ac_v (ev_op (ev_var rfl) ev_c (rv_ixL (ex_l eC s10) (atI_int (by decide) (by have := g.posI; omega)))) fun H13 e13 => ?_
    refine ac_v (ev_op (ev_op (ev_var rfl) (ev_un ev_c ru_neg) (rv_ixL (ex_l (eC.trans e13) s10) (atI_m1 g.pos))) ev_c rv_I0) fun H14 e14 => ac_nil ⟨by show 7 ≤ sizeLine; decide, fun q hq => ?_⟩
    have eD := ((eC.trans e13).trans e14).trans (Ex.new (o := .lst (([0, -1, 599, 600, d2 - 2500, ns.getD (0 : Int).toNat 0, ns.getD (ns.length - 1) 0 + 1] : List Int).map V.int)) hq)
    have tabE := tab10.mono eD
    have sE := ex_l eD s10
    refine all_calm (xs := ([0, -1, 599, 600, d2 - 2500, ns.getD (0 : Int).toNat 0, ns.getD (ns.length - 1) 0 + 1] : List Int).map V.int) upd_same (by show 7 ≤ 1000; decide) (fun _ => rfl) (fun i y hi => ?_) fun H15 e15 => k H15 ((eB.trans eD).trans e15) ((hp10.mono eD).mono e15)
    have c0 := hb 0 (by decide)
    have c1 := hb 599 (by decide)
    have z0 : ns.getD (0 : Int).toNat 0 = ns.getD 0 0 := rfl
    have z1 : ns.getD (ns.length - 1) 0 = ns.getD 599 0 := by rw [hlen]
    obtain ⟨c, hc, rfl⟩ : ∃ c : Int, Far c ∧ y = .int c := by
      rw [List.getElem?_map] at hi
      obtain ⟨c, hc, rfl⟩ := Option.map_eq_some_iff.mp hi
      have hm := List.mem_of_getElem? hc
      simp only [List.mem_cons, List.mem_nil_iff, or_false] at hm
      refine ⟨c, ?_, rfl⟩
      unfold Far
      omega
    exact ev_call (ea_cons (ev_var rfl) (ea_cons (ev_var rfl) (ea_cons (ev_var rfl) ea_nil))) (spv_dayR tabE sE g b hc)
end
end K11
end
section
set_option maxHeartbeats 4000000
namespace K11
open PySem L2 Evl G TM
section
variable {K : PySem.W.Frag} {σ : L2.St} {H H' : Hp} {p q C x dx l2 l : Addr} {i j i0 : Nat} {tA tr : TA} {tn ta tb tl te : TE} {tt : TT} {tu : TS} {Q : VK} {E : XK} {D : Ends} {tz : TS} {xs ys : List V} {vs : List Nat} {QA : List V → Hp → Prop} {ns : List Int} {r : R2} {o : HO}
/-- where a pot, a Table and its list of days stand -/
structure At (C : Addr) (H : Hp) (p x dx l2 l : Addr) (ns : List Int) : Prop where
  pot : PotAt H p
  ins : H x = some (.ins C dx [("_days", .ref l2)])
  own : H l2 = some (.lst (ns.map V.int))
  days : H l = some (.lst (ns.map V.int))
  xp : x ≠ p
  l2p : l2 ≠ p
  lp : l ≠ p
theorem At.ex (h : At C H p x dx l2 l ns) (e : Ex H H') : At C H' p x dx l2 l ns := ⟨h.pot.mono e, e x _ h.ins, e l2 _ h.own, e l _ h.days, h.xp, h.l2p, h.lp⟩
theorem At.exw (h : At C H p x dx l2 l ns) (e : Ex (wo H p) H') (hp : PotAt H' p) : At C H' p x dx l2 l ns := ⟨hp, e x _ (by rw [wo_ne h.xp]; exact h.ins), e l2 _ (by rw [wo_ne h.l2p]; exact h.own), e l _ (by rw [wo_ne h.lp]; exact h.days), h.xp, h.l2p, h.lp⟩
theorem At.tab (h : At C H p x dx l2 l ns) : Tab K C H x ns := ⟨dx, l2, h.ins, sq_of h.own⟩
theorem At.tabw (h : At C H p x dx l2 l ns) : Tab K C (wo H p) x ns := ⟨dx, l2, by rw [wo_ne h.xp]; exact h.ins, sq_of (by rw [wo_ne h.l2p]; exact h.own)⟩
theorem At.sq (h : At C H p x dx l2 l ns) : SqL K H l (ns.map V.int) := sq_of h.days
theorem At.sqw (h : At C H p x dx l2 l ns) : SqL K (wo H p) l (ns.map V.int) := sq_of (by rw [wo_ne h.lp]; exact h.days)
theorem pot_off (h : PotAt H p) (hq : p ≠ q) : PotAt (upd H q o) p := by obtain ⟨a, b, h1, h2⟩ := h; exact ⟨a, b, h1, by rw [upd_ne hq]; exact h2⟩
theorem At.off (h : At C H p x dx l2 l ns) (h1 : p ≠ q) (h2 : x ≠ q) (h3 : l2 ≠ q) (h4 : l ≠ q) : At C (upd H q o) p x dx l2 l ns := ⟨pot_off h.pot h1, by rw [upd_ne h2]; exact h.ins, by rw [upd_ne h3]; exact h.own, by rw [upd_ne h4]; exact h.days, h.xp, h.l2p, h.lp⟩
theorem el_rg {a b : Int} (ha : Ev ta σ H (.int a)) (hb : Ev tb σ H (.int b)) (hr : RgOk a b) : EvL (tLstRg (tRg2 ta tb)) σ H (rgV a b) := fun H1 e Q q =>
  ha H1 e _ fun H2 e2 => hb H2 (e.trans e2) _ fun H3 e3 => ⟨a, b, rfl, rfl, hr, fun p hp => q p _ (fresh_back (e2.trans e3) hp) ((e2.trans e3).trans (Ex.new hp)) upd_same⟩
theorem el_cat (ha : EvL ta σ H xs) (hb : EvL tb σ H ys) (hz : xs.length + ys.length ≤ 100000) : EvL (tOp rCat ta tb) σ H (xs ++ ys) := fun H1 e Q q =>
  ha H1 e _ fun a H2 na e2 h2 => hb H2 (e.trans e2) _ fun b H3 nb e3 h3 => ⟨a, b, xs, ys, rfl, rfl, e3 a _ h2, h3, sz_of hz, fun p hp => q p _ (fresh_back (e2.trans e3) hp) ((e2.trans e3).trans (Ex.new hp)) upd_same⟩
theorem if_k {c : TT} (h : c σ H fun b H1 => if b = true then ta σ H1 Q else tb σ H1 Q) : tIf c ta tb σ H Q := h
theorem test_k {R : Bool → Hp → Prop} (h : te σ H fun x H1 => ∃ k, x = .bl k ∧ R k H1) : tTest te σ H R := h
theorem notall_k (h : te σ H fun x H1 => ∃ k, x = .bl k ∧ if (!k) = true then tu { D with nx := tz D } σ H1 else tz D σ H1) : tSeq (tIfS (tNot (tB te)) tu tNext) tz D σ H := h
theorem and_k (h : te σ H fun x H1 => ∃ k, x = .bl k ∧ if k = true then tt σ H1 (fun b H2 => if b = true then tu { D with nx := tz D } σ H2 else tz D σ H2) else tz D σ H1) : tSeq (tIfS (tAnd (tTest te) tt) tu tNext) tz D σ H := h
theorem eu_tuple_of {a : Addr} (h : Ev ta σ H (.ref a)) (hs : SqL K H a xs) : EvU (tCB (fun xs H Q => ∃ p ys, xs = [.ref p] ∧ ((SqL K H p ys ∧ ∀ l, H l = none → Q (.ref l) (upd H l (.tup ys))) ∨ (SqT K H p ys ∧ Q (.ref p) H))) (tCons ta tNil)) σ H xs := fun H1 e Q q =>
  h H1 e _ fun H2 e2 => ⟨a, xs, rfl, .inl ⟨ex_l (e.trans e2) hs, fun l hl => q l _ (fresh_back e2 hl) (e2.trans (Ex.new hl)) upd_same⟩⟩
theorem make_tabU {gV : List V → List V → List V} (hgV : ∀ x s, gV [.ref x] [.ref s] = [.ref x, .ref s]) (h : EvU ta σ H (ns.map V.int)) (g : Good ns) (k : ∀ (x l dx : Addr) (H2 : Hp), H x = none → H l = none → Ex H H2 → H2 x = some (.ins C dx [("_days", .ref l)]) → H2 l = some (.lst (ns.map V.int)) → Q (.ref x) H2) :
    tMakeK C 0 1 (sp_init K C) gV E tNil (tCons ta tNil) σ H Q := h H (Ex.refl H) _ fun s H1 hs0 e1 hs => by
  refine ⟨rfl, rfl, fun x dx hx hdx hne => ?_⟩
  have hsx : s ≠ x := ne_of_none hs hx
  have hsd : s ≠ dx := ne_of_none hs hdx
  rw [hgV]
  refine ⟨x, dx, s, ns, rfl, upd_same, .inr (by rw [upd_ne hsx, upd_ne hsd]; exact hs), g, fun l H' hk h1 h2 hl => ⟨rfl, ?_⟩⟩
  have hlx : l ≠ x := (ne_of h1 h2 (fun z => by cases z)).symm
  refine k x l dx H' (fresh_back e1 hx) ?_ (fun b o hb => ?_) h1 h2
  · rw [upd_ne hlx] at hl
    by_cases q : l = dx
    · subst q; rw [upd_same] at hl; cases hl
    · rw [upd_ne q] at hl; exact fresh_back e1 hl
  · have hb1 := e1 b _ hb
    have hbx : b ≠ x := ne_of_none hb1 hx
    exact hk b o (by rw [upd_ne hbx, upd_ne (ne_of_none hb1 hdx)]; exact hb1) hbx
theorem ite_both {c : Bool} (Z : V → Hp → Prop) (hA : (∀ v H2, Z v H2 → Q v H2) → ta σ H Q) (hB : (∀ v H2, Z v H2 → Q v H2) → tb σ H Q) (k : ∀ v H2, Z v H2 → Q v H2) : if c = true then ta σ H Q else tb σ H Q := by
  split
  · exact hA k
  · exact hB k
theorem par3_k {i j l : Nat} (h : tA σ H fun vs H1 => ∃ u v w, vs = [u, v, w] ∧ tz D (((σ.set i (some u)).set j (some v)).set l (some w)) H1) : tSeq (tPar3 i j l tA) tz D σ H := h
theorem ac_r (h : EvR te σ H xs) (k : ∀ (p : Addr) (ts : List Addr) (H1 : Hp), H p = none → Ex H H1 → H1 p = some (.lst (ts.map V.ref)) → ts.length = xs.length → tr σ H1 fun xs H2 => QA (.ref p :: xs) H2) : tCons te tr σ H QA := h H (Ex.refl H) _ fun p ts H1 a b c d _ => k p ts H1 a b c d
theorem far_rg {a b : Int} {i : Nat} {y : V} (h : (rgV a b)[i]? = some y) : ∃ c : Int, a ≤ c ∧ c < b ∧ y = .int c := by
  unfold rgV at h
  rw [List.getElem?_map] at h
  obtain ⟨c, hc, rfl⟩ := Option.map_eq_some_iff.mp h
  have := List.mem_range.mp (List.mem_of_getElem? hc)
  exact ⟨_, by omega, by omega, rfl⟩
end
def sp_right : Sp := fun vs H Q _ => ∃ p, vs = [.ref p] ∧ PotAt H p ∧ ∀ H2, Ex (wo H p) H2 → PotAt H2 p → Q (.bl true) H2
section
variable {P : Program} {w : World} {K : PySem.W.Frag} {mg : Str → Option Value} {base : Heap} {C : Addr}
theorem ok_right {f f1 f2 f3 f4 f5 f6 f7 f8 f9 f10 f11 : Addr} {fd fd1 fd2 fd3 fd4 fd5 fd6 fd7 fd8 fd9 fd10 fd11 : FuncData} (F : Fun K "_law_right" "_law_right" s__law_right f fd) (T : Txt K mg C) (mkI : Mk K C f6)
    (c__law_pick : Cal P w K mg base "_law_pick" f1 fd1 ["_law_pot_here", "_law_some"] 2 (sp_pick K)) (c__law_days : Cal P w K mg base "_law_days" f2 fd2 ["_law_pot_here", "_law_length", "_law_first"] 3 sp_ldays) (c__law_draw : Cal P w K mg base "_law_draw" f3 fd3 ["_law_pot_here", "_law_size"] 1 sp_draw)
    (c__law_whole_right : CalG P w K mg base "_law_whole_right" f4 fd4 ["_law_table", "_law_days_here"] 4 (sp_whole K C)) (c__law_day_right : CalG P w K mg base "_law_day_right" f5 fd5 ["_law_table", "_law_days_here", "_law_day"] 5 (sp_day K C)) (m_init : Ini P w K mg base C f6 fd6)
    (m_days : Met P w K mg base C "days" f7 fd7 ["self"] 1 (sp_days K C)) (m_asked_rows : Met P w K mg base C "asked_rows" f8 fd8 ["self"] 1 (sp_rows K C)) (m_fixed_days : Met P w K mg base C "fixed_days" f9 fd9 ["self"] 2 (sp_fixed K C))
    (c__law_answers_right : CalG P w K mg base "_law_answers_right" f10 fd10 ["_law_pot_here", "_law_table", "_law_days_here", "_law_day"] 5 (sp_ansR K C)) (c__law_long_right : CalG P w K mg base "_law_long_right" f11 fd11 ["_law_pot_here"] 6 sp_longR)
    (kb_init_days : KBn K fd6 ["self", "days"] 1 ["days"] (fun us ws => us ++ ws) (fun vs zs => vs ++ zs)) :
    FnG P w K mg base CX0 7 f fd ["_law_pot_here"] sp_right := by
  refine okG F sc__law_right (fun vs H Q E h => ?_) (fun cdv A outer s H vs Q E hg hr h => ?_)
  · obtain ⟨p, rfl, _⟩ := h
    rfl
  · obtain ⟨p, rfl, hp, k⟩ := h
    obtain ⟨o, ho⟩ := hp.some
    have hu := hr.units
    refine ⟨_, (pss_cons (ps_set (i := 1) sc__law_right.nd rfl (Or.inl rfl) (pe_call c__law_pick.ok (hr.mono (by decide)) (by rfl) c__law_pick.mgx c__law_pick.kp c__law_pick.bd .nil pass0 (pa_cons (pv 0) (pa_cons (pe_lst (pa_cons pe_int (pa_cons pe_int (pa_cons pe_int (pa_cons pe_int (pa_cons pe_int (pa_cons pe_int (pa_cons pe_int (pa_cons pe_int (pa_cons pe_int (pa_cons pe_int pa_nil))))))))))) pa_nil)))) (pss_cons (ps_set (i := 2) sc__law_right.nd rfl (Or.inl rfl) (pe_call c__law_pick.ok (hr.mono (by decide)) (by rfl) c__law_pick.mgx c__law_pick.kp c__law_pick.bd .nil pass0 (pa_cons (pv 0) (pa_cons (pe_lst (pa_cons pe_int (pa_cons pe_int (pa_cons (pe_un un_neg pe_int) (pa_cons pe_int (pa_cons (pe_un un_neg pe_int) (pa_cons (pv 1) (pa_cons (pe_un un_neg (pv 1)) (pa_cons (pe_op op_add (pe_op op_mul pe_int (pv 1)) pe_int) (pa_cons (pe_op op_sub (pe_op op_sub pe_int (pe_op op_mul pe_int (pv 1))) pe_int) (pa_cons (pe_op op_pow pe_int pe_int) (pa_cons (pe_op op_sub pe_int (pe_op op_pow pe_int pe_int)) pa_nil)))))))))))) pa_nil)))) (pss_cons (ps_set (i := 3) sc__law_right.nd rfl (Or.inr rfl) (pe_call c__law_days.ok (hr.mono (by decide)) (by rfl) c__law_days.mgx c__law_days.kp c__law_days.bd .nil pass0 (pa_cons (pv 0) (pa_cons (pv 1) (pa_cons (pv 2) pa_nil))))) (pss_cons (ps_set (i := 4) sc__law_right.nd rfl (Or.inl rfl) (pe_callTy call_list_of (by rfl) T.b_list (by decide +kernel) (pa_cons (pv 3) pa_nil))) (pss_cons (ps_set (i := 5) sc__law_right.nd rfl (Or.inr rfl) (pe_ifExp (pt_cmpR op_eq (pe_call c__law_draw.ok (hr.mono (by decide)) (by rfl) c__law_draw.mgx c__law_draw.kp c__law_draw.bd .nil pass0 (pa_cons (pv 0) (pa_cons pe_int pa_nil))) pe_int (nomark _)) (pe_make mkI m_init.ok (hr.mono (by decide)) (by rfl) T.mg_Table m_init.bd .nil pass0 (pa_cons (pv 4) pa_nil)) (pe_makeK0 mkI m_init.ok (hr.mono (by decide)) (by rfl) T.mg_Table kb_init_days pass0 (pk_cons (pe_callTy call_tuple_of (by rfl) T.b_tuple (by decide +kernel) (pa_cons (pv 4) pa_nil)) pk_nil)))) (pss_cons (ps_asg (pe_op op_sub (pe_ix (ixL (K := K) rfl) (pv 4) pe_int (fun _ _ => rfl)) pe_int) (pg_sub (pv 4) pe_int set_list)) (pss_cons (ps_expr (pe_bm PySem.F.plainAttrs_list PySem.F.slot_list_append PySem.F.type_list_append mt_append (pv 4) (pa_cons pe_int pa_nil))) (pss_cons (ps_if (pt_not (pt_val (pe_callG c__law_whole_right.ok hg (hr.mono (by decide)) (by rfl) c__law_whole_right.mgx c__law_whole_right.kp c__law_whole_right.bd .nil pass0 (pa_cons (pv 5) (pa_cons (pv 3) pa_nil))))) (pss_one (ps_ret pe_bl)) pss_nil) (pss_cons (ps_par3 (i := 6) (j := 7) (l := 8) (by rfl) sc__law_right.nd rfl rfl rfl (by decide) (by decide) (by decide) rfl rfl rfl (pa_cons (pe_meth0 (pv 5) T.cl m_days.me m_days.ok (hr.mono (by decide)) m_days.bd .nil pass0) (pa_cons (pe_meth0 (pv 5) T.cl m_asked_rows.me m_asked_rows.ok (hr.mono (by decide)) m_asked_rows.bd .nil pass0) (pa_cons (pe_meth0 (pv 5) T.cl m_fixed_days.me m_fixed_days.ok (hr.mono (by decide)) m_fixed_days.bd .nil pass0) pa_nil))) (by rfl)) (pss_cons (ps_asg (pe_op op_add (pe_ix (ixL (K := K) rfl) (pv 6) pe_int (fun _ _ => rfl)) pe_int) (pg_sub (pv 6) pe_int set_list)) (pss_cons (ps_expr (pe_bm PySem.F.plainAttrs_list PySem.F.slot_list_append PySem.F.type_list_append mt_append (pv 7) (pa_cons (pe_tup (pa_cons pe_int (pa_cons pe_int pa_nil))) pa_nil))) (pss_cons (ps_expr (pe_bm PySem.F.plainAttrs_list PySem.F.slot_list_append PySem.F.type_list_append mt_append (pv 8) (pa_cons (pe_un un_neg pe_int) pa_nil))) (pss_cons (ps_set (i := 9) sc__law_right.nd rfl (Or.inl rfl) (pe_op op_add (pe_call c__law_pick.ok (hr.mono (by decide)) (by rfl) c__law_pick.mgx c__law_pick.kp c__law_pick.bd .nil pass0 (pa_cons (pv 0) (pa_cons (pe_lst (pa_cons pe_int (pa_cons (pe_op op_pow pe_int pe_int) (pa_cons (pe_op op_pow pe_int pe_int) pa_nil)))) pa_nil))) (pe_call c__law_draw.ok (hr.mono (by decide)) (by rfl) c__law_draw.mgx c__law_draw.kp c__law_draw.bd .nil pass0 (pa_cons (pv 0) (pa_cons pe_int pa_nil))))) (pss_cons (ps_set (i := 10) sc__law_right.nd rfl (Or.inl rfl) (pe_op op_cat (pe_listRg rfl (by rfl) T.b_list (prg_2 (by rfl) T.b_range (pe_op op_sub (pe_op op_mul (pe_un un_neg pe_int) (pv 1)) pe_int) (pe_op op_add (pe_op op_mul pe_int (pv 1)) pe_int))) (pe_lst (pa_cons (pv 9) (pa_cons (pe_op op_sub pe_int (pv 9)) (pa_cons (pv 2) (pa_cons (pe_op op_add (pv 2) (pv 1)) (pa_cons (pe_op op_sub (pv 2) pe_int) (pa_cons (pe_ix (ixL (K := K) rfl) (pv 3) (pe_un un_neg pe_int) (fun _ _ => rfl)) (pa_cons (pe_op op_add (pe_ix (ixL (K := K) rfl) (pv 3) (pe_un un_neg pe_int) (fun _ _ => rfl)) pe_int) pa_nil)))))))))) (pss_cons (ps_if (pt_not (pt_val (pe_callB (allL (K := K) rfl rfl) (by rfl) T.b_all (by decide +kernel) (pa_cons (pe_lc (own := [("_law_day", 11)]) (g := (gName 11)) (by rfl) sc__law_right.nd (pi_list (pv 10)) (blkOk_by (own := [("_law_day", 11)]) (N := ["_law_pot_here", "_law_length", "_law_first", "_law_days_here", "_law_passed", "_law_table", "_law_told", "_law_rows", "_law_fixed", "_law_far", "_law_some", "_law_day"]) (sc := defScope s__law_right) (by decide +kernel)) (fun _ _ _ _ _ => (pg_name (i := 11) sc__law_right.nd rfl (Or.inl rfl))) (fun _ _ _ _ _ => pts_nil) (fun _ _ _ _ _ => (pe_callG c__law_day_right.ok hg (hr.mono (by decide)) (by rfl) c__law_day_right.mgx c__law_day_right.kp c__law_day_right.bd .nil pass0 (pa_cons (pv 5) (pa_cons (pv 3) (pa_cons (pv 11) pa_nil)))))) pa_nil)))) (pss_one (ps_ret pe_bl)) pss_nil) (pss_cons (ps_if (pt_not (pt_val (pe_callB (allL (K := K) rfl rfl) (by rfl) T.b_all (by decide +kernel) (pa_cons (pe_lc (own := [("_law_day", 11)]) (g := (gName 11)) (by rfl) sc__law_right.nd (pi_list (pe_lst (pa_cons pe_int (pa_cons (pe_un un_neg pe_int) (pa_cons (pe_op op_sub (pv 1) pe_int) (pa_cons (pv 9) (pa_cons (pe_op op_sub pe_int (pv 9)) pa_nil))))))) (blkOk_by (own := [("_law_day", 11)]) (N := ["_law_pot_here", "_law_length", "_law_first", "_law_days_here", "_law_passed", "_law_table", "_law_told", "_law_rows", "_law_fixed", "_law_far", "_law_some", "_law_day"]) (sc := defScope s__law_right) (by decide +kernel)) (fun _ _ _ _ _ => (pg_name (i := 11) sc__law_right.nd rfl (Or.inl rfl))) (fun _ _ _ _ _ => pts_nil) (fun _ _ _ _ _ => (pe_callG c__law_answers_right.ok hg (hr.mono (by decide)) (by rfl) c__law_answers_right.mgx c__law_answers_right.kp c__law_answers_right.bd .nil pass0 (pa_cons (pv 0) (pa_cons (pv 5) (pa_cons (pv 3) (pa_cons (pv 11) pa_nil))))))) pa_nil)))) (pss_one (ps_ret pe_bl)) pss_nil) (pss_cons (ps_if (PW.pt (pw_and (pt_cmpR op_eq (pe_call c__law_draw.ok (hr.mono (by decide)) (by rfl) c__law_draw.mgx c__law_draw.kp c__law_draw.bd .nil pass0 (pa_cons (pv 0) (pa_cons pe_int pa_nil))) pe_int (nomark _)) (pw_and1 (pt_not (pt_val (pe_callG c__law_long_right.ok hg (hr.mono (by decide)) (by rfl) c__law_long_right.mgx c__law_long_right.kp c__law_long_right.bd .nil pass0 (pa_cons (pv 0) pa_nil))))))) (pss_one (ps_ret pe_bl)) pss_nil) (pss_one (ps_ret (pe_callG c__law_whole_right.ok hg (hr.mono (by decide)) (by rfl) c__law_whole_right.mgx c__law_whole_right.kp c__law_whole_right.bd .nil pass0 (pa_cons (pv 5) (pa_cons (pv 3) pa_nil)))))))))))))))))))))), ?_⟩
    -- length
    refine q_pick (xs := ([1, 2, 3, 4, 5, 6, 7, 8, 12, 24] : List Int).map V.int) hp rfl (ea_cons ev_c (ea_cons ev_c (ea_cons ev_c (ea_cons ev_c (ea_cons ev_c (ea_cons ev_c (ea_cons ev_c (ea_cons ev_c (ea_cons ev_c (ea_cons ev_c ea_nil)))))))))) (by show 0 < 10; decide) (by show 10 ≤ 1000; decide) fun j v H1 hj e1 hp1 => ?_
    obtain ⟨n, n1, n2, rfl⟩ : ∃ n : Nat, 1 ≤ n ∧ n ≤ 24 ∧ v = .int (n : Int) := by
      rw [List.getElem?_map] at hj
      obtain ⟨c, hc, rfl⟩ := Option.map_eq_some_iff.mp hj
      have hm := List.mem_of_getElem? hc
      simp only [List.mem_cons, List.mem_nil_iff, or_false] at hm
      exact ⟨c.toNat, by omega, by omega, congrArg V.int (by omega)⟩
    clear hj
    -- first
    refine q_pick (xs := ([0, 1, -1, 3, -5, (n : Int), -(n : Int), 10 * (n : Int) + 2, 0 - 7 * (n : Int) - 3, 10 ^ 9, 3 - 10 ^ 9] : List Int).map V.int) hp1 rfl (ea_cons ev_c (ea_cons ev_c (ea_cons (ev_un ev_c ru_neg) (ea_cons ev_c (ea_cons (ev_un ev_c ru_neg) (ea_cons (ev_var rfl) (ea_cons (ev_un (ev_var rfl) ru_neg) (ea_cons (ev_op (ev_op ev_c (ev_var rfl) (rv_I (.inl ⟨by decide, by decide⟩))) ev_c rv_I0) (ea_cons (ev_op (ev_op ev_c (ev_op ev_c (ev_var rfl) (rv_I (.inl ⟨by decide, by decide⟩))) rv_I0) ev_c rv_I0) (ea_cons (ev_op ev_c ev_c (rv_I (by unfold CPow; decide))) (ea_cons (ev_op ev_c (ev_op ev_c ev_c (rv_I (by unfold CPow; decide))) rv_I0) ea_nil))))))))))) (by show 0 < 11; decide) (by show 11 ≤ 1000; decide) fun j v H2 hj e2 hp2 => ?_
    obtain ⟨x0, x1, x2, rfl⟩ : ∃ x : Int, -1000000000 ≤ x ∧ x ≤ 1000000000 ∧ v = .int x := by
      rw [List.getElem?_map] at hj
      obtain ⟨c, hc, rfl⟩ := Option.map_eq_some_iff.mp hj
      have hm := List.mem_of_getElem? hc
      simp only [List.mem_cons, List.mem_nil_iff, or_false] at hm
      exact ⟨c, by omega, by omega, rfl⟩
    clear hj
    have eA : Ex (wo H p) H2 := (wo_sub e1).trans e2
    clear e1 e2
    -- days
    refine asg_k ?_
    refine ⟨.ref p, rfl, _, rfl, _, rfl, ?_⟩
    refine ⟨p, n, x0, rfl, hp2, n1, by omega, fun l ns H3 hlen g hf hb hl e3 h3 hp3 => ?_⟩
    obtain ⟨o2, ho2⟩ := hp2.some
    have hlp : l ≠ p := (ne_of_none ho2 hl).symm
    have eB : Ex (wo H p) H3 := (wo_sub eA).trans e3
    have b : Bd ns := bd_of fun i hi => by have := hb i (by rw [← hlen]; exact hi); omega
    have e0 : (ns.map V.int).length = ns.length := List.length_map ..
    have hgm := g.most
    have hgp := g.pos
    clear hp ho hp1 hp2 ho2 hl e3 eA
    -- passed
    refine q_asgL (el_cb (ea_cons (ev_var rfl) ea_nil) (rc_list (.inl (sq_of h3)))) fun q1 H4 hq1 e4 h4 => ?_
    have hp4 := hp3.mono e4
    obtain ⟨o3, ho3⟩ := hp3.some
    have hq1p : q1 ≠ p := (ne_of_none ho3 hq1).symm
    have hq1l : l ≠ q1 := ne_of_none h3 hq1
    have hq1H : wo H p q1 = none := fresh_back eB hq1
    clear ho3
    -- table
    refine asg_k (if_k (test_k (op_k (drawC (n := 2) hp4 rfl ev_c (by decide) (by decide) fun d H5 d0 d1 e5 hp5 => ?_))))
    refine v_k (ev_c (v := .int 0)) fun H6 e6 => rv_eq rfl H6 (Ex.refl _) _ fun H7 e7 => ⟨_, rfl, ?_⟩
    have e67 := e6.trans e7
    have h47 : H7 q1 = some (.lst (ns.map V.int)) := e67 q1 _ (e5 q1 _ (by rw [wo_ne hq1p]; exact h4))
    have h37 : H7 l = some (.lst (ns.map V.int)) := e67 l _ (e5 l _ (by rw [wo_ne hlp]; exact e4 l _ h3))
    have hp7 := hp5.mono e67
    have eC : Ex (wo H p) H7 := ((wo_sub (eB.trans e4)).trans e5).trans e67
    clear h4 h3 hp4 hp5 hp3 e6 e7 e67 e5 e4 eB hq1
    refine ite_both (fun v H8 => ∃ x l2 dx, v = .ref x ∧ H7 x = none ∧ H7 l2 = none ∧ Ex H7 H8 ∧ H8 x = some (.ins C dx [("_days", .ref l2)]) ∧ H8 l2 = some (.lst (ns.map V.int)))
      (fun kk => make_tab (ev_var rfl) (Or.inl h47) g fun x l2 dx H8 a1 a2 a3 a4 a5 => kk _ _ ⟨x, l2, dx, rfl, a1, a2, a3, a4, a5⟩)
      (fun kk => make_tabU (fun _ _ => rfl) (eu_tuple_of (ev_var rfl) (sq_of h47)) g fun x l2 dx H8 a1 a2 a3 a4 a5 => kk _ _ ⟨x, l2, dx, rfl, a1, a2, a3, a4, a5⟩) ?_
    rintro v H8 ⟨x, l2, dx, rfl, hx, hl2, e8, i8, j8⟩
    obtain ⟨o7, ho7⟩ := hp7.some
    have at8 : At C H8 p x dx l2 l ns := ⟨hp7.mono e8, i8, j8, e8 l _ h37, (ne_of_none ho7 hx).symm, (ne_of_none ho7 hl2).symm, hlp⟩
    have h48 := e8 q1 _ h47
    have hxq : x ≠ q1 := (ne_of_none h47 hx).symm
    have hl2q : l2 ≠ q1 := (ne_of_none h47 hl2).symm
    have eD : Ex (wo H p) H8 := eC.trans e8
    clear i8 j8 hx hl2 e8 h37 h47 hp7 eC ho7
    -- passed[0] = ..
    refine q_setL (j := 0) h48 (ev_op (ev_op (ev_var rfl) ev_c (rv_ixL (sq_of h48) (atI_int (by decide) (by omega)))) ev_c rv_I0) (ev_var rfl) ev_c (by rw [e0]; omega) fun H9 e9 => ?_
    have at9 := (at8.ex e9).off (o := .lst ((ns.map V.int).set 0 (.int (ns.getD (0 : Int).toNat 0 - 5)))) hq1p.symm hxq hl2q hq1l
    have eE : Ex (wo H p) (upd H9 q1 (.lst ((ns.map V.int).set 0 (.int (ns.getD (0 : Int).toNat 0 - 5))))) := (eD.trans e9).mut hq1H
    have h49 : upd H9 q1 (.lst ((ns.map V.int).set 0 (.int (ns.getD (0 : Int).toNat 0 - 5)))) q1 = some (.lst ((ns.map V.int).set 0 (.int (ns.getD (0 : Int).toNat 0 - 5)))) := upd_same
    generalize upd H9 q1 (.lst ((ns.map V.int).set 0 (.int (ns.getD (0 : Int).toNat 0 - 5)))) = H10 at at9 eE h49
    clear e9 at8 eD h48
    refine q_app h49 (ev_var rfl) ev_c (by rw [List.length_set, e0]; omega) fun H11 e11 => ?_
    have at11 := (at9.ex e11).off (o := .lst ((ns.map V.int).set 0 (.int (ns.getD (0 : Int).toNat 0 - 5)) ++ [.int 0])) hq1p.symm hxq hl2q hq1l
    have eF : Ex (wo H p) (upd H11 q1 (.lst ((ns.map V.int).set 0 (.int (ns.getD (0 : Int).toNat 0 - 5)) ++ [.int 0]))) := (eE.trans e11).mut hq1H
    generalize upd H11 q1 (.lst ((ns.map V.int).set 0 (.int (ns.getD (0 : Int).toNat 0 - 5)) ++ [.int 0])) = H12 at at11 eF
    clear e11 at9 eE h49
    -- whole
    refine q_when (b := false) (et_not (a := true) (et_B (ev_call (ea_cons (ev_var rfl) (ea_cons (ev_var rfl) ea_nil)) (spv_whole at11.tab at11.sq g b)))) (fun q => nomatch q) fun _ H13 e13 => ?_
    have at13 := at11.ex e13
    have eG : Ex (wo H p) H13 := eF.trans e13
    clear at11 eF e13
    -- told, rows, fixed
    refine par3_k (ac_l (el_meth (ev_var rfl) at13.ins rfl ea_nil (spl_days at13.tab)) fun q2 H14 n2 e14 h2 => ac_r (evr_meth (ev_var rfl) (e14 x _ at13.ins) rfl ea_nil (spr_rows (at13.ex e14).tab)) fun q3 ts H15 n3 e15 h3 hts => ac_l (el_meth (ev_var rfl) ((e14.trans e15) x _ at13.ins) rfl ea_nil (spl_fixed (at13.ex (e14.trans e15)).tab g)) fun q4 H16 n4 e16 h4 => ac_nil ⟨_, _, _, rfl, ?_⟩)
    have m2 : H13 q2 = none := n2
    have m3 : H13 q3 = none := fresh_back e14 n3
    have m4 : H13 q4 = none := fresh_back (e14.trans e15) n4
    have k23 : q3 ≠ q2 := (ne_of_none (e14.trans (Ex.refl _) |> fun _ => h2) n3).symm
    have k24 : q4 ≠ q2 := (ne_of_none (e15 q2 _ h2) n4).symm
    have k34 : q4 ≠ q3 := (ne_of_none h3 n4).symm
    have g2 := e16 q2 _ (e15 q2 _ h2)
    have g3 := e16 q3 _ h3
    have eH : Ex H13 H16 := (e14.trans e15).trans e16
    clear n2 n3 n4 h2 h3 e14 e15 e16
    refine q_setL (j := 0) g2 (ev_op (ev_op (ev_var rfl) ev_c (rv_ixL (sq_of g2) (atI_int (by decide) (by omega)))) ev_c rv_I0) (ev_var rfl) ev_c (by rw [e0]; omega) fun H17 e17 => ?_
    have eI := (eH.trans e17).mut (o := .lst ((ns.map V.int).set 0 (.int (ns.getD (0 : Int).toNat 0 + 1)))) m2
    have r3 : upd H17 q2 (.lst ((ns.map V.int).set 0 (.int (ns.getD (0 : Int).toNat 0 + 1)))) q3 = some (.lst (ts.map V.ref)) := by rw [upd_ne k23]; exact e17 q3 _ g3
    have r4 : upd H17 q2 (.lst ((ns.map V.int).set 0 (.int (ns.getD (0 : Int).toNat 0 + 1)))) q4 = some (.lst ((fixL ns).map V.int)) := by rw [upd_ne k24]; exact e17 q4 _ h4
    generalize upd H17 q2 (.lst ((ns.map V.int).set 0 (.int (ns.getD (0 : Int).toNat 0 + 1)))) = H18 at eI r3 r4
    clear g2 g3 eH e17 h4
    have hfl : (fixL ns).length ≤ 600 := by
      unfold fixL
      rw [List.length_map]
      refine Nat.le_trans (List.length_filter_le _ _) ?_
      rw [List.length_range]
      exact hgm
    refine q_appU r3 (ev_var rfl) (eu_tup (ea_cons ev_c (ea_cons ev_c ea_nil)) (by show 2 ≤ 100000; decide)) (by rw [List.length_map, hts, e0]; omega) fun pt H19 npt e19 _ => ?_
    have eJ := (eI.trans e19).mut (o := .lst (ts.map V.ref ++ [.ref pt])) m3
    have s4 : upd H19 q3 (.lst (ts.map V.ref ++ [.ref pt])) q4 = some (.lst ((fixL ns).map V.int)) := by rw [upd_ne k34]; exact e19 q4 _ r4
    generalize upd H19 q3 (.lst (ts.map V.ref ++ [.ref pt])) = H20 at eJ s4
    clear e19 eI r3 r4 npt
    refine q_app s4 (ev_var rfl) (ev_un ev_c ru_neg) (by rw [List.length_map]; omega) fun H21 e21 => ?_
    have eK := (eJ.trans e21).mut (o := .lst ((fixL ns).map V.int ++ [.int (-7)])) m4
    have at22 := at13.ex eK
    have eL := eG.trans eK
    generalize upd H21 q4 (.lst ((fixL ns).map V.int ++ [.int (-7)])) = H22 at at22 eL
    clear eK eJ e21 s4 at13 eG m2 m3 m4 k23 k24 k34 hfl
    -- far
    refine asg_k (op_k (pickC (xs := ([100, 10 ^ 6, 10 ^ 11] : List Int).map V.int) at22.pot rfl (ea_cons ev_c (ea_cons (ev_op ev_c ev_c (rv_I (by unfold CPow; decide))) (ea_cons (ev_op ev_c ev_c (rv_I (by unfold CPow; decide))) ea_nil))) (by show 0 < 3; decide) (by show 3 ≤ 1000; decide) fun j v H23 hj e23 hp23 => ?_))
    obtain ⟨c0, c1, c2, rfl⟩ : ∃ c : Int, 0 ≤ c ∧ c ≤ 100000000000 ∧ v = .int c := by
      rw [List.getElem?_map] at hj
      obtain ⟨c, hc, rfl⟩ := Option.map_eq_some_iff.mp hj
      have hm := List.mem_of_getElem? hc
      simp only [List.mem_cons, List.mem_nil_iff, or_false] at hm
      exact ⟨c, by omega, by omega, rfl⟩
    clear hj
    refine drawC (n := 97) hp23 rfl ev_c (by decide) (by decide) fun d' H24 d2 d3 e24 hp24 => rv_I0 H24 (Ex.refl _) _ fun H25 e25 => ?_
    have at25 := ((at22.exw e23 hp23).exw e24 hp24).ex e25
    have eM : Ex (wo H p) H25 := ((wo_sub ((wo_sub eL).trans e23)).trans e24).trans e25
    obtain ⟨fr, f1, f2, hfr⟩ : ∃ fr : Int, 0 ≤ fr ∧ fr ≤ 100000000100 ∧ c0 + d' = fr := ⟨_, by omega, by omega, rfl⟩
    rw [hfr]
    clear hfr d2 d3 c1 c2 e23 e24 e25 hp23 hp24 at22 eL
    -- some
    have hL1 := at25.sq (K := K)
    have i0 := bd_get b (show 0 < ns.length by omega)
    have i1 := bd_get b (show ns.length - 1 < ns.length by omega)
    refine q_asgL (xs := rgV (-2 * (n : Int) - 2) (2 * (n : Int) + 3) ++ ([fr, 0 - fr, x0, x0 + (n : Int), x0 - 1, ns.getD (ns.length - 1) 0, ns.getD (ns.length - 1) 0 + 1] : List Int).map V.int) (el_cat (el_rg (ev_op (ev_op (ev_un ev_c ru_neg) (ev_var rfl) (rv_I (.inl ⟨by decide, by decide⟩))) ev_c rv_I0) (ev_op (ev_op ev_c (ev_var rfl) (rv_I (.inl ⟨by decide, by decide⟩))) ev_c rv_I0) (by unfold RgOk; omega))
      (el_lst (ea_cons (ev_var rfl) (ea_cons (ev_op ev_c (ev_var rfl) rv_I0) (ea_cons (ev_var rfl) (ea_cons (ev_op (ev_var rfl) (ev_var rfl) rv_I0) (ea_cons (ev_op (ev_var rfl) ev_c rv_I0) (ea_cons (ev_op (ev_var rfl) (ev_un ev_c ru_neg) (rv_ixL hL1 (atI_m1 g.pos))) (ea_cons (ev_op (ev_op (ev_var rfl) (ev_un ev_c ru_neg) (rv_ixL hL1 (atI_m1 g.pos))) ev_c rv_I0) ea_nil))))))) (by show 7 ≤ 100000; decide)) (by rw [rgV_length, List.length_map]; show _ + 7 ≤ _; omega)) fun q5 H26 n5 e26 h5 => ?_
    have at26 := at25.ex e26
    have eN := eM.trans e26
    clear at25 eM e26 hL1 n5
    refine q_when (b := false) (et_not (a := true) (et_B fun Ha ea Qa qa => all_k (tl := tVar 10) ⟨.ref q5, rfl, all_calm (ea q5 _ h5) (by rw [List.length_append, rgV_length, List.length_map]; show _ + 7 ≤ _; omega) (fun _ => rfl) (fun i y hi => ?_) qa⟩)) (fun q => nomatch q) fun _ H27 e27 => ?_
    · obtain ⟨c, hc, rfl⟩ : ∃ c : Int, Far c ∧ y = .int c := by
        unfold Far
        by_cases hlt : i < (rgV (-2 * (n : Int) - 2) (2 * (n : Int) + 3)).length
        · rw [List.getElem?_append_left hlt] at hi
          obtain ⟨c, q1, q2, rfl⟩ := far_rg hi
          exact ⟨c, by omega, rfl⟩
        · rw [List.getElem?_append_right (by omega), List.getElem?_map] at hi
          obtain ⟨c, hc, rfl⟩ := Option.map_eq_some_iff.mp hi
          have hm := List.mem_of_getElem? hc
          simp only [List.mem_cons, List.mem_nil_iff, or_false] at hm
          have hbl := hb (n - 1) (by omega)
          have e9 : ns.getD (ns.length - 1) 0 = ns.getD (n - 1) 0 := by rw [hlen]
          exact ⟨c, by omega, rfl⟩
      have at27 := at26.ex ea
      exact ev_call (ea_cons (ev_var rfl) (ea_cons (ev_var rfl) (ea_cons (ev_var rfl) ea_nil))) (spv_dayR at27.tab at27.sq g b hc)
    have at27 := at26.ex e27
    have eO := eN.trans e27
    clear at26 eN e27 h5
    -- answers
    refine notall_k (all_k (lst_k ?_))
    refine ac_v ev_c fun H28 e28 => ac_v (ev_un ev_c ru_neg) fun H29 e29 => ac_v (ev_op (ev_var rfl) ev_c rv_I0) fun H30 e30 => ac_v (ev_var rfl) fun H31 e31 => ac_v (ev_op ev_c (ev_var rfl) rv_I0) fun H32 e32 => ac_nil ⟨by show 5 ≤ sizeLine; decide, fun q6 hq6 => ?_⟩
    have e33 := ((((e28.trans e29).trans e30).trans e31).trans e32).trans (Ex.new (o := .lst [.int 0, .int (-1), .int ((n : Int) - 1), .int fr, .int (0 - fr)]) hq6)
    have at33 := at27.ex e33
    have eP := eO.trans e33
    clear e33 e28 e29 e30 e31 e32 at27 eO
    have hq6p : q6 ≠ p := by
      obtain ⟨o9, ho9⟩ := at33.pot.some
      intro z
      subst z
      obtain ⟨a9, b9, _, hb9⟩ := at33.pot
      rw [upd_same] at hb9
      injection hb9 with hb9
      injection hb9 with hb9
      have := congrArg List.length hb9
      simp at this
    have h6 : upd H32 q6 (.lst [.int 0, .int (-1), .int ((n : Int) - 1), .int fr, .int (0 - fr)]) q6 = some (.lst (([0, -1, (n : Int) - 1, fr, 0 - fr] : List Int).map V.int)) := upd_same
    generalize upd H32 q6 (.lst [.int 0, .int (-1), .int ((n : Int) - 1), .int fr, .int (0 - fr)]) = H33 at at33 eP h6 ⊢
    refine all_at (xs := ([0, -1, (n : Int) - 1, fr, 0 - fr] : List Int).map V.int) (fun Hx => Ex (wo H33 p) Hx ∧ PotAt Hx p) h6 (by show 5 ≤ 1000; decide) (fun _ => rfl) (fun Hx hx => hx.1 q6 _ (by rw [wo_ne hq6p]; exact h6)) (fun Hx l9 o9 hx hl9 => ?_) (fun i y Hx hi hx Qx kx => ?_) ⟨wo_ex, at33.pot⟩ (fun H34 h34 => ⟨true, rfl, ?_⟩)
    · obtain ⟨oz, hoz⟩ := at33.pot.some
      have hlz : p ≠ l9 := ne_of_none hoz hl9
      exact ⟨hx.1.mut (by rw [wo_ne hlz.symm]; exact hl9), pot_off hx.2 hlz⟩
    · obtain ⟨c, hc, rfl⟩ : ∃ c : Int, Far c ∧ y = .int c := by
        unfold Far
        rw [List.getElem?_map] at hi
        obtain ⟨c, hc, rfl⟩ := Option.map_eq_some_iff.mp hi
        have hm := List.mem_of_getElem? hc
        simp only [List.mem_cons, List.mem_nil_iff, or_false] at hm
        exact ⟨c, by omega, rfl⟩
      have atx := at33.exw hx.1 hx.2
      obtain ⟨oz, hoz⟩ := at33.pot.some
      exact ⟨.ref p, rfl, _, rfl, _, rfl, _, rfl, p, x, l, ns, c, rfl, atx.pot, atx.tabw, atx.sqw, g, b, by omega, hc, fun H2 e2 hp2 => kx H2 ⟨(wo_sub hx.1).trans e2, hp2⟩ fun l9 o9 hl9 ho9 => e2 l9 o9 (by rw [wo_ne (ne_of_none hoz hl9).symm]; exact ho9)⟩
    rw [if_neg (by decide)]
    have at34 := at33.exw h34.1 h34.2
    have eQ : Ex (wo H p) H34 := (wo_sub eP).trans h34.1
    clear at33 eP h6 h34
    -- the long table
    refine and_k (op_k (drawC (n := 6) at34.pot rfl ev_c (by decide) (by decide) fun d3 H35 d30 d31 e35 hp35 => ?_))
    refine v_k (ev_c (v := .int 0)) fun H36 e36 => rv_eq rfl H36 (Ex.refl _) _ fun H37 e37 => ⟨_, rfl, ?_⟩
    have at37 := (at34.exw e35 hp35).ex (e36.trans e37)
    have eR : Ex (wo H p) H37 := ((wo_sub eQ).trans e35).trans (e36.trans e37)
    clear at34 eQ e35 e36 e37 hp35
    split
    · refine ⟨.ref p, rfl, p, rfl, at37.pot, fun H38 e38 hp38 => ⟨true, rfl, ?_⟩⟩
      show (if (!true) = true then _ else _)
      rw [if_neg (by decide)]
      have at38 := at37.exw e38 hp38
      exact s_ret (ev_call (ea_cons (ev_var rfl) (ea_cons (ev_var rfl) ea_nil)) (spv_whole at38.tab at38.sq g b)) fun H39 e39 => k H39 (((wo_sub eR).trans e38).trans e39) (at38.pot.mono e39)
    · exact s_ret (ev_call (ea_cons (ev_var rfl) (ea_cons (ev_var rfl) ea_nil)) (spv_whole at37.tab at37.sq g b)) fun H39 e39 => k H39 (eR.trans e39) (at37.pot.mono e39)
end
end K11
end
section
set_option maxHeartbeats 2000000
namespace G
open PySem PySem.Spec PyProof.Rows L2

/-! ### the end of a law whose promise is told where no repr is running -/
section
variable {P : Program} {w : World} {K : PySem.W.Frag} {mg mb : Str → Option Value} {CX : CXT} {k : Nat} {fa a : Addr} {fd : FuncData} {x : Str} {sp : Sp} {s₁ : Shared} {vs : List Value} {ns : List Int}
def scrObj (vs : List Value) : Obj := { cls := .type "list", data := .seq vs.toArray }
/-- the script alone, if the module does not know it -/
def scrHp (K : PySem.W.Frag) (a : Addr) (vs : List Value) (ns : List Int) : Hp := fun b => if b = a ∧ (K.lookup a).isNone = true then some (.frz (scrObj vs) (.lst (ns.map V.int))) else none
theorem scr_some {b : Addr} {u : HO} (h : scrHp K a vs ns b = some u) : (b = a ∧ (K.lookup a).isNone = true) ∧ u = .frz (scrObj vs) (.lst (ns.map V.int)) := by
  unfold scrHp at h
  by_cases q : b = a ∧ (K.lookup a).isNone = true
  · rw [if_pos q] at h
    exact ⟨q, (Option.some.inj h).symm⟩
  · rw [if_neg q] at h
    cases h
theorem scr_off {b : Addr} (h : ¬ (b = a ∧ (K.lookup a).isNone = true)) : scrHp K a vs ns b = none := if_neg h
theorem scr_only : Only (scrHp K a vs ns) := fun b => by
  cases q : scrHp K a vs ns b with
  | none => exact .inl rfl
  | some u => exact .inr ⟨_, _, by rw [(scr_some q).2]⟩
theorem scr_sq (KX : K.In s₁.heap) (ha : s₁.heap.get? a = some (scrObj vs)) (rv : Vals (ns.map V.int) vs) (hlen : vs.length = ns.length) (hl : ns.length ≤ sizeLine) : SqL K (scrHp K a vs ns) a (ns.map V.int) := by
  cases q : K.lookup a with
  | none => exact .inl (.inr ⟨scrObj vs, if_pos ⟨rfl, by rw [q]; rfl⟩⟩)
  | some o =>
    have e := KX a o q
    rw [ha] at e
    cases e
    exact .inr ⟨_, vs.toArray, _, q, rfl, rfl, rfl, by simpa [hlen] using hl, by simpa using rv⟩
theorem law_true (KX : K.In s₁.heap) (hns : s₁.heap.Ns mainGlobals mg) (hb : s₁.heap.Ns builtinsNs mb) (hbb : ∀ x : Str, x ≠ "__name__" → mb x = bootBuiltins x) (hlim : s₁.heap.NoLimit) (hg : s₁.gens = #[])
    (ha : s₁.heap.get? a = some (scrObj vs)) (hi : IntsAre vs ns) (hl : ns.length ≤ sizeLine) (hr : Room k callerA)
    (F : ∀ base : Heap, K.In base → base.Ns mainGlobals mg → FnG P w K mg base CX k fa fd [x] sp) (hbind : ∀ (s : Shared) (u : Value), BindsTo s fd ⟨[u], []⟩ [(x, u)])
    (hsp : ∀ H : Hp, Only H → SqL K H a (ns.map V.int) → sp [.ref a] H (fun v _ => v = .bl true) fun _ _ _ => False) (hCX : ∀ H e s', CX [] H s₁ (fun _ _ _ => False) e s' → False) :
    codeAny (model P w) callerA (.call (.ref fa) ⟨[.ref a], []⟩) (fun r s' => r = .ok (.ret (.bool true)) ∧ OldK s₁.heap s'.heap ∧ s'.os = s₁.os ∧ AllBare s'.gens) s₁ := by
  have rv := vals_ints hi
  have hok : HOk P w (scrHp K a vs ns) s₁.heap := fun b u z => by
    obtain ⟨⟨rfl, _⟩, rfl⟩ := scr_some z
    exact ⟨ha, by rw [List.length_map]; exact hl, vs, _, rv, ha⟩
  have keepK : ∀ {b : Addr} {o : Obj}, K.lookup b = some o → (hidT s₁.heap (scrHp K a vs ns)).get? b = some o := fun {b o} e => hidT_get (KX b o e) (scr_off fun q => by
    obtain ⟨rfl, q2⟩ := q
    rw [e] at q2
    cases q2)
  have keepN : ∀ {b : Addr} {m : Str → Option Value}, s₁.heap.Ns b m → (hidT s₁.heap (scrHp K a vs ns)).Ns b m := by
    rintro b m ⟨o, es, ep, e, d, r⟩
    refine ⟨o, es, ep, hidT_get e (scr_off fun q => ?_), d, r⟩
    obtain ⟨rfl, _⟩ := q
    rw [ha] at e
    cases e
    cases (show Data.seq vs.toArray _ = Data.dict es ep from d)
  have inK : K.In (hidT s₁.heap (scrHp K a vs ns)) := fun b o e => keepK e
  have M : Mod K mg (hidT s₁.heap (scrHp K a vs ns)) := ⟨inK, keepN hns, ⟨mb, keepN hb, hbb⟩, by obtain ⟨mc, q1, q2⟩ := hlim; exact ⟨mc, keepN q1, q2⟩⟩
  have out : ∀ b : Addr, b ∉ ([] : List Addr) := fun b q => nomatch q
  have env : Env0 P w K mg (hidT s₁.heap (scrHp K a vs ns)) callerA [] s₁ (scrHp K a vs ns) := { frames := rfl, mod := M, bs := fun b o e => of_hidT e, bsz := Nat.le_of_eq (hidT_size _ _), funs := trivial, frf := fun b q => (out b q).elim, hok := hok, bare := .of_eq hg }
  have go := (F _ inK (keepN hns)).run callerA [] s₁ (scrHp K a vs ns) ⟨[.ref a], []⟩ [.ref a] [.ref a] _ _ rfl hr env (hbind s₁ (.ref a)) (.cons rfl .nil) (hsp _ scr_only (scr_sq KX ha rv hi.length hl))
  refine codeAny_mono go fun r s' h => ?_
  match r, h with
  | .error e, h => exact (hCX _ e s' h).elim
  | .ok .next, h => exact h.elim
  | .ok .brk, h => exact h.elim
  | .ok .cont, h => exact h.elim
  | .ok (.ret u), h =>
    obtain ⟨v, H', os, bare, un, hok', r', rfl⟩ := h
    cases r'
    refine ⟨rfl, OldK.of_keep fun b o e => ?_, os, bare⟩
    cases q : scrHp K a vs ns b with
    | none => exact un.keep b o e q (out b) (by simp)
    | some u =>
      have q2 := (scr_some q).2
      subst q2
      have z1 := (hok b _ q).1
      have z2 := (hok' b _ (un.frzs b _ _ q)).1
      rw [e] at z1
      cases z1
      exact z2
end
theorem walkG {l : PySem.W.OpenLaw} {n k : Nat} {q : Program} {loose : List Str} {XP : (Str → Option Value) → Heap → Prop} {YP : World → Heap → Prop} {d : DefRec} {K : Params → PySem.W.Frag} {CX : CXT} {sp : PySem.W.Frag → Sp} {x : Str}
    (hn : l.most = some n) (hn2 : n ≤ sizeLine) (hdf : d.params.defaults = []) (hr : Room k callerA) (hY : ∀ (w : World) (h : Heap), YP w h → (K w.params).In h)
    (F : ∀ (w : World) (mg : Str → Option Value) (fa : Addr) (h : Heap), (K w.params).In h → h.Ns mainGlobals mg → mg d.name = some (.ref fa) → ∃ fd : FuncData, (∀ (s : Shared) (u : Value), BindsTo s fd ⟨[u], []⟩ [(x, u)]) ∧ ∀ base : Heap, (K w.params).In base → base.Ns mainGlobals mg → FnG l.prog w (K w.params) mg base CX k fa fd [x] (sp (K w.params)))
    (hsp : ∀ (K : PySem.W.Frag) (H : Hp) (a : Addr) (ns : List Int), ns.length ≤ n → Only H → SqL K H a (ns.map V.int) → sp K [.ref a] H (fun v _ => v = .bl true) fun _ _ _ => False)
    (hCX : ∀ (H : Hp) (s : Shared) (e : Value) (s' : Shared), CX [] H s (fun _ _ _ => False) e s' → False) : PySem.W.WalkO q loose XP YP l.row.toRowW d [] (fun f vs => PySem.call f vs) :=
  Att.attach_call hn hdf fun w s₀ s₁ mg mb fa o pm cd doc a vs ns G Y ho hd hcd hmg hobj hints hlen hg => by
    have KX := hY w _ Y
    obtain ⟨fd, hb, hF⟩ := F w mg fa _ KX G.T.g hmg
    exact law_true KX G.T.g G.T.b G.T.builtins G.T.nolimit hg hobj hints (Nat.le_trans hlen hn2) hr hF hb (fun H hO hS => hsp _ H a ns hlen hO hS) fun H e s' => hCX H s₁ e s'
/-- a def called with keywords, no defaults -/
theorem kb_of {K : PySem.W.Frag} {x qual : Str} {st : Stmt} {f : Addr} {fd : FuncData} {ps ks : List Str} {n : Nat} {g : List Value → List Value → List Value} {gV : List V → List V → List V} (F : Fun K x qual st f fd)
    (h : ∀ (kV doc pm : Value) (an : Option Addr) (cdv ct : Value) (us ws : List Value), us.length = n → ws.length = ks.length → bindArgs (PySem.W.fnOf x qual (defArgs st) (defBody st) (defScope st) .none kV doc pm an cdv ct) ⟨us, ks.zip ws⟩ = pure (ps.zip (g us ws)))
    (hrel : ∀ {vs : List V} {us : List Value} {zs : List V} {ws : List Value}, Vals vs us → Vals zs ws → Vals (gV vs zs) (g us ws)) : KBn K fd ps n ks g gV := by
  obtain ⟨oc, od, kV, doc, pm, an, cdv, ct, osl, rfl, lk, hcd⟩ := F.ex
  exact ⟨fun s us ws _ h1 h2 => BindsTo.of_looks fun M => by rw [h kV doc pm an cdv ct us ws h1 h2]; exact PySem.W.Looks.now, hrel⟩
theorem vals_rev : ∀ {vs : List V} {us : List Value}, Vals vs us → Vals vs.reverse us.reverse
  | _, _, .nil => .nil
  | _, _, .cons a b => by rw [List.reverse_cons, List.reverse_cons]; exact (vals_rev b).append (.cons a .nil)
end G
end
section
set_option maxHeartbeats 4000000
namespace K11
open PySem L2 Evl G TM
theorem ex_pot {H H2 : Hp} {p : Addr} (e : Ex H H2) (hp : H p = none) : Ex H (wo H2 p) := fun b o h => by rw [wo_ne (ne_of_none h hp)]; exact e b o h
def sp_law (K : PySem.W.Frag) : Sp := fun vs H Q _ => ∃ (a : Addr) (ns : List Int), vs = [.ref a] ∧ SqL K H a (ns.map V.int) ∧ ns.length ≤ 63 ∧ RetV (.bl true) H Q
section
variable {P : Program} {w : World} {K : PySem.W.Frag} {mg : Str → Option Value} {base : Heap} {C : Addr}
theorem ok_law {f f1 f2 : Addr} {fd fd1 fd2 : FuncData} (F : Fun K "law" "law" s_law f fd) (T : Txt K mg C) (c__law_pot : Cal P w K mg base "_law_pot" f1 fd1 ["_law_script", "_law_k"] 1 (sp_pot K)) (c__law_right : CalG P w K mg base "_law_right" f2 fd2 ["_law_pot_here"] 7 sp_right) :
    FnG P w K mg base CX0 8 f fd ["_law_script"] (sp_law K) := by
  refine okG F sc_law (fun vs H Q E h => ?_) (fun cdv A outer s H vs Q E hg hr h => ?_)
  · obtain ⟨a, ns, rfl, _⟩ := h
    rfl
  · obtain ⟨a, ns, rfl, hs, hl, k⟩ := h
    have hu := hr.units
    have e0 : (ns.map V.int).length = ns.length := List.length_map ..
    refine ⟨_, (pss_one (ps_ret (pe_callB (allL (K := K) rfl rfl) (by rfl) T.b_all (by decide +kernel) (pa_cons (pe_lc (own := [("_law_k", 1)]) (g := (gName 1)) (by rfl) sc_law.nd (pi_range1 (by rfl) T.b_range (pa_cons (pe_callB (call_max2 rfl) (by rfl) T.b_max (by decide +kernel) (pa_cons pe_int (pa_cons (pe_callB (call_min2 rfl) (by rfl) T.b_min (by decide +kernel) (pa_cons pe_int (pa_cons (pe_callB (lenS (K := K) rfl) (by rfl) T.b_len (by decide +kernel) (pa_cons (pv 0) pa_nil)) pa_nil))) pa_nil))) pa_nil)) (blkOk_by (own := [("_law_k", 1)]) (N := ["_law_script", "_law_k"]) (sc := defScope s_law) (by decide +kernel)) (fun _ _ _ _ _ => (pg_name (i := 1) sc_law.nd rfl (Or.inl rfl))) (fun _ _ _ _ _ => pts_nil) (fun _ _ _ _ _ => (pe_callG c__law_right.ok hg (hr.mono (by decide)) (by rfl) c__law_right.mgx c__law_right.kp c__law_right.bd .nil pass0 (pa_cons (pe_call c__law_pot.ok (hr.mono (by decide)) (by rfl) c__law_pot.mgx c__law_pot.kp c__law_pot.bd .nil pass0 (pa_cons (pv 0) (pa_cons (pv 1) pa_nil))) pa_nil)))) pa_nil)))), ?_⟩
    refine s_ret (ev_allT (el_lcR1 (fun _ => true) (fun _ => V.bl true) (ea_cons (ev_cb (ea_cons ev_c (ea_cons (ev_cb (ea_cons ev_c (ea_cons (ev_cb (ea_cons (ev_var rfl) ea_nil) (rc_len (.inl hs) e0)) ea_nil)) rc_min2) ea_nil)) rc_max2) ea_nil) ?_ (fun _ => rfl) (fun _ _ _ _ => lc_yes) (fun i H1 e1 hi _ => ?_))) k
    · split <;> split <;> omega
    · refine fun Ha ea Qa qa => ⟨.ref a, rfl, .int (i : Int), rfl, a, ns, (i : Int), rfl, ex_l (e1.trans ea) hs, by omega, ?_, fun p H2 hp e2 pot => ⟨p, rfl, pot, fun H3 e3 hp3 => qa H3 ((ex_pot e2 hp).trans e3)⟩⟩
      split at hi <;> split at hi <;> omega
theorem all_mk {h : Heap} {fa : Addr} (X : K.In h) (G : h.Ns mainGlobals mg) (hmg : mg "law" = some (.ref fa))
    {C : Addr}
    {tk_MOST_ANSWERS : Tok}
    {tk_MOST_LENGTH : Tok}
    {tq_MOST_LENGTH : Tok}
    {f_is_day : Addr} {od_is_day an_is_day : Option Addr} {sl_is_day : Array (Option Value)} {oc_is_day kV_is_day dc_is_day pm_is_day cd_is_day ct_is_day : Value}
    {f_is_count : Addr} {od_is_count an_is_count : Option Addr} {sl_is_count : Array (Option Value)} {oc_is_count kV_is_count dc_is_count pm_is_count cd_is_count ct_is_count : Value}
    {f_need_day : Addr} {od_need_day an_need_day : Option Addr} {sl_need_day : Array (Option Value)} {oc_need_day kV_need_day dc_need_day pm_need_day cd_need_day ct_need_day : Value}
    {f_need_count : Addr} {od_need_count an_need_count : Option Addr} {sl_need_count : Array (Option Value)} {oc_need_count kV_need_count dc_need_count pm_need_count cd_need_count ct_need_count : Value}
    {f_is_list : Addr} {od_is_list an_is_list : Option Addr} {sl_is_list : Array (Option Value)} {oc_is_list kV_is_list dc_is_list pm_is_list cd_is_list ct_is_list : Value}
    {f_Table___init__ : Addr} {od_Table___init__ an_Table___init__ : Option Addr} {sl_Table___init__ : Array (Option Value)} {oc_Table___init__ kV_Table___init__ dc_Table___init__ pm_Table___init__ cd_Table___init__ ct_Table___init__ : Value}
    {f_Table_length : Addr} {od_Table_length an_Table_length : Option Addr} {sl_Table_length : Array (Option Value)} {oc_Table_length kV_Table_length dc_Table_length pm_Table_length cd_Table_length ct_Table_length : Value}
    {p_Table_length : Addr} {rs_Table_length : List Value}
    {f_Table_days : Addr} {od_Table_days an_Table_days : Option Addr} {sl_Table_days : Array (Option Value)} {oc_Table_days kV_Table_days dc_Table_days pm_Table_days cd_Table_days ct_Table_days : Value}
    {f_Table_asked_rows : Addr} {od_Table_asked_rows an_Table_asked_rows : Option Addr} {sl_Table_asked_rows : Array (Option Value)} {oc_Table_asked_rows kV_Table_asked_rows dc_Table_asked_rows pm_Table_asked_rows cd_Table_asked_rows ct_Table_asked_rows : Value}
    {f_Table_on : Addr} {od_Table_on an_Table_on : Option Addr} {sl_Table_on : Array (Option Value)} {oc_Table_on kV_Table_on dc_Table_on pm_Table_on cd_Table_on ct_Table_on : Value}
    {f_Table___call__ : Addr} {od_Table___call__ an_Table___call__ : Option Addr} {sl_Table___call__ : Array (Option Value)} {oc_Table___call__ kV_Table___call__ dc_Table___call__ pm_Table___call__ cd_Table___call__ ct_Table___call__ : Value}
    {f_Table_by : Addr} {od_Table_by an_Table_by : Option Addr} {sl_Table_by : Array (Option Value)} {oc_Table_by kV_Table_by dc_Table_by pm_Table_by cd_Table_by ct_Table_by : Value}
    {f_Table_til : Addr} {od_Table_til an_Table_til : Option Addr} {sl_Table_til : Array (Option Value)} {oc_Table_til kV_Table_til dc_Table_til pm_Table_til cd_Table_til ct_Table_til : Value}
    {f_Table_answers : Addr} {od_Table_answers an_Table_answers : Option Addr} {sl_Table_answers : Array (Option Value)} {oc_Table_answers kV_Table_answers dc_Table_answers pm_Table_answers cd_Table_answers ct_Table_answers : Value}
    {f_Table_is_served : Addr} {od_Table_is_served an_Table_is_served : Option Addr} {sl_Table_is_served : Array (Option Value)} {oc_Table_is_served kV_Table_is_served dc_Table_is_served pm_Table_is_served cd_Table_is_served ct_Table_is_served : Value}
    {f_Table_leads : Addr} {od_Table_leads an_Table_leads : Option Addr} {sl_Table_leads : Array (Option Value)} {oc_Table_leads kV_Table_leads dc_Table_leads pm_Table_leads cd_Table_leads ct_Table_leads : Value}
    {f_Table_mean_lead : Addr} {od_Table_mean_lead an_Table_mean_lead : Option Addr} {sl_Table_mean_lead : Array (Option Value)} {oc_Table_mean_lead kV_Table_mean_lead dc_Table_mean_lead pm_Table_mean_lead cd_Table_mean_lead ct_Table_mean_lead : Value}
    {f_Table_fixed_days : Addr} {od_Table_fixed_days an_Table_fixed_days : Option Addr} {sl_Table_fixed_days : Array (Option Value)} {oc_Table_fixed_days kV_Table_fixed_days dc_Table_fixed_days pm_Table_fixed_days cd_Table_fixed_days ct_Table_fixed_days : Value}
    {f_Table___repr__ : Addr} {od_Table___repr__ an_Table___repr__ : Option Addr} {sl_Table___repr__ : Array (Option Value)} {oc_Table___repr__ kV_Table___repr__ dc_Table___repr__ pm_Table___repr__ cd_Table___repr__ ct_Table___repr__ : Value}
    {f_is_table : Addr} {od_is_table an_is_table : Option Addr} {sl_is_table : Array (Option Value)} {oc_is_table kV_is_table dc_is_table pm_is_table cd_is_table ct_is_table : Value}
    {f__many_ahead : Addr} {od__many_ahead an__many_ahead : Option Addr} {sl__many_ahead : Array (Option Value)} {oc__many_ahead kV__many_ahead dc__many_ahead pm__many_ahead cd__many_ahead ct__many_ahead : Value}
    {f__law_pot : Addr} {od__law_pot an__law_pot : Option Addr} {sl__law_pot : Array (Option Value)} {oc__law_pot kV__law_pot dc__law_pot pm__law_pot cd__law_pot ct__law_pot : Value}
    {f__law_draw : Addr} {od__law_draw an__law_draw : Option Addr} {sl__law_draw : Array (Option Value)} {oc__law_draw kV__law_draw dc__law_draw pm__law_draw cd__law_draw ct__law_draw : Value}
    {f__law_pick : Addr} {od__law_pick an__law_pick : Option Addr} {sl__law_pick : Array (Option Value)} {oc__law_pick kV__law_pick dc__law_pick pm__law_pick cd__law_pick ct__law_pick : Value}
    {f__law_days : Addr} {od__law_days an__law_days : Option Addr} {sl__law_days : Array (Option Value)} {oc__law_days kV__law_days dc__law_days pm__law_days cd__law_days ct__law_days : Value}
    {f__law_on : Addr} {od__law_on an__law_on : Option Addr} {sl__law_on : Array (Option Value)} {oc__law_on kV__law_on dc__law_on pm__law_on cd__law_on ct__law_on : Value}
    {f__law_by : Addr} {od__law_by an__law_by : Option Addr} {sl__law_by : Array (Option Value)} {oc__law_by kV__law_by dc__law_by pm__law_by cd__law_by ct__law_by : Value}
    {f__law_til : Addr} {od__law_til an__law_til : Option Addr} {sl__law_til : Array (Option Value)} {oc__law_til kV__law_til dc__law_til pm__law_til cd__law_til ct__law_til : Value}
    {f__law_low : Addr} {od__law_low an__law_low : Option Addr} {sl__law_low : Array (Option Value)} {oc__law_low kV__law_low dc__law_low pm__law_low cd__law_low ct__law_low : Value}
    {f__law_whole_right : Addr} {od__law_whole_right an__law_whole_right : Option Addr} {sl__law_whole_right : Array (Option Value)} {oc__law_whole_right kV__law_whole_right dc__law_whole_right pm__law_whole_right cd__law_whole_right ct__law_whole_right : Value}
    {f__law_day_right : Addr} {od__law_day_right an__law_day_right : Option Addr} {sl__law_day_right : Array (Option Value)} {oc__law_day_right kV__law_day_right dc__law_day_right pm__law_day_right cd__law_day_right ct__law_day_right : Value}
    {f__law_answers_right : Addr} {od__law_answers_right an__law_answers_right : Option Addr} {sl__law_answers_right : Array (Option Value)} {oc__law_answers_right kV__law_answers_right dc__law_answers_right pm__law_answers_right cd__law_answers_right ct__law_answers_right : Value}
    {f__law_long_right : Addr} {od__law_long_right an__law_long_right : Option Addr} {sl__law_long_right : Array (Option Value)} {oc__law_long_right kV__law_long_right dc__law_long_right pm__law_long_right cd__law_long_right ct__law_long_right : Value}
    {f__law_right : Addr} {od__law_right an__law_right : Option Addr} {sl__law_right : Array (Option Value)} {oc__law_right kV__law_right dc__law_right pm__law_right cd__law_right ct__law_right : Value}
    {f_law : Addr} {od_law an_law : Option Addr} {sl_law : Array (Option Value)} {oc_law kV_law dc_law pm_law cd_law ct_law : Value}
    (aC : PySem.W.nsIn K mainGlobals "Table" = some (some (.ref C)))
    (pg : PySem.W.plainGet K C Str.empty = true)
    (hd : PySem.W.hasDictIn K C = true)
    (po : PySem.W.plainOver K C = true)
    (sa : PySem.W.findIn K (.ref C) "__setattr__" = some (some (.builtin "object.__setattr__")))
    (mk : PySem.W.makesIn K C = true)
    (kc : PySem.W.keepIn K (.ref C) = true)
    (n_days : PySem.W.findIn K (.ref C) "_days" = some none)
    (vMOST_ANSWERS : PySem.W.findIn K (.ref C) "MOST_ANSWERS" = some (some (.int 600 tk_MOST_ANSWERS)))
    (wMOST_ANSWERS : PySem.W.specialIn K (.int 600 tk_MOST_ANSWERS) "__get__" = some none)
    (vMOST_LENGTH : PySem.W.findIn K (.ref C) "MOST_LENGTH" = some (some (.int 600 tk_MOST_LENGTH)))
    (wMOST_LENGTH : PySem.W.specialIn K (.int 600 tk_MOST_LENGTH) "__get__" = some none)
    (rd : PySem.W.readsIn K C (.type "type") = true)
    (ga : PySem.W.specialIn K (.ref C) "__getattribute__" = some (some (.builtin "type.__getattribute__")))
    (xMOST_LENGTH : PySem.W.findCls K (.ref C) (.type "type") "MOST_LENGTH" = some (.val (.int 600 tq_MOST_LENGTH)))
    (a_is_day : PySem.W.nsIn K mainGlobals "is_day" = some (some (.ref f_is_day)))
    (l_is_day : K.lookup f_is_day = some ⟨oc_is_day, od_is_day, .func (PySem.W.fnOf "is_day" "is_day" (defArgs s_is_day) (defBody s_is_day) (defScope s_is_day) .none kV_is_day dc_is_day pm_is_day an_is_day cd_is_day ct_is_day), sl_is_day⟩)
    (c_is_day : PySem.W.codeIn K cd_is_day "is_day" = true)
    (k_is_day : PySem.W.keepIn K (.ref f_is_day) = true)
    (a_is_count : PySem.W.nsIn K mainGlobals "is_count" = some (some (.ref f_is_count)))
    (l_is_count : K.lookup f_is_count = some ⟨oc_is_count, od_is_count, .func (PySem.W.fnOf "is_count" "is_count" (defArgs s_is_count) (defBody s_is_count) (defScope s_is_count) .none kV_is_count dc_is_count pm_is_count an_is_count cd_is_count ct_is_count), sl_is_count⟩)
    (c_is_count : PySem.W.codeIn K cd_is_count "is_count" = true)
    (k_is_count : PySem.W.keepIn K (.ref f_is_count) = true)
    (a_need_day : PySem.W.nsIn K mainGlobals "need_day" = some (some (.ref f_need_day)))
    (l_need_day : K.lookup f_need_day = some ⟨oc_need_day, od_need_day, .func (PySem.W.fnOf "need_day" "need_day" (defArgs s_need_day) (defBody s_need_day) (defScope s_need_day) .none kV_need_day dc_need_day pm_need_day an_need_day cd_need_day ct_need_day), sl_need_day⟩)
    (c_need_day : PySem.W.codeIn K cd_need_day "need_day" = true)
    (k_need_day : PySem.W.keepIn K (.ref f_need_day) = true)
    (a_need_count : PySem.W.nsIn K mainGlobals "need_count" = some (some (.ref f_need_count)))
    (l_need_count : K.lookup f_need_count = some ⟨oc_need_count, od_need_count, .func (PySem.W.fnOf "need_count" "need_count" (defArgs s_need_count) (defBody s_need_count) (defScope s_need_count) .none kV_need_count dc_need_count pm_need_count an_need_count cd_need_count ct_need_count), sl_need_count⟩)
    (c_need_count : PySem.W.codeIn K cd_need_count "need_count" = true)
    (k_need_count : PySem.W.keepIn K (.ref f_need_count) = true)
    (a_is_list : PySem.W.nsIn K mainGlobals "is_list" = some (some (.ref f_is_list)))
    (l_is_list : K.lookup f_is_list = some ⟨oc_is_list, od_is_list, .func (PySem.W.fnOf "is_list" "is_list" (defArgs s_is_list) (defBody s_is_list) (defScope s_is_list) .none kV_is_list dc_is_list pm_is_list an_is_list cd_is_list ct_is_list), sl_is_list⟩)
    (c_is_list : PySem.W.codeIn K cd_is_list "is_list" = true)
    (k_is_list : PySem.W.keepIn K (.ref f_is_list) = true)
    (a_Table___init__ : PySem.W.findIn K (.ref C) "__init__" = some (some (.ref f_Table___init__)))
    (i_Table___init__ : PySem.W.isFn K (.ref f_Table___init__) = true)
    (l_Table___init__ : K.lookup f_Table___init__ = some ⟨oc_Table___init__, od_Table___init__, .func (PySem.W.fnOf "__init__" "Table.__init__" (defArgs s_Table___init__) (defBody s_Table___init__) (defScope s_Table___init__) .none kV_Table___init__ dc_Table___init__ pm_Table___init__ an_Table___init__ cd_Table___init__ ct_Table___init__), sl_Table___init__⟩)
    (c_Table___init__ : PySem.W.codeIn K cd_Table___init__ "Table.__init__" = true)
    (k_Table___init__ : PySem.W.keepIn K (.ref f_Table___init__) = true)
    (a_Table_length : PySem.W.findIn K (.ref C) "length" = some (some (.ref p_Table_length)))
    (g_Table_length : PySem.W.specialIn K (.ref p_Table_length) "__get__" = some (some (.builtin "property.__get__")))
    (t_Table_length : PySem.W.takesIn K (.ref p_Table_length) = some true)
    (r_Table_length : PySem.W.recIn K p_Table_length "property" = some (.ref f_Table_length :: rs_Table_length))
    (l_Table_length : K.lookup f_Table_length = some ⟨oc_Table_length, od_Table_length, .func (PySem.W.fnOf "length" "Table.length" (defArgs s_Table_length) (defBody s_Table_length) (defScope s_Table_length) .none kV_Table_length dc_Table_length pm_Table_length an_Table_length cd_Table_length ct_Table_length), sl_Table_length⟩)
    (c_Table_length : PySem.W.codeIn K cd_Table_length "Table.length" = true)
    (k_Table_length : PySem.W.keepIn K (.ref f_Table_length) = true)
    (a_Table_days : PySem.W.findIn K (.ref C) "days" = some (some (.ref f_Table_days)))
    (i_Table_days : PySem.W.isFn K (.ref f_Table_days) = true)
    (l_Table_days : K.lookup f_Table_days = some ⟨oc_Table_days, od_Table_days, .func (PySem.W.fnOf "days" "Table.days" (defArgs s_Table_days) (defBody s_Table_days) (defScope s_Table_days) .none kV_Table_days dc_Table_days pm_Table_days an_Table_days cd_Table_days ct_Table_days), sl_Table_days⟩)
    (c_Table_days : PySem.W.codeIn K cd_Table_days "Table.days" = true)
    (k_Table_days : PySem.W.keepIn K (.ref f_Table_days) = true)
    (a_Table_asked_rows : PySem.W.findIn K (.ref C) "asked_rows" = some (some (.ref f_Table_asked_rows)))
    (i_Table_asked_rows : PySem.W.isFn K (.ref f_Table_asked_rows) = true)
    (l_Table_asked_rows : K.lookup f_Table_asked_rows = some ⟨oc_Table_asked_rows, od_Table_asked_rows, .func (PySem.W.fnOf "asked_rows" "Table.asked_rows" (defArgs s_Table_asked_rows) (defBody s_Table_asked_rows) (defScope s_Table_asked_rows) .none kV_Table_asked_rows dc_Table_asked_rows pm_Table_asked_rows an_Table_asked_rows cd_Table_asked_rows ct_Table_asked_rows), sl_Table_asked_rows⟩)
    (c_Table_asked_rows : PySem.W.codeIn K cd_Table_asked_rows "Table.asked_rows" = true)
    (k_Table_asked_rows : PySem.W.keepIn K (.ref f_Table_asked_rows) = true)
    (a_Table_on : PySem.W.findIn K (.ref C) "on" = some (some (.ref f_Table_on)))
    (i_Table_on : PySem.W.isFn K (.ref f_Table_on) = true)
    (l_Table_on : K.lookup f_Table_on = some ⟨oc_Table_on, od_Table_on, .func (PySem.W.fnOf "on" "Table.on" (defArgs s_Table_on) (defBody s_Table_on) (defScope s_Table_on) .none kV_Table_on dc_Table_on pm_Table_on an_Table_on cd_Table_on ct_Table_on), sl_Table_on⟩)
    (c_Table_on : PySem.W.codeIn K cd_Table_on "Table.on" = true)
    (k_Table_on : PySem.W.keepIn K (.ref f_Table_on) = true)
    (a_Table___call__ : PySem.W.findIn K (.ref C) "__call__" = some (some (.ref f_Table___call__)))
    (i_Table___call__ : PySem.W.isFn K (.ref f_Table___call__) = true)
    (n_Table___call__ : PySem.W.fnIn K f_Table___call__ = true)
    (l_Table___call__ : K.lookup f_Table___call__ = some ⟨oc_Table___call__, od_Table___call__, .func (PySem.W.fnOf "__call__" "Table.__call__" (defArgs s_Table___call__) (defBody s_Table___call__) (defScope s_Table___call__) .none kV_Table___call__ dc_Table___call__ pm_Table___call__ an_Table___call__ cd_Table___call__ ct_Table___call__), sl_Table___call__⟩)
    (c_Table___call__ : PySem.W.codeIn K cd_Table___call__ "Table.__call__" = true)
    (k_Table___call__ : PySem.W.keepIn K (.ref f_Table___call__) = true)
    (a_Table_by : PySem.W.findIn K (.ref C) "by" = some (some (.ref f_Table_by)))
    (i_Table_by : PySem.W.isFn K (.ref f_Table_by) = true)
    (l_Table_by : K.lookup f_Table_by = some ⟨oc_Table_by, od_Table_by, .func (PySem.W.fnOf "by" "Table.by" (defArgs s_Table_by) (defBody s_Table_by) (defScope s_Table_by) .none kV_Table_by dc_Table_by pm_Table_by an_Table_by cd_Table_by ct_Table_by), sl_Table_by⟩)
    (c_Table_by : PySem.W.codeIn K cd_Table_by "Table.by" = true)
    (k_Table_by : PySem.W.keepIn K (.ref f_Table_by) = true)
    (a_Table_til : PySem.W.findIn K (.ref C) "til" = some (some (.ref f_Table_til)))
    (i_Table_til : PySem.W.isFn K (.ref f_Table_til) = true)
    (l_Table_til : K.lookup f_Table_til = some ⟨oc_Table_til, od_Table_til, .func (PySem.W.fnOf "til" "Table.til" (defArgs s_Table_til) (defBody s_Table_til) (defScope s_Table_til) .none kV_Table_til dc_Table_til pm_Table_til an_Table_til cd_Table_til ct_Table_til), sl_Table_til⟩)
    (c_Table_til : PySem.W.codeIn K cd_Table_til "Table.til" = true)
    (k_Table_til : PySem.W.keepIn K (.ref f_Table_til) = true)
    (a_Table_answers : PySem.W.findIn K (.ref C) "answers" = some (some (.ref f_Table_answers)))
    (i_Table_answers : PySem.W.isFn K (.ref f_Table_answers) = true)
    (l_Table_answers : K.lookup f_Table_answers = some ⟨oc_Table_answers, od_Table_answers, .func (PySem.W.fnOf "answers" "Table.answers" (defArgs s_Table_answers) (defBody s_Table_answers) (defScope s_Table_answers) .none kV_Table_answers dc_Table_answers pm_Table_answers an_Table_answers cd_Table_answers ct_Table_answers), sl_Table_answers⟩)
    (c_Table_answers : PySem.W.codeIn K cd_Table_answers "Table.answers" = true)
    (k_Table_answers : PySem.W.keepIn K (.ref f_Table_answers) = true)
    (a_Table_is_served : PySem.W.findIn K (.ref C) "is_served" = some (some (.ref f_Table_is_served)))
    (i_Table_is_served : PySem.W.isFn K (.ref f_Table_is_served) = true)
    (l_Table_is_served : K.lookup f_Table_is_served = some ⟨oc_Table_is_served, od_Table_is_served, .func (PySem.W.fnOf "is_served" "Table.is_served" (defArgs s_Table_is_served) (defBody s_Table_is_served) (defScope s_Table_is_served) .none kV_Table_is_served dc_Table_is_served pm_Table_is_served an_Table_is_served cd_Table_is_served ct_Table_is_served), sl_Table_is_served⟩)
    (c_Table_is_served : PySem.W.codeIn K cd_Table_is_served "Table.is_served" = true)
    (k_Table_is_served : PySem.W.keepIn K (.ref f_Table_is_served) = true)
    (a_Table_leads : PySem.W.findIn K (.ref C) "leads" = some (some (.ref f_Table_leads)))
    (i_Table_leads : PySem.W.isFn K (.ref f_Table_leads) = true)
    (l_Table_leads : K.lookup f_Table_leads = some ⟨oc_Table_leads, od_Table_leads, .func (PySem.W.fnOf "leads" "Table.leads" (defArgs s_Table_leads) (defBody s_Table_leads) (defScope s_Table_leads) .none kV_Table_leads dc_Table_leads pm_Table_leads an_Table_leads cd_Table_leads ct_Table_leads), sl_Table_leads⟩)
    (c_Table_leads : PySem.W.codeIn K cd_Table_leads "Table.leads" = true)
    (k_Table_leads : PySem.W.keepIn K (.ref f_Table_leads) = true)
    (a_Table_mean_lead : PySem.W.findIn K (.ref C) "mean_lead" = some (some (.ref f_Table_mean_lead)))
    (i_Table_mean_lead : PySem.W.isFn K (.ref f_Table_mean_lead) = true)
    (l_Table_mean_lead : K.lookup f_Table_mean_lead = some ⟨oc_Table_mean_lead, od_Table_mean_lead, .func (PySem.W.fnOf "mean_lead" "Table.mean_lead" (defArgs s_Table_mean_lead) (defBody s_Table_mean_lead) (defScope s_Table_mean_lead) .none kV_Table_mean_lead dc_Table_mean_lead pm_Table_mean_lead an_Table_mean_lead cd_Table_mean_lead ct_Table_mean_lead), sl_Table_mean_lead⟩)
    (c_Table_mean_lead : PySem.W.codeIn K cd_Table_mean_lead "Table.mean_lead" = true)
    (k_Table_mean_lead : PySem.W.keepIn K (.ref f_Table_mean_lead) = true)
    (a_Table_fixed_days : PySem.W.findIn K (.ref C) "fixed_days" = some (some (.ref f_Table_fixed_days)))
    (i_Table_fixed_days : PySem.W.isFn K (.ref f_Table_fixed_days) = true)
    (l_Table_fixed_days : K.lookup f_Table_fixed_days = some ⟨oc_Table_fixed_days, od_Table_fixed_days, .func (PySem.W.fnOf "fixed_days" "Table.fixed_days" (defArgs s_Table_fixed_days) (defBody s_Table_fixed_days) (defScope s_Table_fixed_days) .none kV_Table_fixed_days dc_Table_fixed_days pm_Table_fixed_days an_Table_fixed_days cd_Table_fixed_days ct_Table_fixed_days), sl_Table_fixed_days⟩)
    (c_Table_fixed_days : PySem.W.codeIn K cd_Table_fixed_days "Table.fixed_days" = true)
    (k_Table_fixed_days : PySem.W.keepIn K (.ref f_Table_fixed_days) = true)
    (a_Table___repr__ : PySem.W.findIn K (.ref C) "__repr__" = some (some (.ref f_Table___repr__)))
    (i_Table___repr__ : PySem.W.isFn K (.ref f_Table___repr__) = true)
    (l_Table___repr__ : K.lookup f_Table___repr__ = some ⟨oc_Table___repr__, od_Table___repr__, .func (PySem.W.fnOf "__repr__" "Table.__repr__" (defArgs s_Table___repr__) (defBody s_Table___repr__) (defScope s_Table___repr__) .none kV_Table___repr__ dc_Table___repr__ pm_Table___repr__ an_Table___repr__ cd_Table___repr__ ct_Table___repr__), sl_Table___repr__⟩)
    (c_Table___repr__ : PySem.W.codeIn K cd_Table___repr__ "Table.__repr__" = true)
    (k_Table___repr__ : PySem.W.keepIn K (.ref f_Table___repr__) = true)
    (a_is_table : PySem.W.nsIn K mainGlobals "is_table" = some (some (.ref f_is_table)))
    (l_is_table : K.lookup f_is_table = some ⟨oc_is_table, od_is_table, .func (PySem.W.fnOf "is_table" "is_table" (defArgs s_is_table) (defBody s_is_table) (defScope s_is_table) .none kV_is_table dc_is_table pm_is_table an_is_table cd_is_table ct_is_table), sl_is_table⟩)
    (c_is_table : PySem.W.codeIn K cd_is_table "is_table" = true)
    (k_is_table : PySem.W.keepIn K (.ref f_is_table) = true)
    (a__many_ahead : PySem.W.nsIn K mainGlobals "_many_ahead" = some (some (.ref f__many_ahead)))
    (l__many_ahead : K.lookup f__many_ahead = some ⟨oc__many_ahead, od__many_ahead, .func (PySem.W.fnOf "_many_ahead" "_many_ahead" (defArgs s__many_ahead) (defBody s__many_ahead) (defScope s__many_ahead) .none kV__many_ahead dc__many_ahead pm__many_ahead an__many_ahead cd__many_ahead ct__many_ahead), sl__many_ahead⟩)
    (c__many_ahead : PySem.W.codeIn K cd__many_ahead "_many_ahead" = true)
    (k__many_ahead : PySem.W.keepIn K (.ref f__many_ahead) = true)
    (a__law_pot : PySem.W.nsIn K mainGlobals "_law_pot" = some (some (.ref f__law_pot)))
    (l__law_pot : K.lookup f__law_pot = some ⟨oc__law_pot, od__law_pot, .func (PySem.W.fnOf "_law_pot" "_law_pot" (defArgs s__law_pot) (defBody s__law_pot) (defScope s__law_pot) .none kV__law_pot dc__law_pot pm__law_pot an__law_pot cd__law_pot ct__law_pot), sl__law_pot⟩)
    (c__law_pot : PySem.W.codeIn K cd__law_pot "_law_pot" = true)
    (k__law_pot : PySem.W.keepIn K (.ref f__law_pot) = true)
    (a__law_draw : PySem.W.nsIn K mainGlobals "_law_draw" = some (some (.ref f__law_draw)))
    (l__law_draw : K.lookup f__law_draw = some ⟨oc__law_draw, od__law_draw, .func (PySem.W.fnOf "_law_draw" "_law_draw" (defArgs s__law_draw) (defBody s__law_draw) (defScope s__law_draw) .none kV__law_draw dc__law_draw pm__law_draw an__law_draw cd__law_draw ct__law_draw), sl__law_draw⟩)
    (c__law_draw : PySem.W.codeIn K cd__law_draw "_law_draw" = true)
    (k__law_draw : PySem.W.keepIn K (.ref f__law_draw) = true)
    (a__law_pick : PySem.W.nsIn K mainGlobals "_law_pick" = some (some (.ref f__law_pick)))
    (l__law_pick : K.lookup f__law_pick = some ⟨oc__law_pick, od__law_pick, .func (PySem.W.fnOf "_law_pick" "_law_pick" (defArgs s__law_pick) (defBody s__law_pick) (defScope s__law_pick) .none kV__law_pick dc__law_pick pm__law_pick an__law_pick cd__law_pick ct__law_pick), sl__law_pick⟩)
    (c__law_pick : PySem.W.codeIn K cd__law_pick "_law_pick" = true)
    (k__law_pick : PySem.W.keepIn K (.ref f__law_pick) = true)
    (a__law_days : PySem.W.nsIn K mainGlobals "_law_days" = some (some (.ref f__law_days)))
    (l__law_days : K.lookup f__law_days = some ⟨oc__law_days, od__law_days, .func (PySem.W.fnOf "_law_days" "_law_days" (defArgs s__law_days) (defBody s__law_days) (defScope s__law_days) .none kV__law_days dc__law_days pm__law_days an__law_days cd__law_days ct__law_days), sl__law_days⟩)
    (c__law_days : PySem.W.codeIn K cd__law_days "_law_days" = true)
    (k__law_days : PySem.W.keepIn K (.ref f__law_days) = true)
    (a__law_on : PySem.W.nsIn K mainGlobals "_law_on" = some (some (.ref f__law_on)))
    (l__law_on : K.lookup f__law_on = some ⟨oc__law_on, od__law_on, .func (PySem.W.fnOf "_law_on" "_law_on" (defArgs s__law_on) (defBody s__law_on) (defScope s__law_on) .none kV__law_on dc__law_on pm__law_on an__law_on cd__law_on ct__law_on), sl__law_on⟩)
    (c__law_on : PySem.W.codeIn K cd__law_on "_law_on" = true)
    (k__law_on : PySem.W.keepIn K (.ref f__law_on) = true)
    (a__law_by : PySem.W.nsIn K mainGlobals "_law_by" = some (some (.ref f__law_by)))
    (l__law_by : K.lookup f__law_by = some ⟨oc__law_by, od__law_by, .func (PySem.W.fnOf "_law_by" "_law_by" (defArgs s__law_by) (defBody s__law_by) (defScope s__law_by) .none kV__law_by dc__law_by pm__law_by an__law_by cd__law_by ct__law_by), sl__law_by⟩)
    (c__law_by : PySem.W.codeIn K cd__law_by "_law_by" = true)
    (k__law_by : PySem.W.keepIn K (.ref f__law_by) = true)
    (a__law_til : PySem.W.nsIn K mainGlobals "_law_til" = some (some (.ref f__law_til)))
    (l__law_til : K.lookup f__law_til = some ⟨oc__law_til, od__law_til, .func (PySem.W.fnOf "_law_til" "_law_til" (defArgs s__law_til) (defBody s__law_til) (defScope s__law_til) .none kV__law_til dc__law_til pm__law_til an__law_til cd__law_til ct__law_til), sl__law_til⟩)
    (c__law_til : PySem.W.codeIn K cd__law_til "_law_til" = true)
    (k__law_til : PySem.W.keepIn K (.ref f__law_til) = true)
    (a__law_low : PySem.W.nsIn K mainGlobals "_law_low" = some (some (.ref f__law_low)))
    (l__law_low : K.lookup f__law_low = some ⟨oc__law_low, od__law_low, .func (PySem.W.fnOf "_law_low" "_law_low" (defArgs s__law_low) (defBody s__law_low) (defScope s__law_low) .none kV__law_low dc__law_low pm__law_low an__law_low cd__law_low ct__law_low), sl__law_low⟩)
    (c__law_low : PySem.W.codeIn K cd__law_low "_law_low" = true)
    (k__law_low : PySem.W.keepIn K (.ref f__law_low) = true)
    (a__law_whole_right : PySem.W.nsIn K mainGlobals "_law_whole_right" = some (some (.ref f__law_whole_right)))
    (l__law_whole_right : K.lookup f__law_whole_right = some ⟨oc__law_whole_right, od__law_whole_right, .func (PySem.W.fnOf "_law_whole_right" "_law_whole_right" (defArgs s__law_whole_right) (defBody s__law_whole_right) (defScope s__law_whole_right) .none kV__law_whole_right dc__law_whole_right pm__law_whole_right an__law_whole_right cd__law_whole_right ct__law_whole_right), sl__law_whole_right⟩)
    (c__law_whole_right : PySem.W.codeIn K cd__law_whole_right "_law_whole_right" = true)
    (k__law_whole_right : PySem.W.keepIn K (.ref f__law_whole_right) = true)
    (a__law_day_right : PySem.W.nsIn K mainGlobals "_law_day_right" = some (some (.ref f__law_day_right)))
    (l__law_day_right : K.lookup f__law_day_right = some ⟨oc__law_day_right, od__law_day_right, .func (PySem.W.fnOf "_law_day_right" "_law_day_right" (defArgs s__law_day_right) (defBody s__law_day_right) (defScope s__law_day_right) .none kV__law_day_right dc__law_day_right pm__law_day_right an__law_day_right cd__law_day_right ct__law_day_right), sl__law_day_right⟩)
    (c__law_day_right : PySem.W.codeIn K cd__law_day_right "_law_day_right" = true)
    (k__law_day_right : PySem.W.keepIn K (.ref f__law_day_right) = true)
    (a__law_answers_right : PySem.W.nsIn K mainGlobals "_law_answers_right" = some (some (.ref f__law_answers_right)))
    (l__law_answers_right : K.lookup f__law_answers_right = some ⟨oc__law_answers_right, od__law_answers_right, .func (PySem.W.fnOf "_law_answers_right" "_law_answers_right" (defArgs s__law_answers_right) (defBody s__law_answers_right) (defScope s__law_answers_right) .none kV__law_answers_right dc__law_answers_right pm__law_answers_right an__law_answers_right cd__law_answers_right ct__law_answers_right), sl__law_answers_right⟩)
    (c__law_answers_right : PySem.W.codeIn K cd__law_answers_right "_law_answers_right" = true)
    (k__law_answers_right : PySem.W.keepIn K (.ref f__law_answers_right) = true)
    (a__law_long_right : PySem.W.nsIn K mainGlobals "_law_long_right" = some (some (.ref f__law_long_right)))
    (l__law_long_right : K.lookup f__law_long_right = some ⟨oc__law_long_right, od__law_long_right, .func (PySem.W.fnOf "_law_long_right" "_law_long_right" (defArgs s__law_long_right) (defBody s__law_long_right) (defScope s__law_long_right) .none kV__law_long_right dc__law_long_right pm__law_long_right an__law_long_right cd__law_long_right ct__law_long_right), sl__law_long_right⟩)
    (c__law_long_right : PySem.W.codeIn K cd__law_long_right "_law_long_right" = true)
    (k__law_long_right : PySem.W.keepIn K (.ref f__law_long_right) = true)
    (a__law_right : PySem.W.nsIn K mainGlobals "_law_right" = some (some (.ref f__law_right)))
    (l__law_right : K.lookup f__law_right = some ⟨oc__law_right, od__law_right, .func (PySem.W.fnOf "_law_right" "_law_right" (defArgs s__law_right) (defBody s__law_right) (defScope s__law_right) .none kV__law_right dc__law_right pm__law_right an__law_right cd__law_right ct__law_right), sl__law_right⟩)
    (c__law_right : PySem.W.codeIn K cd__law_right "_law_right" = true)
    (k__law_right : PySem.W.keepIn K (.ref f__law_right) = true)
    (a_law : PySem.W.nsIn K mainGlobals "law" = some (some (.ref f_law)))
    (l_law : K.lookup f_law = some ⟨oc_law, od_law, .func (PySem.W.fnOf "law" "law" (defArgs s_law) (defBody s_law) (defScope s_law) .none kV_law dc_law pm_law an_law cd_law ct_law), sl_law⟩)
    (c_law : PySem.W.codeIn K cd_law "law" = true)
    (k_law : PySem.W.keepIn K (.ref f_law) = true)
    (b_isinstance : PySem.W.nsIn K mainGlobals "isinstance" = some none)
    (b_int : PySem.W.nsIn K mainGlobals "int" = some none)
    (b_bool : PySem.W.nsIn K mainGlobals "bool" = some none)
    (b_list : PySem.W.nsIn K mainGlobals "list" = some none)
    (b_tuple : PySem.W.nsIn K mainGlobals "tuple" = some none)
    (b_len : PySem.W.nsIn K mainGlobals "len" = some none)
    (b_enumerate : PySem.W.nsIn K mainGlobals "enumerate" = some none)
    (b_range : PySem.W.nsIn K mainGlobals "range" = some none)
    (b_divmod : PySem.W.nsIn K mainGlobals "divmod" = some none)
    (b_min : PySem.W.nsIn K mainGlobals "min" = some none)
    (b_max : PySem.W.nsIn K mainGlobals "max" = some none)
    (b_sum : PySem.W.nsIn K mainGlobals "sum" = some none)
    (b_all : PySem.W.nsIn K mainGlobals "all" = some none)
    (b_abs : PySem.W.nsIn K mainGlobals "abs" = some none)
    (b_repr : PySem.W.nsIn K mainGlobals "repr" = some none)
    (b_gcd : PySem.W.nsIn K mainGlobals "gcd" = some (some (.builtin "math.gcd")))
    : ∃ fd : FuncData, (∀ (s : Shared) (u : Value), BindsTo s fd ⟨[u], []⟩ [("_law_script", u)]) ∧ ∀ base : Heap, K.In base → base.Ns mainGlobals mg → FnG P w K mg base CX0 8 fa fd ["_law_script"] (sp_law K) := by
  obtain rfl : f_law = fa := by
    have z := PySem.W.mg_of X G a_law
    rw [hmg] at z
    cases z
    rfl
  have T : Txt K mg C := { cl := ⟨pg, hd, po, sa⟩, nD := n_days, kc := kc, mki := mk, mg_Table := PySem.W.mg_of X G aC, cA := ⟨_, vMOST_ANSWERS, ⟨_, rfl⟩, wMOST_ANSWERS, rfl⟩, cL := ⟨_, vMOST_LENGTH, ⟨_, rfl⟩, wMOST_LENGTH, rfl⟩, cM := ⟨_, _, ⟨rd, ga⟩, ⟨xMOST_LENGTH, ⟨_, rfl⟩⟩⟩, b_isinstance := PySem.W.mg_none_of X G b_isinstance, b_int := PySem.W.mg_none_of X G b_int, b_bool := PySem.W.mg_none_of X G b_bool, b_list := PySem.W.mg_none_of X G b_list, b_tuple := PySem.W.mg_none_of X G b_tuple, b_len := PySem.W.mg_none_of X G b_len, b_enumerate := PySem.W.mg_none_of X G b_enumerate, b_range := PySem.W.mg_none_of X G b_range, b_divmod := PySem.W.mg_none_of X G b_divmod, b_min := PySem.W.mg_none_of X G b_min, b_max := PySem.W.mg_none_of X G b_max, b_sum := PySem.W.mg_none_of X G b_sum, b_all := PySem.W.mg_none_of X G b_all, b_abs := PySem.W.mg_none_of X G b_abs, b_repr := PySem.W.mg_none_of X G b_repr, b_gcd := PySem.W.mg_of X G b_gcd }
  have F_is_day := fun_mk (K := K) (st := s_is_day) l_is_day c_is_day k_is_day
  have bd_is_day : Binds K _ ["value"] [] := F_is_day.binds (fun _ _ _ _ _ _ us hl => match us, hl with | [_], _ => rfl)
  have F_is_count := fun_mk (K := K) (st := s_is_count) l_is_count c_is_count k_is_count
  have bd_is_count : Binds K _ ["value"] [] := F_is_count.binds (fun _ _ _ _ _ _ us hl => match us, hl with | [_], _ => rfl)
  have F_need_day := fun_mk (K := K) (st := s_need_day) l_need_day c_need_day k_need_day
  have bd_need_day : Binds K _ ["value"] [] := F_need_day.binds (fun _ _ _ _ _ _ us hl => match us, hl with | [_], _ => rfl)
  have F_need_count := fun_mk (K := K) (st := s_need_count) l_need_count c_need_count k_need_count
  have bd_need_count : Binds K _ ["value"] [] := F_need_count.binds (fun _ _ _ _ _ _ us hl => match us, hl with | [_], _ => rfl)
  have F_is_list := fun_mk (K := K) (st := s_is_list) l_is_list c_is_list k_is_list
  have bd_is_list : Binds K _ ["value"] [] := F_is_list.binds (fun _ _ _ _ _ _ us hl => match us, hl with | [_], _ => rfl)
  have F_Table___init__ := fun_mk (K := K) (st := s_Table___init__) l_Table___init__ c_Table___init__ k_Table___init__
  have bd_Table___init__ : Binds K _ ["self", "days"] [] := F_Table___init__.binds (fun _ _ _ _ _ _ us hl => match us, hl with | [_, _], _ => rfl)
  have F_Table_length := fun_mk (K := K) (st := s_Table_length) l_Table_length c_Table_length k_Table_length
  have bd_Table_length : Binds K _ ["self"] [] := F_Table_length.binds (fun _ _ _ _ _ _ us hl => match us, hl with | [_], _ => rfl)
  have F_Table_days := fun_mk (K := K) (st := s_Table_days) l_Table_days c_Table_days k_Table_days
  have bd_Table_days : Binds K _ ["self"] [] := F_Table_days.binds (fun _ _ _ _ _ _ us hl => match us, hl with | [_], _ => rfl)
  have F_Table_asked_rows := fun_mk (K := K) (st := s_Table_asked_rows) l_Table_asked_rows c_Table_asked_rows k_Table_asked_rows
  have bd_Table_asked_rows : Binds K _ ["self"] [] := F_Table_asked_rows.binds (fun _ _ _ _ _ _ us hl => match us, hl with | [_], _ => rfl)
  have F_Table_on := fun_mk (K := K) (st := s_Table_on) l_Table_on c_Table_on k_Table_on
  have bd_Table_on : Binds K _ ["self", "day"] [] := F_Table_on.binds (fun _ _ _ _ _ _ us hl => match us, hl with | [_, _], _ => rfl)
  have F_Table___call__ := fun_mk (K := K) (st := s_Table___call__) l_Table___call__ c_Table___call__ k_Table___call__
  have bd_Table___call__ : Binds K _ ["self", "day"] [] := F_Table___call__.binds (fun _ _ _ _ _ _ us hl => match us, hl with | [_, _], _ => rfl)
  have F_Table_by := fun_mk (K := K) (st := s_Table_by) l_Table_by c_Table_by k_Table_by
  have bd_Table_by : Binds K _ ["self", "day"] [] := F_Table_by.binds (fun _ _ _ _ _ _ us hl => match us, hl with | [_, _], _ => rfl)
  have F_Table_til := fun_mk (K := K) (st := s_Table_til) l_Table_til c_Table_til k_Table_til
  have bd_Table_til : Binds K _ ["self", "day"] [] := F_Table_til.binds (fun _ _ _ _ _ _ us hl => match us, hl with | [_, _], _ => rfl)
  have F_Table_answers := fun_mk (K := K) (st := s_Table_answers) l_Table_answers c_Table_answers k_Table_answers
  have bd_Table_answers : Binds K _ ["self", "day", "count"] [] := F_Table_answers.binds (fun _ _ _ _ _ _ us hl => match us, hl with | [_, _, _], _ => rfl)
  have F_Table_is_served := fun_mk (K := K) (st := s_Table_is_served) l_Table_is_served c_Table_is_served k_Table_is_served
  have bd_Table_is_served : Binds K _ ["self", "day"] [] := F_Table_is_served.binds (fun _ _ _ _ _ _ us hl => match us, hl with | [_, _], _ => rfl)
  have F_Table_leads := fun_mk (K := K) (st := s_Table_leads) l_Table_leads c_Table_leads k_Table_leads
  have bd_Table_leads : Binds K _ ["self"] [] := F_Table_leads.binds (fun _ _ _ _ _ _ us hl => match us, hl with | [_], _ => rfl)
  have F_Table_mean_lead := fun_mk (K := K) (st := s_Table_mean_lead) l_Table_mean_lead c_Table_mean_lead k_Table_mean_lead
  have bd_Table_mean_lead : Binds K _ ["self"] [] := F_Table_mean_lead.binds (fun _ _ _ _ _ _ us hl => match us, hl with | [_], _ => rfl)
  have F_Table_fixed_days := fun_mk (K := K) (st := s_Table_fixed_days) l_Table_fixed_days c_Table_fixed_days k_Table_fixed_days
  have bd_Table_fixed_days : Binds K _ ["self"] [] := F_Table_fixed_days.binds (fun _ _ _ _ _ _ us hl => match us, hl with | [_], _ => rfl)
  have F_Table___repr__ := fun_mk (K := K) (st := s_Table___repr__) l_Table___repr__ c_Table___repr__ k_Table___repr__
  have bd_Table___repr__ : Binds K _ ["self"] [] := F_Table___repr__.binds (fun _ _ _ _ _ _ us hl => match us, hl with | [_], _ => rfl)
  have F_is_table := fun_mk (K := K) (st := s_is_table) l_is_table c_is_table k_is_table
  have bd_is_table : Binds K _ ["value"] [] := F_is_table.binds (fun _ _ _ _ _ _ us hl => match us, hl with | [_], _ => rfl)
  have F__many_ahead := fun_mk (K := K) (st := s__many_ahead) l__many_ahead c__many_ahead k__many_ahead
  have bd__many_ahead : Binds K _ ["days", "day"] [] := F__many_ahead.binds (fun _ _ _ _ _ _ us hl => match us, hl with | [_, _], _ => rfl)
  have F__law_pot := fun_mk (K := K) (st := s__law_pot) l__law_pot c__law_pot k__law_pot
  have bd__law_pot : Binds K _ ["_law_script", "_law_k"] [] := F__law_pot.binds (fun _ _ _ _ _ _ us hl => match us, hl with | [_, _], _ => rfl)
  have F__law_draw := fun_mk (K := K) (st := s__law_draw) l__law_draw c__law_draw k__law_draw
  have bd__law_draw : Binds K _ ["_law_pot_here", "_law_size"] [] := F__law_draw.binds (fun _ _ _ _ _ _ us hl => match us, hl with | [_, _], _ => rfl)
  have F__law_pick := fun_mk (K := K) (st := s__law_pick) l__law_pick c__law_pick k__law_pick
  have bd__law_pick : Binds K _ ["_law_pot_here", "_law_some"] [] := F__law_pick.binds (fun _ _ _ _ _ _ us hl => match us, hl with | [_, _], _ => rfl)
  have F__law_days := fun_mk (K := K) (st := s__law_days) l__law_days c__law_days k__law_days
  have bd__law_days : Binds K _ ["_law_pot_here", "_law_length", "_law_first"] [] := F__law_days.binds (fun _ _ _ _ _ _ us hl => match us, hl with | [_, _, _], _ => rfl)
  have F__law_on := fun_mk (K := K) (st := s__law_on) l__law_on c__law_on k__law_on
  have bd__law_on : Binds K _ ["_law_days_here", "_law_day"] [] := F__law_on.binds (fun _ _ _ _ _ _ us hl => match us, hl with | [_, _], _ => rfl)
  have F__law_by := fun_mk (K := K) (st := s__law_by) l__law_by c__law_by k__law_by
  have bd__law_by : Binds K _ ["_law_days_here", "_law_day"] [] := F__law_by.binds (fun _ _ _ _ _ _ us hl => match us, hl with | [_, _], _ => rfl)
  have F__law_til := fun_mk (K := K) (st := s__law_til) l__law_til c__law_til k__law_til
  have bd__law_til : Binds K _ ["_law_days_here", "_law_day"] [] := F__law_til.binds (fun _ _ _ _ _ _ us hl => match us, hl with | [_, _], _ => rfl)
  have F__law_low := fun_mk (K := K) (st := s__law_low) l__law_low c__law_low k__law_low
  have bd__law_low : Binds K _ ["_law_above", "_law_below"] [] := F__law_low.binds (fun _ _ _ _ _ _ us hl => match us, hl with | [_, _], _ => rfl)
  have F__law_whole_right := fun_mk (K := K) (st := s__law_whole_right) l__law_whole_right c__law_whole_right k__law_whole_right
  have bd__law_whole_right : Binds K _ ["_law_table", "_law_days_here"] [] := F__law_whole_right.binds (fun _ _ _ _ _ _ us hl => match us, hl with | [_, _], _ => rfl)
  have F__law_day_right := fun_mk (K := K) (st := s__law_day_right) l__law_day_right c__law_day_right k__law_day_right
  have bd__law_day_right : Binds K _ ["_law_table", "_law_days_here", "_law_day"] [] := F__law_day_right.binds (fun _ _ _ _ _ _ us hl => match us, hl with | [_, _, _], _ => rfl)
  have F__law_answers_right := fun_mk (K := K) (st := s__law_answers_right) l__law_answers_right c__law_answers_right k__law_answers_right
  have bd__law_answers_right : Binds K _ ["_law_pot_here", "_law_table", "_law_days_here", "_law_day"] [] := F__law_answers_right.binds (fun _ _ _ _ _ _ us hl => match us, hl with | [_, _, _, _], _ => rfl)
  have F__law_long_right := fun_mk (K := K) (st := s__law_long_right) l__law_long_right c__law_long_right k__law_long_right
  have bd__law_long_right : Binds K _ ["_law_pot_here"] [] := F__law_long_right.binds (fun _ _ _ _ _ _ us hl => match us, hl with | [_], _ => rfl)
  have F__law_right := fun_mk (K := K) (st := s__law_right) l__law_right c__law_right k__law_right
  have bd__law_right : Binds K _ ["_law_pot_here"] [] := F__law_right.binds (fun _ _ _ _ _ _ us hl => match us, hl with | [_], _ => rfl)
  have F_law := fun_mk (K := K) (st := s_law) l_law c_law k_law
  have bd_law : Binds K _ ["_law_script"] [] := F_law.binds (fun _ _ _ _ _ _ us hl => match us, hl with | [_], _ => rfl)
  have kb_on_day := kb_of (ps := ["self", "day"]) (ks := ["day"]) (n := 1) (g := fun us ws => us ++ ws) (gV := fun vs zs => vs ++ zs) F_Table_on (fun _ _ _ _ _ _ us ws h1 h2 => match us, ws, h1, h2 with | [_], [_], _, _ => rfl) (fun a b => a.append b)
  have kb_by_day := kb_of (ps := ["self", "day"]) (ks := ["day"]) (n := 1) (g := fun us ws => us ++ ws) (gV := fun vs zs => vs ++ zs) F_Table_by (fun _ _ _ _ _ _ us ws h1 h2 => match us, ws, h1, h2 with | [_], [_], _, _ => rfl) (fun a b => a.append b)
  have kb_til_day := kb_of (ps := ["self", "day"]) (ks := ["day"]) (n := 1) (g := fun us ws => us ++ ws) (gV := fun vs zs => vs ++ zs) F_Table_til (fun _ _ _ _ _ _ us ws h1 h2 => match us, ws, h1, h2 with | [_], [_], _, _ => rfl) (fun a b => a.append b)
  have kb_is_served_day := kb_of (ps := ["self", "day"]) (ks := ["day"]) (n := 1) (g := fun us ws => us ++ ws) (gV := fun vs zs => vs ++ zs) F_Table_is_served (fun _ _ _ _ _ _ us ws h1 h2 => match us, ws, h1, h2 with | [_], [_], _, _ => rfl) (fun a b => a.append b)
  have kb_answers_count_day := kb_of (ps := ["self", "day", "count"]) (ks := ["count", "day"]) (n := 1) (g := fun us ws => us ++ ws.reverse) (gV := fun vs zs => vs ++ zs.reverse) F_Table_answers (fun _ _ _ _ _ _ us ws h1 h2 => match us, ws, h1, h2 with | [_], [_, _], _, _ => rfl) (fun a b => a.append (vals_rev b))
  have kb_init_days := kb_of (ps := ["self", "days"]) (ks := ["days"]) (n := 1) (g := fun us ws => us ++ ws) (gV := fun vs zs => vs ++ zs) F_Table___init__ (fun _ _ _ _ _ _ us ws h1 h2 => match us, ws, h1, h2 with | [_], [_], _, _ => rfl) (fun a b => a.append b)
  refine ⟨PySem.W.fnOf "law" "law" (defArgs s_law) (defBody s_law) (defScope s_law) .none kV_law dc_law pm_law an_law cd_law ct_law, ?bb, fun base kb nb => ?_⟩
  rotate_left
  have mkI : Mk K C f_Table___init__ := ⟨mk, a_Table___init__, i_Table___init__, kc⟩
  have c_is_day : Cal P w K mg base "is_day" f_is_day _ _ _ _ := ⟨ok_is_day (P := P) (w := w) (base := base) F_is_day T, PySem.W.mg_of X G a_is_day, k_is_day, bd_is_day⟩
  have c_is_count : Cal P w K mg base "is_count" f_is_count _ _ _ _ := ⟨ok_is_count (P := P) (w := w) (base := base) F_is_count T c_is_day, PySem.W.mg_of X G a_is_count, k_is_count, bd_is_count⟩
  have c_need_day : Cal P w K mg base "need_day" f_need_day _ _ _ _ := ⟨ok_need_day (P := P) (w := w) (base := base) F_need_day T c_is_day, PySem.W.mg_of X G a_need_day, k_need_day, bd_need_day⟩
  have c_need_count : Cal P w K mg base "need_count" f_need_count _ _ _ _ := ⟨ok_need_count (P := P) (w := w) (base := base) F_need_count T c_is_count, PySem.W.mg_of X G a_need_count, k_need_count, bd_need_count⟩
  have c_is_list : Cal P w K mg base "is_list" f_is_list _ _ _ _ := ⟨ok_is_list (P := P) (w := w) (base := base) F_is_list T, PySem.W.mg_of X G a_is_list, k_is_list, bd_is_list⟩
  have c__many_ahead : Cal P w K mg base "_many_ahead" f__many_ahead _ _ _ _ := ⟨ok_many (P := P) (w := w) (base := base) F__many_ahead T, PySem.W.mg_of X G a__many_ahead, k__many_ahead, bd__many_ahead⟩
  have c_is_table : Cal P w K mg base "is_table" f_is_table _ _ _ _ := ⟨ok_is_table (P := P) (w := w) (base := base) F_is_table T c_is_list c_is_day, PySem.W.mg_of X G a_is_table, k_is_table, bd_is_table⟩
  have m_init : Ini P w K mg base C f_Table___init__ _ := ⟨ok_init (P := P) (w := w) (base := base) F_Table___init__ T c_is_table, bd_Table___init__⟩
  have m_length : Prp P w K mg base C "length" p_Table_length f_Table_length _ _ _ _ := ⟨ok_length (P := P) (w := w) (base := base) F_Table_length T, ⟨a_Table_length, g_Table_length, t_Table_length, ⟨_, r_Table_length⟩⟩, bd_Table_length⟩
  have m_days : Met P w K mg base C "days" f_Table_days _ _ _ _ := ⟨ok_days (P := P) (w := w) (base := base) F_Table_days T, ⟨a_Table_days, i_Table_days, k_Table_days⟩, bd_Table_days⟩
  have m_asked_rows : Met P w K mg base C "asked_rows" f_Table_asked_rows _ _ _ _ := ⟨ok_rows (P := P) (w := w) (base := base) F_Table_asked_rows T, ⟨a_Table_asked_rows, i_Table_asked_rows, k_Table_asked_rows⟩, bd_Table_asked_rows⟩
  have m_on : Met P w K mg base C "on" f_Table_on _ _ _ _ := ⟨ok_on (P := P) (w := w) (base := base) F_Table_on T c_need_day m_length, ⟨a_Table_on, i_Table_on, k_Table_on⟩, bd_Table_on⟩
  have m_call : Met P w K mg base C "__call__" f_Table___call__ _ _ _ _ := ⟨ok_call (P := P) (w := w) (base := base) F_Table___call__ T m_on, ⟨a_Table___call__, i_Table___call__, k_Table___call__⟩, bd_Table___call__⟩
  have co : StX.CallO K C f_Table___call__ := ⟨a_Table___call__, i_Table___call__, n_Table___call__⟩
  have m_by : Met P w K mg base C "by" f_Table_by _ _ _ _ := ⟨ok_by (P := P) (w := w) (base := base) F_Table_by T c_need_day m_length c__many_ahead, ⟨a_Table_by, i_Table_by, k_Table_by⟩, bd_Table_by⟩
  have m_til : Met P w K mg base C "til" f_Table_til _ _ _ _ := ⟨ok_til (P := P) (w := w) (base := base) F_Table_til T c_need_day m_by, ⟨a_Table_til, i_Table_til, k_Table_til⟩, bd_Table_til⟩
  have m_is_served : Met P w K mg base C "is_served" f_Table_is_served _ _ _ _ := ⟨ok_served (P := P) (w := w) (base := base) F_Table_is_served T c_need_day m_by m_on, ⟨a_Table_is_served, i_Table_is_served, k_Table_is_served⟩, bd_Table_is_served⟩
  have m_answers : Met P w K mg base C "answers" f_Table_answers _ _ _ _ := ⟨ok_answers (P := P) (w := w) (base := base) F_Table_answers T c_need_day c_need_count m_on, ⟨a_Table_answers, i_Table_answers, k_Table_answers⟩, bd_Table_answers⟩
  have m_leads : Met P w K mg base C "leads" f_Table_leads _ _ _ _ := ⟨ok_leads (P := P) (w := w) (base := base) F_Table_leads T m_asked_rows, ⟨a_Table_leads, i_Table_leads, k_Table_leads⟩, bd_Table_leads⟩
  have m_mean_lead : Met P w K mg base C "mean_lead" f_Table_mean_lead _ _ _ _ := ⟨ok_mean (P := P) (w := w) (base := base) F_Table_mean_lead T m_asked_rows m_length, ⟨a_Table_mean_lead, i_Table_mean_lead, k_Table_mean_lead⟩, bd_Table_mean_lead⟩
  have m_fixed_days : Met P w K mg base C "fixed_days" f_Table_fixed_days _ _ _ _ := ⟨ok_fixed (P := P) (w := w) (base := base) F_Table_fixed_days T m_asked_rows, ⟨a_Table_fixed_days, i_Table_fixed_days, k_Table_fixed_days⟩, bd_Table_fixed_days⟩
  have c__law_pot : Cal P w K mg base "_law_pot" f__law_pot _ _ _ _ := ⟨ok_pot (P := P) (w := w) (base := base) F__law_pot T, PySem.W.mg_of X G a__law_pot, k__law_pot, bd__law_pot⟩
  have c__law_draw : Cal P w K mg base "_law_draw" f__law_draw _ _ _ _ := ⟨ok_draw (P := P) (w := w) (base := base) F__law_draw T, PySem.W.mg_of X G a__law_draw, k__law_draw, bd__law_draw⟩
  have c__law_pick : Cal P w K mg base "_law_pick" f__law_pick _ _ _ _ := ⟨ok_pick (P := P) (w := w) (base := base) F__law_pick T c__law_draw, PySem.W.mg_of X G a__law_pick, k__law_pick, bd__law_pick⟩
  have c__law_days : Cal P w K mg base "_law_days" f__law_days _ _ _ _ := ⟨ok_ldays (P := P) (w := w) (base := base) F__law_days T c__law_pick, PySem.W.mg_of X G a__law_days, k__law_days, bd__law_days⟩
  have c__law_on : Cal P w K mg base "_law_on" f__law_on _ _ _ _ := ⟨ok_lon (P := P) (w := w) (base := base) F__law_on T, PySem.W.mg_of X G a__law_on, k__law_on, bd__law_on⟩
  have c__law_by : Cal P w K mg base "_law_by" f__law_by _ _ _ _ := ⟨ok_lby (P := P) (w := w) (base := base) F__law_by T c__law_on, PySem.W.mg_of X G a__law_by, k__law_by, bd__law_by⟩
  have c__law_til : Cal P w K mg base "_law_til" f__law_til _ _ _ _ := ⟨ok_ltil (P := P) (w := w) (base := base) F__law_til T c__law_by, PySem.W.mg_of X G a__law_til, k__law_til, bd__law_til⟩
  have c__law_low : Cal P w K mg base "_law_low" f__law_low _ _ _ _ := ⟨ok_low (P := P) (w := w) (base := base) F__law_low T, PySem.W.mg_of X G a__law_low, k__law_low, bd__law_low⟩
  have m_repr : MetG P w K mg base C "__repr__" f_Table___repr__ _ _ _ _ := ⟨ok_repr (P := P) (w := w) (base := base) F_Table___repr__ T, a_Table___repr__, i_Table___repr__, bd_Table___repr__⟩
  have c__law_whole_right : CalG P w K mg base "_law_whole_right" f__law_whole_right _ _ _ _ := ⟨ok_whole (P := P) (w := w) (base := base) F__law_whole_right T c__law_low m_length m_days m_leads m_mean_lead m_fixed_days m_asked_rows m_repr, PySem.W.mg_of X G a__law_whole_right, k__law_whole_right, bd__law_whole_right⟩
  have c__law_day_right : CalG P w K mg base "_law_day_right" f__law_day_right _ _ _ _ := ⟨ok_day (P := P) (w := w) (base := base) F__law_day_right T c__law_on c__law_by c__law_til m_on m_by m_til m_is_served m_call co kb_on_day kb_by_day kb_til_day kb_is_served_day, PySem.W.mg_of X G a__law_day_right, k__law_day_right, bd__law_day_right⟩
  have c__law_answers_right : CalG P w K mg base "_law_answers_right" f__law_answers_right _ _ _ _ := ⟨ok_ansR (P := P) (w := w) (base := base) F__law_answers_right T c__law_on c__law_pick m_answers kb_answers_count_day, PySem.W.mg_of X G a__law_answers_right, k__law_answers_right, bd__law_answers_right⟩
  have c__law_long_right : CalG P w K mg base "_law_long_right" f__law_long_right _ _ _ _ := ⟨ok_longR (P := P) (w := w) (base := base) F__law_long_right T mkI c__law_days c__law_draw c__law_day_right m_length m_leads m_init, PySem.W.mg_of X G a__law_long_right, k__law_long_right, bd__law_long_right⟩
  have c__law_right : CalG P w K mg base "_law_right" f__law_right _ _ _ _ := ⟨ok_right (P := P) (w := w) (base := base) F__law_right T mkI c__law_pick c__law_days c__law_draw c__law_whole_right c__law_day_right m_init m_days m_asked_rows m_fixed_days c__law_answers_right c__law_long_right kb_init_days, PySem.W.mg_of X G a__law_right, k__law_right, bd__law_right⟩
  exact ok_law (P := P) (w := w) (base := base) F_law T c__law_pot c__law_right
  exact fun s u => BindsTo.of_looks fun M => PySem.W.Looks.of_pure rfl
end
end K11
end
section
open PySem PySem.W PyProof.Rows L2
set_option maxHeartbeats 0 in
theorem PySem.Challenge.cw_leadrules_k11_whole_tables_asked_holds : PySem.Challenge.rw_leadrules_k11_whole_tables_asked.Holds := by
  w_on; o_law; k_head; (case hw => w_witness2)
  k_fill
  refine G.walkG (l := PySem.Challenge.rw_leadrules_k11_whole_tables_asked) (n := 63) (k := 8) (x := "_law_script") (CX := CX0) (sp := K11.sp_law) rfl (by decide) rfl ⟨rfl, by decide, by decide⟩ (fun w h Y => PySem.W.kIn_of Y) ?Fq ?Sq ?Nq
  case Sq => exact fun K H a ns hl hO hS => ⟨a, ns, rfl, hS, hl, fun H2 e => rfl⟩
  case Nq => exact fun H s e s' h => h
  case Fq =>
    intro w mg fa h KX G0 hmg
    refine' K11.all_mk KX G0 hmg ?aC ?pg ?hd ?po ?sa ?mk ?kc ?n_days ?vMOST_ANSWERS ?wMOST_ANSWERS ?vMOST_LENGTH ?wMOST_LENGTH ?rd ?ga ?xMOST_LENGTH ?a_is_day ?l_is_day ?c_is_day ?k_is_day ?a_is_count ?l_is_count ?c_is_count ?k_is_count ?a_need_day ?l_need_day ?c_need_day ?k_need_day ?a_need_count ?l_need_count ?c_need_count ?k_need_count ?a_is_list ?l_is_list ?c_is_list ?k_is_list ?a_Table___init__ ?i_Table___init__ ?l_Table___init__ ?c_Table___init__ ?k_Table___init__ ?a_Table_length ?g_Table_length ?t_Table_length ?r_Table_length ?l_Table_length ?c_Table_length ?k_Table_length ?a_Table_days ?i_Table_days ?l_Table_days ?c_Table_days ?k_Table_days ?a_Table_asked_rows ?i_Table_asked_rows ?l_Table_asked_rows ?c_Table_asked_rows ?k_Table_asked_rows ?a_Table_on ?i_Table_on ?l_Table_on ?c_Table_on ?k_Table_on ?a_Table___call__ ?i_Table___call__ ?n_Table___call__ ?l_Table___call__ ?c_Table___call__ ?k_Table___call__ ?a_Table_by ?i_Table_by ?l_Table_by ?c_Table_by ?k_Table_by ?a_Table_til ?i_Table_til ?l_Table_til ?c_Table_til ?k_Table_til ?a_Table_answers ?i_Table_answers ?l_Table_answers ?c_Table_answers ?k_Table_answers ?a_Table_is_served ?i_Table_is_served ?l_Table_is_served ?c_Table_is_served ?k_Table_is_served ?a_Table_leads ?i_Table_leads ?l_Table_leads ?c_Table_leads ?k_Table_leads ?a_Table_mean_lead ?i_Table_mean_lead ?l_Table_mean_lead ?c_Table_mean_lead ?k_Table_mean_lead ?a_Table_fixed_days ?i_Table_fixed_days ?l_Table_fixed_days ?c_Table_fixed_days ?k_Table_fixed_days ?a_Table___repr__ ?i_Table___repr__ ?l_Table___repr__ ?c_Table___repr__ ?k_Table___repr__ ?a_is_table ?l_is_table ?c_is_table ?k_is_table ?a__many_ahead ?l__many_ahead ?c__many_ahead ?k__many_ahead ?a__law_pot ?l__law_pot ?c__law_pot ?k__law_pot ?a__law_draw ?l__law_draw ?c__law_draw ?k__law_draw ?a__law_pick ?l__law_pick ?c__law_pick ?k__law_pick ?a__law_days ?l__law_days ?c__law_days ?k__law_days ?a__law_on ?l__law_on ?c__law_on ?k__law_on ?a__law_by ?l__law_by ?c__law_by ?k__law_by ?a__law_til ?l__law_til ?c__law_til ?k__law_til ?a__law_low ?l__law_low ?c__law_low ?k__law_low ?a__law_whole_right ?l__law_whole_right ?c__law_whole_right ?k__law_whole_right ?a__law_day_right ?l__law_day_right ?c__law_day_right ?k__law_day_right ?a__law_answers_right ?l__law_answers_right ?c__law_answers_right ?k__law_answers_right ?a__law_long_right ?l__law_long_right ?c__law_long_right ?k__law_long_right ?a__law_right ?l__law_right ?c__law_right ?k__law_right ?a_law ?l_law ?c_law ?k_law ?b_isinstance ?b_int ?b_bool ?b_list ?b_tuple ?b_len ?b_enumerate ?b_range ?b_divmod ?b_min ?b_max ?b_sum ?b_all ?b_abs ?b_repr ?b_gcd
    (case aC => k_is)
    (case pg => k_is)
    (case hd => k_is)
    (case po => k_is)
    (case sa => k_is)
    (case mk => k_is)
    (case kc => k_is)
    (case n_days => k_is)
    (case vMOST_ANSWERS => k_is)
    (case wMOST_ANSWERS => k_is)
    (case vMOST_LENGTH => k_is)
    (case wMOST_LENGTH => k_is)
    (case rd => k_is)
    (case ga => k_is)
    (case xMOST_LENGTH => k_is)
    (case a_is_day => k_is)
    (case l_is_day => k_is)
    (case c_is_day => k_is)
    (case k_is_day => k_is)
    (case a_is_count => k_is)
    (case l_is_count => k_is)
    (case c_is_count => k_is)
    (case k_is_count => k_is)
    (case a_need_day => k_is)
    (case l_need_day => k_is)
    (case c_need_day => k_is)
    (case k_need_day => k_is)
    (case a_need_count => k_is)
    (case l_need_count => k_is)
    (case c_need_count => k_is)
    (case k_need_count => k_is)
    (case a_is_list => k_is)
    (case l_is_list => k_is)
    (case c_is_list => k_is)
    (case k_is_list => k_is)
    (case a_Table___init__ => k_is)
    (case i_Table___init__ => k_is)
    (case l_Table___init__ => k_is)
    (case c_Table___init__ => k_is)
    (case k_Table___init__ => k_is)
    (case a_Table_length => k_is)
    (case g_Table_length => k_is)
    (case t_Table_length => k_is)
    (case r_Table_length => k_is)
    (case l_Table_length => k_is)
    (case c_Table_length => k_is)
    (case k_Table_length => k_is)
    (case a_Table_days => k_is)
    (case i_Table_days => k_is)
    (case l_Table_days => k_is)
    (case c_Table_days => k_is)
    (case k_Table_days => k_is)
    (case a_Table_asked_rows => k_is)
    (case i_Table_asked_rows => k_is)
    (case l_Table_asked_rows => k_is)
    (case c_Table_asked_rows => k_is)
    (case k_Table_asked_rows => k_is)
    (case a_Table_on => k_is)
    (case i_Table_on => k_is)
    (case l_Table_on => k_is)
    (case c_Table_on => k_is)
    (case k_Table_on => k_is)
    (case a_Table___call__ => k_is)
    (case i_Table___call__ => k_is)
    (case n_Table___call__ => k_is)
    (case l_Table___call__ => k_is)
    (case c_Table___call__ => k_is)
    (case k_Table___call__ => k_is)
    (case a_Table_by => k_is)
    (case i_Table_by => k_is)
    (case l_Table_by => k_is)
    (case c_Table_by => k_is)
    (case k_Table_by => k_is)
    (case a_Table_til => k_is)
    (case i_Table_til => k_is)
    (case l_Table_til => k_is)
    (case c_Table_til => k_is)
    (case k_Table_til => k_is)
    (case a_Table_answers => k_is)
    (case i_Table_answers => k_is)
    (case l_Table_answers => k_is)
    (case c_Table_answers => k_is)
    (case k_Table_answers => k_is)
    (case a_Table_is_served => k_is)
    (case i_Table_is_served => k_is)
    (case l_Table_is_served => k_is)
    (case c_Table_is_served => k_is)
    (case k_Table_is_served => k_is)
    (case a_Table_leads => k_is)
    (case i_Table_leads => k_is)
    (case l_Table_leads => k_is)
    (case c_Table_leads => k_is)
    (case k_Table_leads => k_is)
    (case a_Table_mean_lead => k_is)
    (case i_Table_mean_lead => k_is)
    (case l_Table_mean_lead => k_is)
    (case c_Table_mean_lead => k_is)
    (case k_Table_mean_lead => k_is)
    (case a_Table_fixed_days => k_is)
    (case i_Table_fixed_days => k_is)
    (case l_Table_fixed_days => k_is)
    (case c_Table_fixed_days => k_is)
    (case k_Table_fixed_days => k_is)
    (case a_Table___repr__ => k_is)
    (case i_Table___repr__ => k_is)
    (case l_Table___repr__ => k_is)
    (case c_Table___repr__ => k_is)
    (case k_Table___repr__ => k_is)
    (case a_is_table => k_is)
    (case l_is_table => k_is)
    (case c_is_table => k_is)
    (case k_is_table => k_is)
    (case a__many_ahead => k_is)
    (case l__many_ahead => k_is)
    (case c__many_ahead => k_is)
    (case k__many_ahead => k_is)
    (case a__law_pot => k_is)
    (case l__law_pot => k_is)
    (case c__law_pot => k_is)
    (case k__law_pot => k_is)
    (case a__law_draw => k_is)
    (case l__law_draw => k_is)
    (case c__law_draw => k_is)
    (case k__law_draw => k_is)
    (case a__law_pick => k_is)
    (case l__law_pick => k_is)
    (case c__law_pick => k_is)
    (case k__law_pick => k_is)
    (case a__law_days => k_is)
    (case l__law_days => k_is)
    (case c__law_days => k_is)
    (case k__law_days => k_is)
    (case a__law_on => k_is)
    (case l__law_on => k_is)
    (case c__law_on => k_is)
    (case k__law_on => k_is)
    (case a__law_by => k_is)
    (case l__law_by => k_is)
    (case c__law_by => k_is)
    (case k__law_by => k_is)
    (case a__law_til => k_is)
    (case l__law_til => k_is)
    (case c__law_til => k_is)
    (case k__law_til => k_is)
    (case a__law_low => k_is)
    (case l__law_low => k_is)
    (case c__law_low => k_is)
    (case k__law_low => k_is)
    (case a__law_whole_right => k_is)
    (case l__law_whole_right => k_is)
    (case c__law_whole_right => k_is)
    (case k__law_whole_right => k_is)
    (case a__law_day_right => k_is)
    (case l__law_day_right => k_is)
    (case c__law_day_right => k_is)
    (case k__law_day_right => k_is)
    (case a__law_answers_right => k_is)
    (case l__law_answers_right => k_is)
    (case c__law_answers_right => k_is)
    (case k__law_answers_right => k_is)
    (case a__law_long_right => k_is)
    (case l__law_long_right => k_is)
    (case c__law_long_right => k_is)
    (case k__law_long_right => k_is)
    (case a__law_right => k_is)
    (case l__law_right => k_is)
    (case c__law_right => k_is)
    (case k__law_right => k_is)
    (case a_law => k_is)
    (case l_law => k_is)
    (case c_law => k_is)
    (case k_law => k_is)
    (case b_isinstance => k_is)
    (case b_int => k_is)
    (case b_bool => k_is)
    (case b_list => k_is)
    (case b_tuple => k_is)
    (case b_len => k_is)
    (case b_enumerate => k_is)
    (case b_range => k_is)
    (case b_divmod => k_is)
    (case b_min => k_is)
    (case b_max => k_is)
    (case b_sum => k_is)
    (case b_all => k_is)
    (case b_abs => k_is)
    (case b_repr => k_is)
    (case b_gcd => k_is)
end
