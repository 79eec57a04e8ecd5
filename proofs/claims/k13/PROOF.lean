import PyProof.Rows.All
import Wide.All
import OpenK.AllK
import Wide.FinOn
import HandS.ForMost
import HandS.Evl
import HandS.Property
import HandS.Star
import HandS.ClsMeth
import HandS.Defaults
import HandS.MakeKwOnly
import HandS.FStr
import HandS.Conv
import HandS.Gcd
import HandS.IsInst
import HandS.Wide
import PyProof.ReprRoads
import PyProof.ListNew
import PyProof.ListRange
import HandS.Style
import HandS.Ends
import HandS.Exc
import HandS.ExcInit
import HandS.ExcField
import HandS.OwnEq
import HandS.More
import KE.KMathGC
import HandS.Sort
import HandS.ExcOwn
import HandS.WordsExc
import PySem.Challenge.RW_leadrules_k13_whole_tables_made_of_two
set_option Elab.async false
set_option linter.all false
set_option maxRecDepth 100000
section
namespace TM
/-! the mathematics of lists of days -/
def onL (ns : List Int) (x : Int) : Int := ns.getD (x % (ns.length : Int)).toNat 0 + x / (ns.length : Int) * (ns.length : Int)
structure Good (ns : List Int) : Prop where
  pos : 1 ≤ ns.length
  most : ns.length ≤ 600
  up : ∀ i j : Nat, i ≤ j → j < ns.length → ns.getD i 0 ≤ ns.getD j 0
  span : ns.getD (ns.length - 1) 0 - ns.getD 0 0 ≤ (ns.length : Int)
section
variable {ns : List Int} (g : Good ns)
include g
theorem Good.posI : (0 : Int) < (ns.length : Int) := by have := g.pos; omega
theorem on_at {i : Nat} (hi : i < ns.length) (t : Int) : onL ns ((i : Int) + t * (ns.length : Int)) = ns.getD i 0 + t * (ns.length : Int) := by
  have hp := g.posI
  unfold onL
  have e1 : ((i : Int) + t * (ns.length : Int)) % (ns.length : Int) = (i : Int) := by
    rw [Int.add_mul_emod_self_right, Int.emod_eq_of_lt (by omega) (by omega)]
  have e2 : ((i : Int) + t * (ns.length : Int)) / (ns.length : Int) = t := by
    rw [Int.add_mul_ediv_right _ _ (by omega), Int.ediv_eq_zero_of_lt (by omega) (by omega), Int.zero_add]
  rw [e1, e2, Int.toNat_natCast]
theorem split_at (x : Int) : ∃ (i : Nat) (t : Int), i < ns.length ∧ x = (i : Int) + t * (ns.length : Int) := by
  have hp := g.posI
  refine ⟨(x % (ns.length : Int)).toNat, x / (ns.length : Int), ?_, ?_⟩
  · have h1 := Int.emod_nonneg x (show (ns.length : Int) ≠ 0 by omega)
    have h2 := Int.emod_lt_of_pos x hp
    omega
  · have h1 := Int.emod_nonneg x (show (ns.length : Int) ≠ 0 by omega)
    rw [Int.toNat_of_nonneg h1]
    have := Int.emod_add_mul_ediv x (ns.length : Int)
    rw [Int.mul_comm] at this
    omega
theorem on_len (x : Int) : onL ns (x + (ns.length : Int)) = onL ns x + (ns.length : Int) := by
  obtain ⟨i, t, hi, rfl⟩ := split_at g x
  have e : (i : Int) + t * (ns.length : Int) + (ns.length : Int) = (i : Int) + (t + 1) * (ns.length : Int) := by rw [Int.add_mul, Int.one_mul]; omega
  rw [e, on_at g hi, on_at g hi, Int.add_mul, Int.one_mul]; omega
theorem on_step (x : Int) : onL ns x ≤ onL ns (x + 1) := by
  obtain ⟨i, t, hi, rfl⟩ := split_at g x
  by_cases hl : i + 1 < ns.length
  · have e : (i : Int) + t * (ns.length : Int) + 1 = ((i + 1 : Nat) : Int) + t * (ns.length : Int) := by omega
    rw [e, on_at g hi, on_at g hl]
    have := g.up i (i + 1) (by omega) hl
    omega
  · have e0 : i + 1 = ns.length := by omega
    have e : (i : Int) + t * (ns.length : Int) + 1 = ((0 : Nat) : Int) + (t + 1) * (ns.length : Int) := by
      rw [Int.add_mul, Int.one_mul]; omega
    have h0 : 0 < ns.length := by omega
    rw [e, on_at g hi, on_at g h0, Int.add_mul, Int.one_mul]
    have := g.span
    have e1 : ns.length - 1 = i := by omega
    rw [e1] at this
    omega
theorem on_mono {x y : Int} (h : x ≤ y) : onL ns x ≤ onL ns y := by
  obtain ⟨k, hk⟩ : ∃ k : Nat, y = x + k := ⟨(y - x).toNat, by omega⟩
  subst hk
  clear h
  induction k with
  | zero => simp
  | succ k ih =>
    refine Int.le_trans ih ?_
    have := on_step g (x + k)
    have e : x + ((k + 1 : Nat) : Int) = x + (k : Int) + 1 := by omega
    rw [e]; exact this
end
/-- m is the first day with which y is served -/
def IsBy (ns : List Int) (y m : Int) : Prop := y ≤ onL ns m ∧ onL ns (m - 1) < y
theorem isBy_uniq {ns : List Int} (g : Good ns) {y m k : Int} (h : IsBy ns y m) (h' : IsBy ns y k) : m = k := by
  have a1 : ¬ m ≤ k - 1 := fun q => by have := on_mono g q; have := h.1; have := h'.2; omega
  have a2 : ¬ k ≤ m - 1 := fun q => by have := on_mono g q; have := h'.1; have := h.2; omega
  omega
/-- so many of ns, from the left, are below d -/
def IsCnt (ns : List Int) (d : Int) (c : Nat) : Prop := c ≤ ns.length ∧ (∀ i, i < c → ns.getD i 0 < d) ∧ ∀ i, c ≤ i → i < ns.length → d ≤ ns.getD i 0
theorem isBy_of_cnt {ns : List Int} (g : Good ns) {y : Int} {c : Nat} (h : IsCnt ns (y - (y - ns.getD 0 0 - 1) / (ns.length : Int) * (ns.length : Int)) c) :
    IsBy ns y ((c : Int) + (y - ns.getD 0 0 - 1) / (ns.length : Int) * (ns.length : Int)) := by
  have hp := g.posI
  have h0 : 0 < ns.length := by have := g.pos; omega
  generalize ht : (y - ns.getD 0 0 - 1) / (ns.length : Int) = t at *
  have hr1 := Int.emod_nonneg (y - ns.getD 0 0 - 1) (show (ns.length : Int) ≠ 0 by omega)
  have hr2 := Int.emod_lt_of_pos (y - ns.getD 0 0 - 1) hp
  have hr := Int.emod_add_mul_ediv (y - ns.getD 0 0 - 1) (ns.length : Int)
  rw [ht, Int.mul_comm] at hr
  obtain ⟨hc, hlo, hhi⟩ := h
  have c1 : 1 ≤ c := by
    refine Classical.byContradiction fun q => ?_
    have := hhi 0 (by omega) h0
    omega
  constructor
  · by_cases hl : c < ns.length
    · rw [on_at g hl]
      have := hhi c (Nat.le_refl _) hl
      omega
    · have e : c = ns.length := by omega
      have e2 : (c : Int) + t * (ns.length : Int) = ((0 : Nat) : Int) + (t + 1) * (ns.length : Int) := by rw [Int.add_mul, Int.one_mul]; omega
      rw [e2, on_at g h0, Int.add_mul, Int.one_mul]
      omega
  · have e : (c : Int) + t * (ns.length : Int) - 1 = ((c - 1 : Nat) : Int) + t * (ns.length : Int) := by omega
    rw [e, on_at g (by omega)]
    have := hlo (c - 1) (by omega)
    omega
theorem cnt_ex {ns : List Int} (g : Good ns) (d : Int) : ∃ c, IsCnt ns d c := by
  have key : ∀ n, n ≤ ns.length → ∃ c, c ≤ n ∧ (∀ i, i < c → ns.getD i 0 < d) ∧ ∀ i, c ≤ i → i < n → d ≤ ns.getD i 0 := by
    intro n
    induction n with
    | zero => exact fun _ => ⟨0, Nat.le_refl _, fun i h => absurd h (Nat.not_lt_zero _), fun i _ h => absurd h (Nat.not_lt_zero _)⟩
    | succ n ih =>
      intro hn
      obtain ⟨c, h1, h2, h3⟩ := ih (by omega)
      by_cases hd : d ≤ ns.getD n 0
      · exact ⟨c, by omega, h2, fun i q1 q2 => by
          by_cases e : i = n
          · subst e; exact hd
          · exact h3 i q1 (by omega)⟩
      · refine ⟨n + 1, Nat.le_refl _, fun i q => ?_, fun i q1 q2 => absurd q2 (by omega)⟩
        have := g.up i n (by omega) (by omega)
        omega
  exact key ns.length (Nat.le_refl _)
theorem cnt_uniq {ns : List Int} {d : Int} {a b : Nat} (h : IsCnt ns d a) (h' : IsCnt ns d b) : a = b := by
  have q1 : ¬ a < b := fun q => by have := h.2.2 a (Nat.le_refl _) (by have := h'.1; omega); have := h'.2.1 a q; omega
  have q2 : ¬ b < a := fun q => by have := h'.2.2 b (Nat.le_refl _) (by have := h.1; omega); have := h.2.1 b q; omega
  omega
theorem by_ex {ns : List Int} (g : Good ns) (y : Int) : ∃ m, IsBy ns y m := by
  obtain ⟨c, hc⟩ := cnt_ex g (y - (y - ns.getD 0 0 - 1) / (ns.length : Int) * (ns.length : Int))
  exact ⟨_, isBy_of_cnt g hc⟩
open Classical in
noncomputable def byL (ns : List Int) (y : Int) : Int := if h : ∃ m, IsBy ns y m then Classical.choose h else 0
theorem byL_is {ns : List Int} (g : Good ns) (y : Int) : IsBy ns y (byL ns y) := by
  unfold byL
  rw [dif_pos (by_ex g y)]
  exact Classical.choose_spec (by_ex g y)
theorem byL_eq {ns : List Int} (g : Good ns) {y m : Int} (h : IsBy ns y m) : byL ns y = m := isBy_uniq g (byL_is g y) h
theorem by_le {ns : List Int} (g : Good ns) {x y : Int} : byL ns y ≤ x ↔ y ≤ onL ns x := by
  have h := byL_is g y
  constructor
  · exact fun q => Int.le_trans h.1 (on_mono g q)
  · intro q
    refine Classical.byContradiction fun n => ?_
    have := on_mono g (show x ≤ byL ns y - 1 by omega)
    have := h.2
    omega
/-- the day of a served one less itself is at most M, at least m -/
theorem on_le {ns : List Int} (g : Good ns) {M : Int} (h : ∀ i, i < ns.length → ns.getD i 0 - (i : Int) ≤ M) (x : Int) : onL ns x ≤ x + M := by
  obtain ⟨i, t, hi, rfl⟩ := split_at g x
  rw [on_at g hi]
  have := h i hi
  omega
theorem start_le {ns : List Int} (g : Good ns) {M y : Int} (h : ∀ i, i < ns.length → ns.getD i 0 - (i : Int) ≤ M) : y - M - 1 ≤ byL ns y := by
  have h1 := (byL_is g y).1
  have h2 := on_le g h (byL ns y)
  omega
end TM
end
section
namespace TM
/-! the mathematics of rules through rows -/
def IsMinL (l : List Int) (m : Int) : Prop := m ∈ l ∧ ∀ y, y ∈ l → m ≤ y
def IsMaxL (l : List Int) (m : Int) : Prop := m ∈ l ∧ ∀ y, y ∈ l → y ≤ m
theorem isMinL_ex : ∀ {l : List Int}, l ≠ [] → ∃ m, IsMinL l m
  | [], h => absurd rfl h
  | [a], _ => ⟨a, by simp, fun y hy => by simp at hy; omega⟩
  | a :: b :: l, _ => by
    obtain ⟨m, h1, h2⟩ := isMinL_ex (l := b :: l) (by simp)
    by_cases q : a ≤ m
    · exact ⟨a, by simp, fun y hy => by
        rcases List.mem_cons.mp hy with e | hy
        · omega
        · have := h2 y hy; omega⟩
    · exact ⟨m, List.mem_cons_of_mem _ h1, fun y hy => by
        rcases List.mem_cons.mp hy with e | hy
        · omega
        · exact h2 y hy⟩
theorem isMaxL_ex : ∀ {l : List Int}, l ≠ [] → ∃ m, IsMaxL l m
  | [], h => absurd rfl h
  | [a], _ => ⟨a, by simp, fun y hy => by simp at hy; omega⟩
  | a :: b :: l, _ => by
    obtain ⟨m, h1, h2⟩ := isMaxL_ex (l := b :: l) (by simp)
    by_cases q : m ≤ a
    · exact ⟨a, by simp, fun y hy => by
        rcases List.mem_cons.mp hy with e | hy
        · omega
        · have := h2 y hy; omega⟩
    · exact ⟨m, List.mem_cons_of_mem _ h1, fun y hy => by
        rcases List.mem_cons.mp hy with e | hy
        · omega
        · exact h2 y hy⟩
open Classical in
noncomputable def mxI (l : List Int) : Int := if h : ∃ m, IsMaxL l m then Classical.choose h else 0
open Classical in
noncomputable def mnI (l : List Int) : Int := if h : ∃ m, IsMinL l m then Classical.choose h else 0
theorem mxI_is {l : List Int} (h : l ≠ []) : IsMaxL l (mxI l) := by
  unfold mxI
  rw [dif_pos (isMaxL_ex h)]
  exact Classical.choose_spec (isMaxL_ex h)
theorem mnI_is {l : List Int} (h : l ≠ []) : IsMinL l (mnI l) := by
  unfold mnI
  rw [dif_pos (isMinL_ex h)]
  exact Classical.choose_spec (isMinL_ex h)
def early (L : Int) (r : Int × Int) (d : Int) : Int := r.2 + (d - r.1) / L * L
def late (L : Int) (r : Int × Int) (d : Int) : Int := r.2 - (r.1 - d) / L * L
section
variable {L : Int} (hL : 0 < L)
include hL
theorem early_near (r : Int × Int) (d : Int) : r.2 + (d - r.1) - L < early L r d ∧ early L r d ≤ r.2 + (d - r.1) := by
  have h1 := Int.emod_nonneg (d - r.1) (show L ≠ 0 by omega)
  have h2 := Int.emod_lt_of_pos (d - r.1) hL
  have h3 := Int.emod_add_mul_ediv (d - r.1) L
  rw [Int.mul_comm] at h3
  unfold early
  omega
theorem late_near (r : Int × Int) (d : Int) : r.2 - (r.1 - d) ≤ late L r d ∧ late L r d < r.2 - (r.1 - d) + L := by
  have h1 := Int.emod_nonneg (r.1 - d) (show L ≠ 0 by omega)
  have h2 := Int.emod_lt_of_pos (r.1 - d) hL
  have h3 := Int.emod_add_mul_ediv (r.1 - d) L
  rw [Int.mul_comm] at h3
  unfold late
  omega
theorem early_per (r : Int × Int) (d : Int) : early L r (d + L) = early L r d + L := by
  unfold early
  have e : d + L - r.1 = d - r.1 + 1 * L := by omega
  rw [e, Int.add_mul_ediv_right _ _ (by omega), Int.add_mul, Int.one_mul]
  omega
theorem late_per (r : Int × Int) (d : Int) : late L r (d + L) = late L r d + L := by
  unfold late
  have e : r.1 - (d + L) = r.1 - d + (-1) * L := by omega
  rw [e, Int.add_mul_ediv_right _ _ (by omega), Int.add_mul]
  omega
theorem early_mono (r : Int × Int) {d e : Int} (h : d ≤ e) : early L r d ≤ early L r e := by
  unfold early
  have := Int.mul_le_mul_of_nonneg_right (Int.ediv_le_ediv hL (show d - r.1 ≤ e - r.1 by omega)) (Int.le_of_lt hL)
  omega
theorem late_mono (r : Int × Int) {d e : Int} (h : d ≤ e) : late L r d ≤ late L r e := by
  unfold late
  have := Int.mul_le_mul_of_nonneg_right (Int.ediv_le_ediv hL (show r.1 - e ≤ r.1 - d by omega)) (Int.le_of_lt hL)
  omega
omit hL in
theorem early_self (r : Int × Int) : early L r r.1 = r.2 := by unfold early; rw [Int.sub_self, Int.zero_ediv, Int.zero_mul]; omega
omit hL in
theorem late_self (r : Int × Int) : late L r r.1 = r.2 := by unfold late; rw [Int.sub_self, Int.zero_ediv, Int.zero_mul]; omega
omit hL in
theorem early_late (r o : Int × Int) : early L r o.1 ≤ o.2 ↔ r.2 ≤ late L o r.1 := by
  unfold early late
  generalize (o.1 - r.1) / L * L = z
  omega
end
noncomputable def earT (L : Int) (rs : List (Int × Int)) (d : Int) : Int := mxI (rs.map fun r => early L r d)
noncomputable def latT (L : Int) (rs : List (Int × Int)) (d : Int) : Int := mnI (rs.map fun r => late L r d)
section
variable {L : Int} {rs ss : List (Int × Int)} (h0 : rs ≠ [])
include h0
theorem ear_is (d : Int) : IsMaxL (rs.map fun r => early L r d) (earT L rs d) := mxI_is (by simpa using h0)
theorem lat_is (d : Int) : IsMinL (rs.map fun r => late L r d) (latT L rs d) := mnI_is (by simpa using h0)
theorem ear_ge {d : Int} {r : Int × Int} (h : r ∈ rs) : early L r d ≤ earT L rs d := (ear_is h0 d).2 _ (List.mem_map_of_mem h)
theorem lat_le {d : Int} {r : Int × Int} (h : r ∈ rs) : latT L rs d ≤ late L r d := (lat_is h0 d).2 _ (List.mem_map_of_mem h)
theorem ear_ex (d : Int) : ∃ r, r ∈ rs ∧ earT L rs d = early L r d := by
  obtain ⟨r, h1, h2⟩ := List.mem_map.mp (ear_is (L := L) h0 d).1
  exact ⟨r, h1, h2.symm⟩
theorem lat_ex (d : Int) : ∃ r, r ∈ rs ∧ latT L rs d = late L r d := by
  obtain ⟨r, h1, h2⟩ := List.mem_map.mp (lat_is (L := L) h0 d).1
  exact ⟨r, h1, h2.symm⟩
theorem ear_mono (hL : 0 < L) {d e : Int} (h : d ≤ e) : earT L rs d ≤ earT L rs e := by
  obtain ⟨r, h1, h2⟩ := ear_ex (L := L) h0 d
  have := ear_ge (L := L) (d := e) h0 h1
  have := early_mono hL r h
  omega
theorem lat_mono (hL : 0 < L) {d e : Int} (h : d ≤ e) : latT L rs d ≤ latT L rs e := by
  obtain ⟨r, h1, h2⟩ := lat_ex (L := L) h0 e
  have := lat_le (L := L) (d := d) h0 h1
  have := late_mono hL r h
  omega
theorem ear_per (hL : 0 < L) (d : Int) : earT L rs (d + L) = earT L rs d + L := by
  obtain ⟨r, h1, h2⟩ := ear_ex (L := L) h0 d
  obtain ⟨s, g1, g2⟩ := ear_ex (L := L) h0 (d + L)
  have a1 := ear_ge (L := L) (d := d + L) h0 h1
  have a2 := ear_ge (L := L) (d := d) h0 g1
  have a3 := early_per hL r d
  have a4 := early_per hL s d
  omega
theorem lat_per (hL : 0 < L) (d : Int) : latT L rs (d + L) = latT L rs d + L := by
  obtain ⟨r, h1, h2⟩ := lat_ex (L := L) h0 d
  obtain ⟨s, g1, g2⟩ := lat_ex (L := L) h0 (d + L)
  have a1 := lat_le (L := L) (d := d + L) h0 h1
  have a2 := lat_le (L := L) (d := d) h0 g1
  have a3 := late_per hL r d
  have a4 := late_per hL s d
  omega
end
def keptB (L : Int) (rs : List (Int × Int)) : Bool := rs.all fun r => rs.all fun o => decide (early L r o.1 ≤ o.2)
theorem kept_iff {L : Int} {rs : List (Int × Int)} : keptB L rs = true ↔ ∀ r, r ∈ rs → ∀ o, o ∈ rs → early L r o.1 ≤ o.2 := by
  unfold keptB
  rw [List.all_eq_true]
  constructor
  · intro h r hr o ho
    have := h r hr
    rw [List.all_eq_true] at this
    exact of_decide_eq_true (this o ho)
  · intro h r hr
    rw [List.all_eq_true]
    exact fun o ho => decide_eq_true (h r hr o ho)
theorem kept_ear {L : Int} {rs : List (Int × Int)} (h0 : rs ≠ []) : (rs.all fun o => decide (earT L rs o.1 = o.2)) = keptB L rs := by
  rw [Bool.eq_iff_iff, kept_iff, List.all_eq_true]
  constructor
  · intro h r hr o ho
    have h1 := of_decide_eq_true (h o ho)
    have h2 := ear_ge (L := L) (d := o.1) h0 hr
    omega
  · intro h o ho
    refine decide_eq_true ?_
    obtain ⟨r, g1, g2⟩ := ear_ex (L := L) h0 o.1
    have h1 := h r g1 o ho
    have h2 := ear_ge (L := L) (d := o.1) h0 ho
    rw [early_self] at h2
    omega
theorem kept_lat {L : Int} {rs : List (Int × Int)} (h0 : rs ≠ []) : (rs.all fun o => decide (latT L rs o.1 = o.2)) = keptB L rs := by
  rw [Bool.eq_iff_iff, kept_iff, List.all_eq_true]
  constructor
  · intro h r hr o ho
    have h1 := of_decide_eq_true (h r hr)
    have h2 := lat_le (L := L) (d := r.1) h0 ho
    exact (early_late r o).mpr (by omega)
  · intro h o ho
    refine decide_eq_true ?_
    obtain ⟨r, g1, g2⟩ := lat_ex (L := L) h0 o.1
    have h1 := (early_late o r).mp (h o ho r g1)
    have h2 := lat_le (L := L) (d := o.1) h0 ho
    rw [late_self] at h2
    omega
/-- the list of a rule's first days -/
def listF (n : Nat) (f : Int → Int) : List Int := (List.range n).map fun (i : Nat) => f (i : Int)
theorem listF_len (n : Nat) (f : Int → Int) : (listF n f).length = n := by unfold listF; rw [List.length_map, List.length_range]
theorem listF_at {n : Nat} {f : Int → Int} {i : Nat} (h : i < n) : (listF n f).getD i 0 = f (i : Int) := by
  unfold listF
  rw [List.getD_eq_getElem?_getD, List.getElem?_map, List.getElem?_range h] <;> rfl
section
variable {n : Nat} {f : Int → Int} (h1 : 1 ≤ n) (h2 : n ≤ 600) (hm : ∀ d e : Int, d ≤ e → f d ≤ f e) (hp : ∀ d : Int, f (d + (n : Int)) = f d + (n : Int))
include h1 h2 hm hp
theorem listF_good : Good (listF n f) := by
  refine ⟨by rw [listF_len]; exact h1, by rw [listF_len]; exact h2, fun i j hij hj => ?_, ?_⟩
  · rw [listF_len] at hj
    rw [listF_at (by omega), listF_at hj]
    exact hm _ _ (by omega)
  · rw [listF_len, listF_at (by omega), listF_at (by omega)]
    have a1 := hm ((n - 1 : Nat) : Int) (((0 : Nat) : Int) + (n : Int)) (by omega)
    have a2 := hp ((0 : Nat) : Int)
    omega
omit h1 h2 hm in
theorem per_mul (d : Int) (t : Int) : f (d + t * (n : Int)) = f d + t * (n : Int) := by
  have up : ∀ k : Nat, ∀ d : Int, f (d + (k : Int) * (n : Int)) = f d + (k : Int) * (n : Int) := by
    intro k
    induction k with
    | zero => intro d; simp
    | succ k ih =>
      intro d
      have e : d + ((k + 1 : Nat) : Int) * (n : Int) = d + (k : Int) * (n : Int) + (n : Int) := by rw [Int.natCast_add, Int.add_mul]; simp; omega
      rw [e, hp, ih, Int.natCast_add, Int.add_mul]
      simp
      omega
  by_cases h : 0 ≤ t
  · obtain ⟨k, rfl⟩ : ∃ k : Nat, t = (k : Int) := ⟨t.toNat, by omega⟩
    exact up k d
  · obtain ⟨k, rfl⟩ : ∃ k : Nat, t = -(k : Int) := ⟨(-t).toNat, by omega⟩
    have := up k (d + -(k : Int) * (n : Int))
    rw [Int.neg_mul] at this ⊢
    rw [show d + -((k : Int) * (n : Int)) + (k : Int) * (n : Int) = d by omega] at this
    omega
theorem listF_on (x : Int) : onL (listF n f) x = f x := by
  have g := listF_good h1 h2 hm hp
  obtain ⟨i, t, hi, rfl⟩ := split_at g x
  rw [on_at g hi]
  rw [listF_len] at hi ⊢
  rw [listF_at hi, per_mul hp]
end
theorem on_mul {ns : List Int} (g : Good ns) (x t : Int) : onL ns (x + t * (ns.length : Int)) = onL ns x + t * (ns.length : Int) := per_mul (fun d => on_len g d) x t
theorem list_on {ns : List Int} (g : Good ns) : listF ns.length (onL ns) = ns := by
  apply List.ext_getElem
  · rw [listF_len]
  · intro i h1 h2
    have e := listF_at (f := onL ns) h2
    rw [List.getD_eq_getElem?_getD, List.getElem?_eq_getElem h1] at e
    have e2 := on_at g h2 0
    rw [Int.zero_mul, Int.add_zero, Int.add_zero] at e2
    have e3 : (listF ns.length (onL ns))[i] = onL ns (i : Int) := e
    rw [e3, e2, List.getD_eq_getElem?_getD, List.getElem?_eq_getElem h2]
    rfl
/-- rows of a rule -/
def Reads (ns : List Int) (rs : List (Int × Int)) : Prop := ∀ r, r ∈ rs → onL ns r.1 = r.2
theorem early_on {ns : List Int} (g : Good ns) {r : Int × Int} (h : onL ns r.1 = r.2) (d : Int) : early (ns.length : Int) r d ≤ onL ns d := by
  have hp := g.posI
  have h1 := Int.emod_nonneg (d - r.1) (show (ns.length : Int) ≠ 0 by omega)
  have h3 := Int.emod_add_mul_ediv (d - r.1) (ns.length : Int)
  rw [Int.mul_comm] at h3
  unfold early
  rw [← h, ← on_mul g]
  exact on_mono g (by omega)
theorem on_late {ns : List Int} (g : Good ns) {r : Int × Int} (h : onL ns r.1 = r.2) (d : Int) : onL ns d ≤ late (ns.length : Int) r d := by
  have hp := g.posI
  have h1 := Int.emod_nonneg (r.1 - d) (show (ns.length : Int) ≠ 0 by omega)
  have h3 := Int.emod_add_mul_ediv (r.1 - d) (ns.length : Int)
  rw [Int.mul_comm] at h3
  unfold late
  have e : r.2 - (r.1 - d) / (ns.length : Int) * (ns.length : Int) = onL ns (r.1 + -((r.1 - d) / (ns.length : Int)) * (ns.length : Int)) := by
    rw [on_mul g, h, Int.neg_mul]
    omega
  rw [e]
  exact on_mono g (by rw [Int.neg_mul]; omega)
theorem reads_kept {ns : List Int} (g : Good ns) {rs : List (Int × Int)} (h : Reads ns rs) : keptB (ns.length : Int) rs = true :=
  kept_iff.mpr fun r hr o ho => by rw [← h o ho]; exact early_on g (h r hr) o.1
theorem ear_on {ns : List Int} (g : Good ns) {rs : List (Int × Int)} (h0 : rs ≠ []) (h : Reads ns rs) (d : Int) : earT (ns.length : Int) rs d ≤ onL ns d := by
  obtain ⟨r, h1, h2⟩ := ear_ex (L := (ns.length : Int)) h0 d
  rw [h2]
  exact early_on g (h r h1) d
theorem on_lat {ns : List Int} (g : Good ns) {rs : List (Int × Int)} (h0 : rs ≠ []) (h : Reads ns rs) (d : Int) : onL ns d ≤ latT (ns.length : Int) rs d := by
  obtain ⟨r, h1, h2⟩ := lat_ex (L := (ns.length : Int)) h0 d
  rw [h2]
  exact on_late g (h r h1) d
/-- a row of each day of a length tells the rule -/
theorem early_all {ns : List Int} (g : Good ns) {r : Int × Int} (h : onL ns r.1 = r.2) {d t : Int} (e : d = r.1 + t * (ns.length : Int)) : early (ns.length : Int) r d = onL ns d := by
  have hp := g.posI
  subst e
  unfold early
  rw [show r.1 + t * (ns.length : Int) - r.1 = t * (ns.length : Int) by omega, Int.mul_ediv_cancel _ (by omega), on_mul g, h]
theorem late_all {ns : List Int} (g : Good ns) {r : Int × Int} (h : onL ns r.1 = r.2) {d t : Int} (e : d = r.1 + t * (ns.length : Int)) : late (ns.length : Int) r d = onL ns d := by
  have hp := g.posI
  subst e
  unfold late
  rw [show r.1 - (r.1 + t * (ns.length : Int)) = -t * (ns.length : Int) by rw [Int.neg_mul]; omega, Int.mul_ediv_cancel _ (by omega), on_mul g, h, Int.neg_mul]
  omega
theorem ends_cover {n : Nat} (hn : 1 ≤ n) (first d : Int) : ∃ (i : Nat) (t : Int), i < n ∧ d = first + (i : Int) + t * (n : Int) := by
  have h1 := Int.emod_nonneg (d - first) (show (n : Int) ≠ 0 by omega)
  have h2 := Int.emod_lt_of_pos (d - first) (show (0 : Int) < n by omega)
  have h3 := Int.emod_add_mul_ediv (d - first) (n : Int)
  rw [Int.mul_comm] at h3
  exact ⟨((d - first) % (n : Int)).toNat, (d - first) / (n : Int), by omega, by omega⟩
def endRows (ns : List Int) (first : Int) : List (Int × Int) := (List.range ns.length).map fun (i : Nat) => (first + (i : Int), onL ns (first + (i : Int)))
theorem end_reads {ns : List Int} {first : Int} : Reads ns (endRows ns first) := fun r hr => by
  obtain ⟨i, _, rfl⟩ := List.mem_map.mp hr
  rfl
theorem end_ear {ns : List Int} (g : Good ns) {first : Int} {rs : List (Int × Int)} (hr : ∀ r, r ∈ rs ↔ r ∈ endRows ns first) (d : Int) : earT (ns.length : Int) rs d = onL ns d := by
  obtain ⟨i, t, hi, e⟩ := ends_cover g.pos first d
  have hm : (first + (i : Int), onL ns (first + (i : Int))) ∈ rs := (hr _).mpr (List.mem_map.mpr ⟨i, List.mem_range.mpr hi, rfl⟩)
  have h0 : rs ≠ [] := fun z => by rw [z] at hm; cases hm
  have a1 := ear_ge (L := (ns.length : Int)) (d := d) h0 hm
  have a2 := early_all g (r := (first + (i : Int), onL ns (first + (i : Int)))) rfl (d := d) (t := t) e
  have a3 := ear_on g h0 (fun r q => end_reads r ((hr r).mp q)) d
  omega
theorem end_lat {ns : List Int} (g : Good ns) {first : Int} {rs : List (Int × Int)} (hr : ∀ r, r ∈ rs ↔ r ∈ endRows ns first) (d : Int) : latT (ns.length : Int) rs d = onL ns d := by
  obtain ⟨i, t, hi, e⟩ := ends_cover g.pos first d
  have hm : (first + (i : Int), onL ns (first + (i : Int))) ∈ rs := (hr _).mpr (List.mem_map.mpr ⟨i, List.mem_range.mpr hi, rfl⟩)
  have h0 : rs ≠ [] := fun z => by rw [z] at hm; cases hm
  have a1 := lat_le (L := (ns.length : Int)) (d := d) h0 hm
  have a2 := late_all g (r := (first + (i : Int), onL ns (first + (i : Int)))) rfl (d := d) (t := t) e
  have a3 := on_lat g h0 (fun r q => end_reads r ((hr r).mp q)) d
  omega
end TM
end
section
namespace TM
/-! the mathematics of two rules -/
def Per (f : Int → Int) (n : Int) : Prop := ∀ x, f (x + n) = f x + n
def Mono (f : Int → Int) : Prop := ∀ d e : Int, d ≤ e → f d ≤ f e
theorem per_times {f : Int → Int} {n : Nat} (h : Per f (n : Int)) (t : Int) : Per f (t * (n : Int)) := fun x => per_mul h x t
theorem per_dvd {f : Int → Int} {n m : Nat} (h : Per f (n : Int)) (hd : n ∣ m) : Per f (m : Int) := by
  obtain ⟨k, rfl⟩ := hd
  have := per_times h (k : Int)
  rw [Int.natCast_mul, Int.mul_comm]
  exact this
theorem per_neg {f : Int → Int} {n : Int} (h : Per f n) : Per f (-n) := fun x => by
  have := h (x + -n)
  rw [show x + -n + n = x by omega] at this
  omega
theorem per_add {f : Int → Int} {n m : Int} (h : Per f n) (h' : Per f m) : Per f (n + m) := fun x => by
  rw [show x + (n + m) = x + n + m by omega, h', h]
  omega
theorem per_gcd {f : Int → Int} : ∀ (a b : Nat), Per f (a : Int) → Per f (b : Int) → Per f ((Nat.gcd a b : Nat) : Int) := by
  intro a b
  induction a, b using Nat.gcd.induction with
  | H0 n => intro _ h; rw [Nat.gcd_zero_left]; exact h
  | H1 m n hm ih =>
    intro ha hb
    rw [Nat.gcd_rec]
    refine ih ?_ ha
    have e : ((n % m : Nat) : Int) = (n : Int) + -((n / m : Nat) : Int) * (m : Int) := by
      have := Nat.div_add_mod n m
      have z : (n : Int) = (m : Int) * ((n / m : Nat) : Int) + ((n % m : Nat) : Int) := by exact_mod_cast this.symm
      rw [Int.neg_mul, Int.mul_comm]
      omega
    rw [e]
    exact per_add hb (per_times ha _)
theorem onL_per {ns : List Int} (g : Good ns) : Per (onL ns) (ns.length : Int) := on_len g
theorem onL_mono {ns : List Int} (g : Good ns) : Mono (onL ns) := fun _ _ h => on_mono g h
theorem comp_per {f h : Int → Int} {n : Int} (a : Per f n) (b : Per h n) : Per (fun x => f (h x)) n := fun x => by show f (h (x + n)) = f (h x) + n; rw [b, a]
theorem comp_mono {f h : Int → Int} (a : Mono f) (b : Mono h) : Mono (fun x => f (h x)) := fun d e q => a _ _ (b _ _ q)
theorem max_per {f h : Int → Int} {n : Int} (a : Per f n) (b : Per h n) : Per (fun x => if h x > f x then h x else f x) n := fun x => by
  show (if h (x + n) > f (x + n) then h (x + n) else f (x + n)) = (if h x > f x then h x else f x) + n
  rw [a, b]
  split <;> split <;> omega
theorem min_per {f h : Int → Int} {n : Int} (a : Per f n) (b : Per h n) : Per (fun x => if h x < f x then h x else f x) n := fun x => by
  show (if h (x + n) < f (x + n) then h (x + n) else f (x + n)) = (if h x < f x then h x else f x) + n
  rw [a, b]
  split <;> split <;> omega
theorem max_mono {f h : Int → Int} (a : Mono f) (b : Mono h) : Mono (fun x => if h x > f x then h x else f x) := fun d e q => by
  have := a d e q
  have := b d e q
  show (if h d > f d then h d else f d) ≤ (if h e > f e then h e else f e)
  split <;> split <;> omega
theorem min_mono {f h : Int → Int} (a : Mono f) (b : Mono h) : Mono (fun x => if h x < f x then h x else f x) := fun d e q => by
  have := a d e q
  have := b d e q
  show (if h d < f d then h d else f d) ≤ (if h e < f e then h e else f e)
  split <;> split <;> omega
theorem by_mono {ns : List Int} (g : Good ns) : Mono (byL ns) := fun d e h => (by_le g).mpr (Int.le_trans h ((by_le g).mp (Int.le_refl _)))
theorem by_per {ns : List Int} (g : Good ns) : Per (byL ns) (ns.length : Int) := fun y => by
  refine byL_eq g ⟨?_, ?_⟩
  · rw [on_len g]
    have := (byL_is g y).1
    omega
  · rw [show byL ns y + (ns.length : Int) - 1 = byL ns y - 1 + (ns.length : Int) by omega, on_len g]
    have := (byL_is g y).2
    omega
noncomputable def tilL (ns : List Int) (y : Int) : Int := byL ns (y + 1) - 1
theorem til_le {ns : List Int} (g : Good ns) {x y : Int} : x ≤ tilL ns y ↔ onL ns x ≤ y := by
  have := by_le g (x := x) (y := y + 1)
  unfold tilL
  omega
theorem til_mono {ns : List Int} (g : Good ns) : Mono (tilL ns) := fun d e h => by
  have := by_mono g (d + 1) (e + 1) (by omega)
  unfold tilL
  omega
theorem til_per {ns : List Int} (g : Good ns) : Per (tilL ns) (ns.length : Int) := fun y => by
  have := by_per g (y + 1)
  unfold tilL
  rw [show y + (ns.length : Int) + 1 = y + 1 + (ns.length : Int) by omega, this]
  omega
/-- a rule told by a map with a period -/
structure Rule (n : Nat) (f : Int → Int) : Prop where
  pos : 1 ≤ n
  most : n ≤ 600
  mono : Mono f
  per : Per f (n : Int)
theorem Rule.good {n : Nat} {f : Int → Int} (r : Rule n f) : Good (listF n f) := listF_good r.pos r.most r.mono r.per
theorem Rule.on {n : Nat} {f : Int → Int} (r : Rule n f) (x : Int) : onL (listF n f) x = f x := listF_on r.pos r.most r.mono r.per x
/-- the least length of a rule -/
structure Least (ns : List Int) (d : Nat) : Prop where
  pos : 1 ≤ d
  dvd : d ∣ ns.length
  per : Per (onL ns) (d : Int)
  min : ∀ e : Nat, 1 ≤ e → e ∣ ns.length → Per (onL ns) (e : Int) → d ≤ e
theorem Least.rule {ns : List Int} {d : Nat} (g : Good ns) (h : Least ns d) : Rule d (onL ns) := ⟨h.pos, Nat.le_trans (Nat.le_of_dvd g.pos h.dvd) g.most, onL_mono g, h.per⟩
theorem Least.dvd_per {ns : List Int} {d e : Nat} (h : Least ns d) (he : Per (onL ns) (e : Int)) : d ∣ e := by
  have hp := per_gcd d e h.per he
  have h1 : 1 ≤ Nat.gcd d e := Nat.gcd_pos_of_pos_left _ h.pos
  have h2 := h.min _ h1 (Nat.dvd_trans (Nat.gcd_dvd_left d e) h.dvd) hp
  have h3 : Nat.gcd d e = d := Nat.le_antisymm (Nat.le_of_dvd h.pos (Nat.gcd_dvd_left d e)) h2
  rw [← h3]
  exact Nat.gcd_dvd_right d e
theorem least_same {ns ms : List Int} {d e : Nat} (g : Good ns) (k : Good ms) (h : Least ns d) (j : Least ms e) : listF d (onL ns) = listF e (onL ms) ↔ ∀ x, onL ns x = onL ms x := by
  constructor
  · intro q x
    have a := (h.rule g).on x
    have b := (j.rule k).on x
    rw [q, b] at a
    exact a.symm
  · intro q
    have ef : onL ns = onL ms := funext q
    have a : d ∣ e := h.dvd_per (by rw [ef]; exact j.per)
    have b : e ∣ d := j.dvd_per (by rw [← ef]; exact h.per)
    rw [Nat.dvd_antisymm a b, ef]
theorem least_ex {ns : List Int} (g : Good ns) : ∃ d, Least ns d := by
  have key : ∀ k, (∃ d, 1 ≤ d ∧ d ≤ k ∧ d ∣ ns.length ∧ Per (onL ns) (d : Int)) → ∃ d, Least ns d := by
    intro k
    induction k with
    | zero => rintro ⟨d, h1, h2, _⟩; omega
    | succ k ih =>
      rintro ⟨d, h1, h2, h3, h4⟩
      by_cases hx : ∃ d, 1 ≤ d ∧ d ≤ k ∧ d ∣ ns.length ∧ Per (onL ns) (d : Int)
      · exact ih hx
      · refine ⟨d, h1, h3, h4, fun e e1 e2 e3 => ?_⟩
        refine Nat.le_of_not_lt fun q => hx ⟨e, e1, by omega, e2, e3⟩
  exact key ns.length ⟨ns.length, g.pos, Nat.le_refl _, Nat.dvd_refl _, onL_per g⟩
/-- it is enough to look at one length -/
theorem per_of_first {ns : List Int} (g : Good ns) {d : Int} (h : ∀ i, i < ns.length → onL ns ((i : Int) + d) = ns.getD i 0 + d) : Per (onL ns) d := fun x => by
  obtain ⟨i, t, hi, rfl⟩ := split_at g x
  rw [on_at g hi, show (i : Int) + t * (ns.length : Int) + d = (i : Int) + d + t * (ns.length : Int) by omega, on_mul g, h i hi]
  omega
theorem first_of_per {ns : List Int} (g : Good ns) {d : Int} (h : Per (onL ns) d) {i : Nat} (hi : i < ns.length) : onL ns ((i : Int) + d) = ns.getD i 0 + d := by
  rw [h]
  have := on_at g hi 0
  rw [Int.zero_mul, Int.add_zero, Int.add_zero] at this
  rw [this]
theorem listF_take {n d : Nat} {f : Int → Int} (h : d ≤ n) : (listF n f).take d = listF d f := by
  unfold listF
  rw [← List.map_take, List.take_range, Nat.min_eq_left h]
/-! behind, later, sooner and what is asked back -/
section
variable {ns ms : List Int} (g : Good ns) (k : Good ms) {L : Nat} (h1 : 1 ≤ L) (h2 : L ≤ 600) (hn : ns.length ∣ L) (hm : ms.length ∣ L)
include g k h1 h2 hn hm
theorem behind_rule : Rule L (fun x => onL ns (onL ms x)) := ⟨h1, h2, comp_mono (onL_mono g) (onL_mono k), comp_per (per_dvd (onL_per g) hn) (per_dvd (onL_per k) hm)⟩
theorem later_rule : Rule L (fun x => if onL ms x > onL ns x then onL ms x else onL ns x) := ⟨h1, h2, max_mono (onL_mono g) (onL_mono k), max_per (per_dvd (onL_per g) hn) (per_dvd (onL_per k) hm)⟩
theorem sooner_rule : Rule L (fun x => if onL ms x < onL ns x then onL ms x else onL ns x) := ⟨h1, h2, min_mono (onL_mono g) (onL_mono k), min_per (per_dvd (onL_per g) hn) (per_dvd (onL_per k) hm)⟩
end
theorem by_rule {ns : List Int} (g : Good ns) : Rule ns.length (byL ns) := ⟨g.pos, g.most, by_mono g, by_per g⟩
theorem til_rule {ns : List Int} (g : Good ns) : Rule ns.length (tilL ns) := ⟨g.pos, g.most, til_mono g, til_per g⟩
theorem by_unique {ns : List Int} (g : Good ns) {y m : Int} (h : ∀ x, m ≤ x ↔ y ≤ onL ns x) : byL ns y = m := by
  have a := (h (byL ns y)).mpr ((by_le g).mp (Int.le_refl _))
  have b := (by_le g).mpr ((h m).mp (Int.le_refl _))
  omega
theorem til_unique {ns : List Int} (g : Good ns) {y m : Int} (h : ∀ x, x ≤ m ↔ onL ns x ≤ y) : tilL ns y = m := by
  have a := (h (tilL ns y)).mpr ((til_le g).mp (Int.le_refl _))
  have b := (til_le g).mpr ((h m).mp (Int.le_refl _))
  omega
end TM
end
section
set_option maxHeartbeats 2000000
namespace G
open PySem PySem.Spec PyProof.Rows L2

/-! ### a def's promise where no repr is running around it -/
structure FnG (P : Program) (w : World) (K : PySem.W.Frag) (mg : Str → Option Value) (base : Heap) (CX : CXT) (k : Nat) (f : Addr) (fd : FuncData) (ps : List Str) (sp : Sp) : Prop where
  len : ∀ vs H Q E, sp vs H Q E → vs.length = ps.length
  run : ∀ (A : Around) (outer : List Env) (s : Shared) (H : Hp) (args : Args) (us : List Value) (vs : List V) (Q : VK) (E : XK), A.guards = some [] → Room k A → Env0 P w K mg base A outer s H → BindsTo s fd args (ps.zip us) → Vals vs us → sp vs H Q E →
    codeAny (model P w) A (.call (.ref f) args) (CR CX outer P w H s Q E) s
theorem FnG.of {P : Program} {w : World} {K : PySem.W.Frag} {mg : Str → Option Value} {base : Heap} {CX : CXT} {k : Nat} {f : Addr} {fd : FuncData} {ps : List Str} {sp : Sp} (F : FnOk P w K mg base CX k f fd ps sp) : FnG P w K mg base CX k f fd ps sp :=
  ⟨F.len, fun A outer s H args us vs Q E _ => F.run A outer s H args us vs Q E⟩

theorem fnG_of {CX : CXT} {P : Program} {w : World} {K : PySem.W.Frag} {mg : Str → Option Value} {base : Heap} {k : Nat} {f : Addr} {name qual : Str} {params : Arguments} {body : List Stmt} {scope : Scope} {dV kV doc pm cdv ct oc : Value} {an od : Option Addr}
    {osl : Array (Option Value)} {N ps : List Str} {sp : Sp} (lk : K.lookup f = some ⟨oc, od, .func (PySem.W.fnOf name qual params body scope dV kV doc pm an cdv ct), osl⟩) (hcd : PySem.W.codeIn K cdv qual = true) (S : FnScope N ps scope)
    (len : ∀ vs H Q E, sp vs H Q E → vs.length = ps.length)
    (hbody : ∀ (A : Around) (outer : List Env) (s : Shared) (H : Hp) (vs : List V) (Q : VK) (E : XK), A.guards = some [] → Room k (A.deeper (envOfC qual scope s.heap.objs.size f cdv)) → sp vs H Q E →
      ∃ t, PSs (cxOf CX P w K mg base N qual scope f cdv A outer s H E) body t ∧ t { nx := fun _ H' => Q .non H', rt := Q } (start N vs) H) :
    FnG P w K mg base CX (k + 1) f (PySem.W.fnOf name qual params body scope dV kV doc pm an cdv ct) ps sp := by
  refine ⟨len, fun A outer s H args us vs Q E hgd hr e0 hb r hsp => ?_⟩
  have hl := len _ _ _ _ hsp
  have KX : K.In s.heap := e0.mod.kin.keeps fun b o e => (e0.bs b o e).1
  have lim : s.heap.NoLimit := e0.mod.nolimit.keeps fun b o e => (e0.bs b o e).1
  have hkind : ∀ y ∈ ps.zip us, scope.names.lookup y.1 = some .local ∨ (scope.names.lookup y.1 = some .cell ∧ ((cellsFrom (s.heap.objs.size + 1) scope.names []).lookup y.1).isSome = true) := fun ⟨n, v⟩ hy => by
    rcases S.par n (List.of_mem_zip hy).1 with q | q
    · exact .inl q
    · exact .inr ⟨q, PySem.W.cellsFrom_some _ _ _ (.inl q)⟩
  refine codeAny_call_function hr.depth (KX _ _ lk) rfl S.co S.gen rfl (PySem.W.codeRec_of KX hcd) (hb _ _ _ _ ?_)
  refine wpAny_newFunctionEnv_cells S.kind hkind fun env he s1 x => ?_
  subst he
  refine ⟨lim.keeps x.toInCall.keep, codeAny_func ?_⟩
  obtain ⟨t, ht, hq⟩ := hbody A outer s H vs Q E hgd (hr.deeper _) hsp
  have I : Inv (cxOf CX P w K mg base N qual scope f cdv A outer s H E) [] (start N vs) H s1 := inv_start S hr.hd e0 hl r x
  refine wpAny_mono (ht.run [] s1 (start N vs) H _ I hq) (fun fl s' hs => ?_) fun e s' hs => hs
  have fin : ∀ {σ' : L2.St} {H' : Hp} {v : V} {u : Value}, Inv (cxOf CX P w K mg base N qual scope f cdv A outer s H E) [] σ' H' s' → RelV v u → Q v H' → CE outer P w H s Q u s' :=
    fun {σ' H' v u} J rv q => ⟨v, H', J.os, J.bare, J.base, J.hok, rv, q⟩
  cases fl with
  | ret u =>
    obtain ⟨v, σ', H', J, rv, q⟩ := hs
    exact fin J rv q
  | next =>
    obtain ⟨σ', H', J, q⟩ := hs
    exact fin (v := V.non) (u := Value.none) J rfl q
  | brk =>
    obtain ⟨_, _, _, q⟩ := hs
    exact False.elim q
  | cont =>
    obtain ⟨_, _, _, q⟩ := hs
    exact False.elim q

theorem okG {P : Program} {w : World} {K : PySem.W.Frag} {mg : Str → Option Value} {base : Heap} {x qual : Str} {st : Stmt} {f : Addr} {fd : FuncData} {N ps : List Str} {k : Nat} {sp : Sp} (F : Fun K x qual st f fd) (S : FnScope N ps (defScope st)) (len : ∀ vs H Q E, sp vs H Q E → vs.length = ps.length)
    (hbody : ∀ (cdv : Value) (A : Around) (outer : List Env) (s : Shared) (H : Hp) (vs : List V) (Q : VK) (E : XK), A.guards = some [] → Room k (A.deeper (envOfC qual (defScope st) s.heap.objs.size f cdv)) → sp vs H Q E →
      ∃ t, PSs (cxOf CX0 P w K mg base N qual (defScope st) f cdv A outer s H E).nox (defBody st) t ∧ t { nx := fun _ H' => Q .non H', rt := Q } (start N vs) H) : FnG P w K mg base CX0 (k + 1) f fd ps sp := by
  obtain ⟨oc, od, kV, doc, pm, an, cdv, ct, osl, rfl, lk, hcd⟩ := F.ex
  refine fnG_of lk hcd S len fun A outer s H vs Q E hg hr hsp => ?_
  obtain ⟨t, h, q⟩ := hbody cdv A outer s H vs Q E hg hr hsp
  exact ⟨t, h.nox, q⟩

section
variable {X : Cx} {CX : CXT} {k n : Nat} {f C : Addr} {fd : FuncData} {ps ks : List Str} {sp : Sp} {dvs : List V} {ds : List Value} {E : XK} {x m : Str} {p pos apos : Pos} {e o : Expr} {es : List Expr} {kws : List Keyword} {ta : TE} {t tk : TA} {g : List Value → List Value → List Value} {gV : List V → List V → List V}
theorem run_fnG {pins : List (Addr × Obj)} {σ : L2.St} {H : Hp} {s : Shared} {Q : VK} {us : List Value} {vs : List V} (F : FnG X.prog X.w X.K X.mg X.base CX k f fd ps sp) (hgd : X.A.guards = some []) (hr : Room k X.A) (hb : Binds X.K fd ps ds) (hd : Vals dvs ds) (hx : Passes CX X E)
    (I : Inv X pins σ H s) (r : Vals vs us) (h : sp (vs ++ dvs) H Q E) : wpAny (model X.prog X.w) X.A (call (.ref f) us) (EP X pins σ Q) X.xe s := by
  have r2 : Vals (vs ++ dvs) (us ++ ds) := r.append hd
  have hl : (us ++ ds).length = ps.length := by rw [← r2.length]; exact F.len _ _ _ _ h
  refine wpAny_call (codeAny_mono (F.run X.A X.stack s H ⟨us, []⟩ (us ++ ds) (vs ++ dvs) Q E hgd hr I.env0 (hb s us I.kIn hl) r2 h) fun r s' hq => ?_)
  cases r with
  | error e => exact hx pins σ H s e s' I hq
  | ok fl =>
    cases fl with
    | ret u => exact I.after hq
    | next => exact False.elim hq
    | brk => exact False.elim hq
    | cont => exact False.elim hq
/-- f(e, ..) -/
theorem pe_callG (F : FnG X.prog X.w X.K X.mg X.base CX k f fd ps sp) (hgd : X.A.guards = some []) (hr : Room k X.A) (hg : Gl X x) (hm : X.mg x = some (.ref f)) (hk : PySem.W.keepIn X.K (.ref f) = true) (hb : Binds X.K fd ps ds) (hd : Vals dvs ds) (hx : Passes CX X E)
    (ha : PA X (e :: es) t) (hdb : (x == ("__debug__" : Str)) = false := by decide) (he : starEach (e :: es) X.env = (false, eval e X.env) :: starEach es X.env := by rfl) (hpl : (backTo pos (starEach es X.env)).any (·.1) = false := by rfl) :
    PE X (.Call (.Name x p) (e :: es) [] pos) (tCall sp dvs E t) := by
  refine ⟨fun pins s σ H Q I h => ?_⟩
  refine wpAny_Call_Name_kw (ld_glob I hg hm ?_ hdb)
  refine PySem.W.callWith_K (h₀ := X.base) I.ok.mod.kin hk (thn (ha.run pos pins s σ H _ I h) fun us s1 ⟨vs, H1, I1, r, q⟩ => ⟨I1.kIn, ?_⟩) he hpl
  exact run_fnG F hgd hr hb hd hx I1 r q
/-- o.m(k = v, ..) -/
def tMethN (C : Addr) (m : Str) (n j : Nat) (sp : Sp) (gV : List V → List V → List V) (E : XK) (ta : TE) (t tk : TA) : TE := fun σ H Q => ta σ H fun x H1 => ∃ a dx fs, x = .ref a ∧ H1 a = some (.ins C dx fs) ∧ fs.lookup m = none ∧
  t σ H1 fun vs H2 => tk σ H2 fun zs H3 => vs.length = n ∧ zs.length = j ∧ sp (gV (x :: vs) zs) H3 Q E
theorem pe_methN0 {pl : Sem Bool} (he : PE X o ta) (c : Cls X.K C) (hm : Meth X.K C m f) (F : FnOk X.prog X.w X.K X.mg X.base CX k f fd ps sp) (hr : Room k X.A) (hb : KBn X.K fd ps 1 ks g gV) (hx : Passes CX X E) (hkw : PK X kws tk)
    (hall : (backToKw pos (keywordEach kws X.env)).all (·.1.isSome) = true := by rfl) (hks : (backToKw pos (keywordEach kws X.env)).filterMap (·.1) = ks := by rfl)
    (hpl : ((backTo pos (starEach [] X.env)).any (·.1) || (backToKw pos (keywordEach kws X.env)).any (·.1.isNone)) = false := by rfl)
    (ht : eval (.Call (.Attribute o m apos) [] kws pos) X.env = (do
      let ov ← eval o X.env
      standAt apos.atName
      let (f, first) ← holding [ov] (getMethod ov m pl)
      callWith pos f first (backTo pos (starEach [] X.env)) (backToKw pos (keywordEach kws X.env))) := by rfl) :
    PE X (.Call (.Attribute o m apos) [] kws pos) (tMethN C m 0 ks.length sp gV E ta tNil tk) := by
  refine ⟨fun pins s σ H Q I h => ?_⟩
  refine PySem.W.methodCall_KW (pl := pl) (thn (he.run pins s σ H _ I h) fun u s1 ⟨x, H1, I1, rx, a, dx, fs, ex, ea, l, q⟩ => ?_) ht
  subst ex
  obtain rfl : u = Value.ref a := rx
  refine getmeth_ok I1 ea c hm l ?_
  refine PySem.W.callWith_KW0 (first := [.ref a]) (h₀ := X.base) I.ok.mod.kin hm.kp hall ?_ hpl
  refine thn (hkw.run pos pins s1 σ H1 _ I1 q) fun ws s2 ⟨zs, H2, I2, rz, l1, l2, q2⟩ => ⟨I2.kIn, ?_⟩
  rw [hks]
  exact run_fnN (us := [.ref a]) (vs := [.ref a]) F hr hb hx I2 (.cons rfl .nil) rz rfl l2 q2
end

/-! ### repr of data; repr of an own instance; {x} of data -/
mutual
theorem dp_nodict {K : PySem.W.Frag} {H : Hp} : ∀ {d : PyData} {v : V}, Dp K H v d → d.hasDict = false
  | .none, _, _ => by simp [PyData.hasDict]
  | .bool _, _, _ => by simp [PyData.hasDict]
  | .int _, _, _ => by simp [PyData.hasDict]
  | .str _, _, _ => by simp [PyData.hasDict]
  | .list ds, _, h => by
    cases h with
    | lst _ ha => simpa [PyData.hasDict] using dp_nodictAll ha
  | .tuple ds, _, h => by
    cases h with
    | tup _ ha => simpa [PyData.hasDict] using dp_nodictAll ha
  | .dict _, _, h => by cases h
theorem dp_nodictAll {K : PySem.W.Frag} {H : Hp} : ∀ {ds : List PyData} {vs : List V}, DpAll K H vs ds → PyData.hasDictAll ds = false
  | [], _, _ => by simp [PyData.hasDictAll]
  | d :: ds, _, h => by
    cases h with
    | cons h1 h2 => simp [PyData.hasDictAll, dp_nodict h1, dp_nodictAll h2]
end
def rRepr (K : PySem.W.Frag) : List V → Hp → VK → Prop := fun xs H Q => ∃ (a : Addr) (d : PyData), xs = [.ref a] ∧ Dp K H (.ref a) d ∧ d.showable = true ∧ d.depth ≤ 60 ∧ d.shown.length ≤ sizeLine ∧ Q (.str d.shown) H
theorem call_reprD {X : Cx} (hgd : X.A.guards = some []) (hu : X.A.units + 64 < cLine) : CallR X (.builtin "repr") (rRepr X.K) := by
  intro pins s σ H xs us Q I r h
  obtain ⟨a, d, rfl, hd, hs, hdp, hz, q⟩ := h
  obtain ⟨u, rfl, ru⟩ := vals1 r
  obtain rfl : u = Value.ref a := ru
  obtain ⟨as, hr⟩ := Dp.reads I d _ _ hd rfl
  refine repr_of_reads' hr hs (PyData.noDict_hsm (dp_nodict hd)) hgd (by omega) (fun _ _ e => e) (fun h' u tk hk => ?_) hz
  exact ⟨.str d.shown, H, I.kept hk, ⟨_, rfl⟩, q⟩
end G
end
section
set_option maxHeartbeats 2000000
namespace G
open PySem PySem.Spec PyProof.Rows L2
section
variable {X : Cx} {CX : CXT} {k : Nat} {f C : Addr} {fd : FuncData} {ps : List Str} {sp : Sp} {E : XK}
def rReprO (C : Addr) (sp : Sp) (E : XK) : List V → Hp → VK → Prop := fun xs H Q => ∃ (a dx : Addr) (fs : List (Str × V)), xs = [.ref a] ∧ H a = some (.ins C dx fs) ∧ sp [.ref a] H (fun v H' => (∃ y, v = .str y) ∧ Q v H') E
theorem call_reprO (hs : PySem.W.findIn X.K (.ref C) "__repr__" = some (some (.ref f))) (hf : PySem.W.isFn X.K (.ref f) = true) (FF : FnG X.prog X.w X.K X.mg X.base CX k f fd ps sp) (hgd : X.A.guards = some []) (hr : Room (k + 1) X.A)
    (hb : Binds X.K fd ps []) (hx : Passes CX X E) : CallR X (.builtin "repr") (rReprO C sp E) := by
  intro pins s σ H xs us Q I r h
  obtain ⟨a, dx, fs, rfl, ea, hsp⟩ := h
  obtain ⟨u, rfl, ru⟩ := vals1 r
  obtain rfl : u = Value.ref a := ru
  obtain ⟨mA, O, _, _, _, _⟩ := ins_get I.hok ea
  obtain ⟨od, J, _⟩ := O.look
  refine Calls.call_function_entry F.kind_repr F.plain_repr F.entry_repr (F.args_repr1 _) ?_
  unfold Builtin.«repr»
  refine wpAny_bind (m := oneArg "repr" _) (wpAny_pure ?_)
  refine wpAny_bind (m := cRoomFor _ _) (wpAny_cRoomFor (by have := hr.units; show X.A.units + 1 < cLine; omega) ?_)
  refine wpAny_bind ?_
  unfold specialOf
  refine wpAny_bind (J.type.here ((PySem.W.looks_findIn I.kIn hs).here ?_))
  show wpAny _ _ (if (some (Value.ref f)).isNone = true then _ else _) _ _ _
  rw [if_neg (by simp)]
  have hl : ([Value.ref a] ++ []).length = ps.length := by
    rw [← FF.len _ _ _ _ hsp] <;> rfl
  refine wpAny_bind (m := callSpecialIfBound? (.ref a) (Str.ofString "__repr__") _) (PySem.W.ifBound_K I.kIn J hs hf ?_)
  refine wpAny_call (codeAny_mono (FF.run X.A.in1 X.stack s H ⟨[.ref a], []⟩ [.ref a] [.ref a] _ E hgd hr.in1 I.env0.in1 (hb _ [.ref a] I.kIn hl) (.cons rfl .nil) hsp) fun r s' hq => ?_)
  cases r with
  | error er => exact hx pins σ H s er s' I hq
  | ok fl =>
    cases fl with
    | ret u =>
      obtain ⟨v, H', I3, rv, ⟨y, ey⟩, q3⟩ := I.after hq
      subst ey
      obtain ⟨tk, rfl⟩ := rv
      show wpAny _ _ _ _ _ _
      refine wpAny_bind (wpAny_isInstance (typeIs_str _ _ _) isSubtype_str_str ?_)
      first
        | exact wpAny_pure ⟨_, rfl, ⟨.str y, H', I3, ⟨tk, rfl⟩, q3⟩⟩
        | (rw [if_pos rfl]; exact wpAny_pure ⟨_, rfl, ⟨.str y, H', I3, ⟨tk, rfl⟩, q3⟩⟩)
        | (simp only [if_true]; exact wpAny_pure ⟨_, rfl, ⟨.str y, H', I3, ⟨tk, rfl⟩, q3⟩⟩)
    | next => exact False.elim hq
    | brk => exact False.elim hq
    | cont => exact False.elim hq

/-- {x} of data, as a text -/
def tFmtD (K : PySem.W.Frag) (te : TE) : TE := fun σ H Q => te σ H fun x H1 => ∃ (a : Addr) (d : PyData), x = .ref a ∧ Dp K H1 (.ref a) d ∧ d.showable = true ∧ d.depth ≤ 60 ∧ d.shown.length ≤ sizeLine ∧ Q (.str d.shown) H1
theorem pe_fmtD {e : Expr} {te : TE} {pos : Pos} (hgd : X.A.guards = some []) (hu : X.A.units + 64 < cLine) (he : PE X e te) : PE X (.FormattedValue e (-1) none pos) (tFmtD X.K te) := by
  refine ⟨fun pins s σ H Q I h => ?_⟩
  refine wpAny_FormattedValue_plain (thn (he.run pins s σ H _ I h) fun v s1 hv => ?_)
  obtain ⟨x, H1, I1, r1, a, d, rfl, hd, hs, hdp, hz, q⟩ := hv
  obtain rfl : v = Value.ref a := r1
  obtain ⟨as, hr⟩ := Dp.reads I1 d _ _ hd rfl
  exact formatField_of_reads hr hs (PyData.noDict_hsm (dp_nodict hd)) hgd (by omega) (fun _ _ e => e) (fun h' u tk hk => ⟨.str d.shown, H1, I1.kept hk, ⟨_, rfl⟩, q⟩) hz
end
end G
end
section
set_option maxHeartbeats 2000000
namespace G
open PySem PySem.Spec PyProof.Rows L2

/-! ### list(enumerate(xs)) -/
def enObj (f0 f1 : Value) (it : Addr) (i : Int) (old : Value) : Obj := { cls := .type "enumerate", dict := none, data := .fields #[f0, f1, .ref it, rawInt i, .none, old], slots := #[] }
def IsEn (h : Heap) (e it : Addr) (i : Int) : Prop := ∃ f0 f1 old, h.get? e = some (enObj f0 f1 it i old) ∧ (f0 = .none ∨ ∃ a : Addr, f0 = rawInt a)
section
variable {prog : Program} {w : World} {A : Around} {E : Value → Shared → Prop} {s : Shared}
theorem wpAny_loadIfAlive {a : Addr} {Q : Option Obj → Shared → Prop} (h : Q (s.heap.get? a) s) : wpAny (model prog w) A (loadIfAlive a) Q E s := fun Γ p _ => by
  show Sem.wp _ Γ (.loadIfAlive a .pure) _ _ p s
  rw [Sem.wp_loadIfAlive]
  exact h

theorem en_handOut {e it T : Addr} {i : Int} {f0 f1 old x : Value} {Q : Unit → Shared → Prop} (he : s.heap.get? e = some (enObj f0 f1 it i old))
    (hQ : ∀ h', h'.get? e = some (enObj (rawInt T) (.bool false) it i old) → Heap.SameBut e s.heap h' → Q () { s with heap := h' }) :
    wpAny (model prog w) A (Builtin.SmallTypes.ownedTupleHandOut (.ref e) (.ref T)) Q E s := by
  unfold Builtin.SmallTypes.ownedTupleHandOut
  refine wpAny_bind (wpAny_setField_rec he (by simp [enObj]) fun h₆ he₆ hs₆ => ?_)
  refine wpAny_setField_rec he₆ (by simp [enObj]) fun h₇ he₇ hs₇ => ?_
  refine hQ h₇ ?_ ?_
  · simpa [enObj] using he₇
  · exact ⟨by rw [hs₇.1, hs₆.1], fun b hb => (hs₇.2 b hb).trans (hs₆.2 b hb)⟩

theorem en_next {e it l : Addr} {i : Nat} {items : Array Value} {x : Value} {Q : Value → Shared → Prop}
    (he : IsEn s.heap e it i) (hit : s.heap.IsListIter it l i) (hl : s.heap.IsList l items) (hx : items[i]? = some x) (hne : e ≠ it)
    (hQ : ∀ h', IsEn h' e it ((i : Int) + 1) → h'.IsListIter it l (i + 1) →
      h'.get? s.heap.objs.size = some { cls := .type "tuple", data := .seq #[.int i s.toks, x] } → 
      (∀ b o, b ≠ e → b ≠ it → s.heap.get? b = some o → h'.get? b = some o) → Q (.ref s.heap.objs.size) { s with heap := h', toks := s.toks + 1 }) :
    wpAny (model prog w) A (Builtin.«enumerate.__next__» ⟨[.ref e], []⟩) (fun fin s' => ∃ v, fin = .done (.ret v) ∧ Q v s') E s := by
  obtain ⟨f0, f1, old, he, hf0⟩ := he
  obtain ⟨hp, g, d, tk, os⟩ := s
  show wpAny _ _ (field (.ref e) 2 >>= _) _ _ _
  refine wpAny_bind (wpAny_field he rfl (x := .ref it) rfl ?_)
  refine wpAny_bind (wpAny_nextOf_list_item hit hl hx fun h₁ hit₁ hs₁ => ?_)
  replace hs₁ : Heap.SameBut it hp h₁ := hs₁
  have he₁ : h₁.get? e = some (enObj f0 f1 it i old) := (hs₁.2 e hne).trans he
  show wpAny _ _ (field (.ref e) 3 >>= _) _ _ ⟨h₁, g, d, tk, os⟩
  refine wpAny_bind (wpAny_field he₁ rfl (x := rawInt i) rfl ?_)
  show wpAny _ _ (field (.ref e) 4 >>= _) _ _ ⟨h₁, g, d, tk, os⟩
  refine wpAny_bind (wpAny_field he₁ rfl (x := .none) rfl ?_)
  show wpAny _ _ (mkInt i >>= _) _ _ ⟨h₁, g, d, tk, os⟩
  refine wpAny_bind (wpAny_mkInt ?_)
  show wpAny _ _ (setField (.ref e) 3 (rawInt ((i : Int) + 1)) >>= _) _ _ ⟨h₁, g, d, tk + 1, os⟩
  refine wpAny_bind (wpAny_setField_rec he₁ (by simp) fun h₂ he₂ hs₂ => ?_)
  replace hs₂ : Heap.SameBut e h₁ h₂ := hs₂
  replace he₂ : h₂.get? e = some (enObj f0 f1 it ((i : Int) + 1) old) := he₂
  show wpAny _ _ (setField (.ref e) 4 .none >>= _) _ _ ⟨h₂, g, d, tk + 1, os⟩
  refine wpAny_bind (wpAny_setField_rec he₂ (by simp) fun h₃ he₃ hs₃ => ?_)
  replace hs₃ : Heap.SameBut e h₂ h₃ := hs₃
  replace he₃ : h₃.get? e = some (enObj f0 f1 it ((i : Int) + 1) old) := he₃
  show wpAny _ _ (newTuple [.int i tk, x] >>= _) _ _ ⟨h₃, g, d, tk + 1, os⟩
  refine wpAny_bind (wpAny_newTuple ?_)
  have he₄ : (h₃.push { cls := .type "tuple", data := .seq #[.int i tk, x] }).get? e = some (enObj f0 f1 it ((i : Int) + 1) old) := Heap.get?_push_of_some _ he₃
  generalize hh₄ : h₃.push { cls := .type "tuple", data := .seq #[.int i tk, x] } = h₄ at he₄
  have hsz : h₃.objs.size = hp.objs.size := by rw [hs₃.1, hs₂.1, hs₁.1]
  have hel : e < hp.objs.size := Heap.lt_size he
  have ht₄ : h₄.get? hp.objs.size = some { cls := .type "tuple", data := .seq #[.int i tk, x] } := by rw [← hh₄, ← hsz]; exact Heap.get?_push_size _ rfl
  have hk₄ : ∀ b o, b ≠ e → b ≠ it → hp.get? b = some o → h₄.get? b = some o := fun b o hbe hbi hb => by
    rw [← hh₄]; exact Heap.get?_push_of_some _ (hs₃.extBut b o hbe (hs₂.extBut b o hbe (hs₁.extBut b o hbi hb)))
  have hit₄ : h₄.IsListIter it l (i + 1) := by
    rw [← hh₄]; obtain ⟨o, ho, r⟩ := (hit₁.extBut hs₂.extBut (Ne.symm hne)).extBut hs₃.extBut (Ne.symm hne); exact ⟨o, Heap.get?_push_of_some _ ho, r⟩
  show wpAny _ _ (Builtin.SmallTypes.ownedTupleIsFree (.ref e) >>= _) _ _ ⟨h₄, g, d, tk + 1, os⟩
  rw [hsz]
  clear hh₄ he₃ hs₃ he₂ hs₂ he₁ hs₁ hit₁ hsz h₃ h₂ h₁
  -- the tuple that is free is handed out, and the object is as before otherwise
  have free : wpAny (model prog w) A (do
      rule "enumerate.__next__.owned-tuple-again"
      let old ← field (.ref e) 5
      setField (.ref e) 5 x
      Builtin.SmallTypes.ownedTupleHandOut (.ref e) (.ref hp.objs.size)
      letGo [old] [.ref hp.objs.size]
      ret (.ref hp.objs.size)) (fun fin s' => ∃ v, fin = .done (.ret v) ∧ Q v s') E ⟨h₄, g, d, tk + 1, os⟩ := by
    refine wpAny_bind (wpAny_rule ?_)
    refine wpAny_bind (wpAny_field he₄ rfl (x := old) rfl ?_)
    refine wpAny_bind (wpAny_setField_rec he₄ (by simp [enObj]) fun h₅ he₅ hs₅ => ?_)
    replace hs₅ : Heap.SameBut e h₄ h₅ := hs₅
    replace he₅ : h₅.get? e = some (enObj f0 f1 it ((i : Int) + 1) x) := he₅
    refine wpAny_bind (en_handOut (x := x) he₅ fun h₇ he₇ hs₇ => ?_)
    replace hs₇ : Heap.SameBut e h₅ h₇ := hs₇
    refine wpAny_bind (wpAny_letGo (wpAny_pure ⟨_, rfl, hQ h₇ ⟨_, _, _, he₇, .inr ⟨_, rfl⟩⟩ ?_ ?_ ?_⟩))
    · exact (hit₄.extBut hs₅.extBut (Ne.symm hne)).extBut hs₇.extBut (Ne.symm hne)
    · exact hs₇.extBut _ _ (Nat.ne_of_gt hel) (hs₅.extBut _ _ (Nat.ne_of_gt hel) ht₄)
    · exact fun b o hbe hbi hb => hs₇.extBut b o hbe (hs₅.extBut b o hbe (hk₄ b o hbe hbi hb))
  refine wpAny_bind ?_
  unfold Builtin.SmallTypes.ownedTupleIsFree
  rcases hf0 with rfl | ⟨a, rfl⟩
  · refine wpAny_bind (wpAny_field he₄ rfl (x := .none) rfl (wpAny_pure ?_))
    simp only [if_true]
    exact free
  · refine wpAny_bind (wpAny_field he₄ rfl (x := rawInt a) rfl ?_)
    show wpAny _ _ (loadIfAlive (Int.toNat (a : Int)) >>= _) _ _ _
    refine wpAny_bind (wpAny_loadIfAlive ?_)
    cases hal : h₄.get? (Int.toNat (a : Int)) with
    | none =>
      simp only [Option.isNone_none, if_true]
      refine wpAny_pure ?_
      simp only [if_true]
      exact free
    | some oa =>
      simp only [Option.isNone_some, Bool.false_eq_true, if_false]
      refine wpAny_bind (wpAny_field he₄ rfl (x := f1) rfl ?_)
      have fin : ∀ h₅ : Heap, IsEn h₅ e it ((i : Int) + 1) → Heap.SameBut e h₄ h₅ → ∃ v, Fin.done (Flow.ret (.ref hp.objs.size)) = .done (.ret v) ∧ Q v ⟨h₅, g, d, tk + 1, os⟩ := fun h₅ he₅ hs₅ => by
        refine ⟨_, rfl, hQ h₅ he₅ ?_ ?_ ?_⟩
        · exact hit₄.extBut hs₅.extBut (Ne.symm hne)
        · exact hs₅.extBut _ _ (Nat.ne_of_gt hel) ht₄
        · exact fun b o hbe hbi hb => hs₅.extBut b o hbe (hk₄ b o hbe hbi hb)
      by_cases hb : (f1 != .bool true) = true
      · rw [if_pos hb]
        refine wpAny_bind (wpAny_setField_rec he₄ (by simp [enObj]) fun h₅ he₅ hs₅ => ?_)
        refine wpAny_pure ?_
        simp only [Bool.false_eq_true, if_false]
        exact wpAny_pure (fin h₅ ⟨_, _, _, (by simpa [enObj] using he₅), .inr ⟨_, rfl⟩⟩ hs₅)
      · rw [if_neg hb]
        refine wpAny_bind (wpAny_pure (wpAny_pure ?_))
        simp only [Bool.false_eq_true, if_false]
        exact wpAny_pure (fin h₄ ⟨_, _, _, he₄, .inr ⟨_, rfl⟩⟩ ⟨rfl, fun _ _ => rfl⟩)
end
end G
end
section
set_option maxHeartbeats 2000000
namespace G
open PySem PySem.Spec PyProof.Rows L2
namespace F
theorem enum_no_len : typeLookup (.type "enumerate") "__len__" = pure none := by rw [typeLookup_type, builtinLookup_eq_fast]; kernel_rfl
theorem enum_no_hint : typeLookup (.type "enumerate") "__length_hint__" = pure none := by rw [typeLookup_type, builtinLookup_eq_fast]; kernel_rfl
end F
section
variable {prog : Program} {w : World} {A : Around} {E : Value → Shared → Prop} {s : Shared} {R : Result → Shared → Prop}
theorem IsEn.typeIs {e it : Addr} {i : Int} (he : IsEn s.heap e it i) : s.TypeIs (.ref e) "enumerate" := by
  obtain ⟨f0, f1, old, he, _⟩ := he
  exact ⟨_, he, rfl⟩
theorem en_pyNext {e it l : Addr} {i : Nat} {items : Array Value} {x : Value} {Q : Option Value → Shared → Prop}
    (he : IsEn s.heap e it i) (hit : s.heap.IsListIter it l i) (hl : s.heap.IsList l items) (hx : items[i]? = some x) (hne : e ≠ it)
    (hQ : ∀ h', IsEn h' e it ((i : Int) + 1) → h'.IsListIter it l (i + 1) →
      h'.get? s.heap.objs.size = some { cls := .type "tuple", data := .seq #[.int i s.toks, x] } → 
      (∀ b o, b ≠ e → b ≠ it → s.heap.get? b = some o → h'.get? b = some o) → Q (some (.ref s.heap.objs.size)) { s with heap := h', toks := s.toks + 1 }) :
    wpAny (model prog w) A (pyNext (.ref e)) Q E s := by
  have hT := he.typeIs
  unfold pyNext
  exact wpAny_bind (wpAny_attempt (wpAny_callSpecial?_slot (name := Str.ofString "__next__") hT PySem.F.slot_enumerate_next
    (wpAny_call_entry PySem.F.slot_enumerate_next hT PySem.F.entry_enumerate_next
      (en_next he hit hl hx hne fun h' a b c k => wpAny_pure (hQ h' a b c k)) (PySem.F.args_enumerate_next_1 _))))
theorem en_pyEnd {e it l : Addr} {i : Nat} {items : Array Value} {Q : Option Value → Shared → Prop} (hh : A.handled = none)
    (he : IsEn s.heap e it i) (hit : s.heap.IsListIter it l i) (hl : s.heap.IsList l items) (hx : items[i]? = none)
    (hQ : ∀ h', Heap.ExtBut it s.heap h' → Q none { s with heap := h' }) : wpAny (model prog w) A (pyNext (.ref e)) Q E s := by
  have hT := he.typeIs
  obtain ⟨f0, f1, old, he, _⟩ := he
  unfold pyNext
  refine wpAny_bind (wpAny_attempt (wpAny_callSpecial?_slot (name := Str.ofString "__next__") hT PySem.F.slot_enumerate_next
    (wpAny_call_entry PySem.F.slot_enumerate_next hT PySem.F.entry_enumerate_next ?_ (PySem.F.args_enumerate_next_1 _))))
  show wpAny _ _ (field (.ref e) 2 >>= _) _ _ _
  refine wpAny_bind (wpAny_field he rfl (x := .ref it) rfl ?_)
  refine wpAny_bind (wpAny_nextOf_list_end hh hit hl hx fun h' x he' hx' => ?_)
  obtain ⟨o, ho, hc⟩ := hx'
  refine wpAny_bind (wpAny_isInstance (T := "StopIteration") (b := true) ⟨o, ho, hc⟩ isSubtype_stop ?_)
  exact wpAny_pure (hQ _ he')

theorem en_pyIter {e it : Addr} {i : Int} {Q : Value → Shared → Prop} (he : IsEn s.heap e it i) (h : Q (.ref e) s) : wpAny (model prog w) A (pyIter (.ref e)) Q E s := by
  have hT := he.typeIs
  refine wpAny_pyIter_slot hT PySem.F.slot_enumerate_iter (wpAny_call_entry PySem.F.slot_enumerate_iter hT PySem.F.entry_enumerate_iter ?_ (PySem.F.args_enumerate_iter_1 _))
  show wpAny _ _ (ret (.ref e)) _ _ s
  exact wpAny_pure ⟨_, rfl, "enumerate", _, hT, PySem.F.slot_enumerate_next.lookup, h⟩
/-- the tuples made so far -/
def Tups (h : Heap) (acc items : Array Value) (n B : Nat) : Prop := acc.size = n ∧ ∀ j, j < n → ∃ (T : Addr) (tk : Tok) (x : Value), acc[j]? = some (.ref T) ∧ items[j]? = some x ∧ B ≤ T ∧ h.get? T = some { cls := .type "tuple", data := .seq #[.int j tk, x] }

theorem en_loop {e it l S : Addr} {items : Array Value} {res : Value} (hh : A.handled = none) (hei : e ≠ it) (hle : l ≠ e) (hli : l ≠ it) (hSe : S ≠ e) (hSi : S ≠ it) (hSl : S ≠ l) (hn : items.size ≤ sizeLine) {B : Nat} (hBe : e < B) (hBi : it < B) (hBS : S < B) :
    ∀ (k i : Nat) (s : Shared) (acc : Array Value) (c : Nat), items.size - i = k → i ≤ items.size → B ≤ s.heap.objs.size → IsEn s.heap e it i → s.heap.IsListIter it l i → s.heap.IsList l items →
    s.heap.get? S = some { cls := .type "list", dict := none, data := .seq acc c, slots := #[] } → Tups s.heap acc items i B →
    (∀ h' tk acc' c', (∀ b o, b ≠ S → b ≠ e → b ≠ it → s.heap.get? b = some o → h'.get? b = some o) → h'.get? S = some { cls := .type "list", dict := none, data := .seq acc' c', slots := #[] } → Tups h' acc' items items.size B → R (.ok (.ret res)) { s with heap := h', toks := tk }) →
    codeAny (model prog w) A (.builtin "list.extend.loop" ⟨[.ref S, .ref e, res], []⟩) R s := by
  intro k
  induction k with
  | zero =>
    intro i s acc c hk hi hB he hit hl hS hT hR
    have hin : i = items.size := by omega
    subst hin
    refine codeAny_builtin PySem.F.entry_extend_loop ?_
    rw [Around.under_plainId PySem.F.plain_extend_loop _]
    show wpAny _ A.in1 (pyNext (.ref e) >>= _) _ _ s
    refine wpAny_bind (en_pyEnd (A := A.in1) hh he hit hl (Array.getElem?_eq_none (Nat.le_refl _)) fun h' hx => ?_)
    refine wpAny_pure (hR h' s.toks acc c (fun b o _ _ hb q => hx b o hb q) (hx S _ hSi hS) ⟨hT.1, fun j hj => ?_⟩)
    obtain ⟨T, tk, x, a1, a2, a3, a4⟩ := hT.2 j hj
    exact ⟨T, tk, x, a1, a2, a3, hx T _ (Nat.ne_of_gt (Nat.lt_of_lt_of_le hBi a3)) a4⟩
  | succ k ih =>
    intro i s acc c hk hi hB he hit hl hS hT hR
    have hlt : i < items.size := by omega
    refine codeAny_builtin PySem.F.entry_extend_loop ?_
    rw [Around.under_plainId PySem.F.plain_extend_loop _]
    show wpAny _ A.in1 (pyNext (.ref e) >>= _) _ _ s
    have hx : items[i]? = some items[i] := Array.getElem?_eq_getElem hlt
    refine wpAny_bind (en_pyNext (A := A.in1) he hit hl hx hei fun h' he' hit' hT' hk' => ?_)
    have hS' := hk' S _ hSe hSi hS
    show wpAny _ A.in1 (updateSeq S (·.push (.ref s.heap.objs.size)) >>= _) _ _ _
    refine wpAny_bind ?_
    have hSz : S ≠ s.heap.objs.size := Nat.ne_of_lt (Heap.lt_size hS)
    have oth : ∀ b o, b ≠ S → h'.get? b = some o → (h'.update S (Obj.mapSeq (·.push (Value.ref s.heap.objs.size)))).get? b = some o := fun b o hb q => (Heap.get?_update_other _ _ (Ne.symm hb)).trans q
    refine wpAny_updateSeq hS' rfl (wpAny_pure ⟨plainId_quiet PySem.F.plain_extend_loop _, ih (i + 1) _ (acc.push (.ref s.heap.objs.size)) _ (by omega) hlt ?hB ?he ?hit ?hl (Heap.get?_update_self _ hS' rfl) ?hT ?hR⟩) (by rw [hT.1]; exact Nat.le_trans hi hn) (by show (acc.push _).size ≤ sizeLine + 1; rw [Array.size_push, hT.1]; exact Nat.succ_le_succ (Nat.le_trans hi hn))
    case hB =>
      have q := Heap.lt_size (oth _ _ hSz.symm hT')
      exact Nat.le_trans hB (Nat.le_of_lt q)
    case he =>
      obtain ⟨f0, f1, old, q, r⟩ := he'
      exact ⟨f0, f1, old, by
        show (h'.update S _).get? e = _
        have e1 : (((i + 1 : Nat)) : Int) = (i : Int) + 1 := by omega
        rw [e1]
        exact oth e _ hSe.symm q, r⟩
    case hit => exact hit'.at fun o q => oth it o hSi.symm q
    case hl => exact hl.at fun o q => oth l o hSl.symm (hk' l o hle hli q)
    case hT =>
      refine ⟨by rw [Array.size_push, hT.1], fun j hj => ?_⟩
      by_cases hji : j < i
      · obtain ⟨T, tk, x, a1, a2, a3, a4⟩ := hT.2 j hji
        refine ⟨T, tk, x, ?_, a2, a3, oth T _ (Nat.ne_of_gt (Nat.lt_of_lt_of_le hBS a3)) (hk' T _ (Nat.ne_of_gt (Nat.lt_of_lt_of_le hBe a3)) (Nat.ne_of_gt (Nat.lt_of_lt_of_le hBi a3)) a4)⟩
        rw [Array.getElem?_push, if_neg (by rw [hT.1]; omega)]
        exact a1
      · have hje : j = i := by omega
        subst hje
        refine ⟨s.heap.objs.size, s.toks, _, ?_, hx, hB, oth _ _ hSz.symm hT'⟩
        rw [Array.getElem?_push, if_pos hT.1.symm]
    case hR =>
      intro h2 tk2 acc2 c2 hk2 hS2 hT2
      exact hR h2 tk2 acc2 c2 (fun b o b1 b2 b3 q => hk2 b o b1 b2 b3 (oth b o b1 (hk' b o b2 b3 q))) hS2 hT2

theorem en_init {e it l S : Addr} {items : Array Value} (hh : A.handled = none) (hei : e ≠ it) (hle : l ≠ e) (hli : l ≠ it) (hSe : S ≠ e) (hSi : S ≠ it) (hSl : S ≠ l) (hn : items.size ≤ sizeLine)
    (he : IsEn s.heap e it 0) (hit : s.heap.IsListIter it l 0) (hl : s.heap.IsList l items) (hS : s.heap.get? S = some { cls := .type "list", data := .seq #[] })
    (hR : ∀ h' tk acc' c', (∀ b o, b ≠ S → b ≠ e → b ≠ it → s.heap.get? b = some o → h'.get? b = some o) → h'.get? S = some { cls := .type "list", dict := none, data := .seq acc' c', slots := #[] } → Tups h' acc' items items.size s.heap.objs.size → R (.ok (.ret .none)) { s with heap := h', toks := tk }) :
    wpAny (model prog w) A.in1 (Builtin.«list.__init__» ⟨[.ref S, .ref e], []⟩)
      (fun fin s' => match fin with | .done f => R (.ok f) s' | .again c' => c'.quiet = true ∧ codeAny (model prog w) A c' R s') (fun e s' => R (.error e) s') s := by
  show wpAny _ A.in1 (do let old ← Builtin.List.listItems (.ref S); Builtin.List.listUpdate (.ref S) (fun _ => #[]); letGo old.toList.reverse; Builtin.List.listExtendWith (.ref S) (.ref e) .none) _ _ s
  refine wpAny_bind ?_
  unfold Builtin.List.listItems
  refine wpAny_bind (wpAny_seqItems hS rfl (wpAny_pure ?_))
  show wpAny _ A.in1 (updateSeq S (fun _ => #[]) >>= fun _ => letGo (#[] : Array Value).toList.reverse >>= fun _ => Builtin.List.listExtendWith (.ref S) (.ref e) .none) _ _ s
  refine wpAny_bind (wpAny_updateSeq hS rfl ?_)
  have hS₂ := Heap.get?_update_self (Obj.mapSeq (fun _ => (#[] : Array Value))) hS rfl
  have oth : ∀ b o, b ≠ S → s.heap.get? b = some o → (s.heap.update S (Obj.mapSeq (fun _ => (#[] : Array Value)))).get? b = some o :=
    fun b o hb e => (Heap.get?_update_other _ _ (Ne.symm hb)).trans e
  have en2 : ∀ {h h' : Heap}, (∀ o, h.get? e = some o → h'.get? e = some o) → IsEn h e it 0 → IsEn h' e it 0 := fun k ⟨f0, f1, old, q, r⟩ => ⟨f0, f1, old, k _ q, r⟩
  refine wpAny_bind (wpAny_letGo ?_)
  have he₂ := en2 (fun o q => oth e o hSe.symm q) he
  unfold Builtin.List.listExtendWith
  refine wpAny_bind (wpAny_typeOf (IsEn.typeIs (s := { s with heap := s.heap.update S (Obj.mapSeq (fun _ => (#[] : Array Value))) }) he₂) ?_)
  have h1 : Builtin.List.listSameRef (.ref S) (.ref e) = false := by simp [Builtin.List.listSameRef, hSe]
  have h2 : (Value.type "enumerate" == Value.type "list") = false := by decide
  have h3 : (Value.type "enumerate" == Value.type "tuple") = false := by decide
  simp only [h1, h2, h3, Bool.or_false, Bool.false_eq_true, if_false]
  have he3 := he₂
  obtain ⟨f0, f1, old, q0, r0⟩ := he3
  refine wpAny_bind (en_pyIter (s := { s with heap := s.heap.update S (Obj.mapSeq (fun _ => (#[] : Array Value))) }) he₂ ?_)
  refine wpAny_bind (wpAny_holding ?_)
  unfold Builtin.List.listLengthHint
  refine wpAny_bind (wpAny_specialOf (IsEn.typeIs (s := { s with heap := s.heap.update S (Obj.mapSeq (fun _ => (#[] : Array Value))) }) he₂) F.enum_no_len ?_)
  show wpAny _ A.in1 (specialOf (Value.ref e) (Str.ofString "__length_hint__") >>= _) _ _ _
  refine wpAny_bind (wpAny_specialOf (IsEn.typeIs (s := { s with heap := s.heap.update S (Obj.mapSeq (fun _ => (#[] : Array Value))) }) he₂) F.enum_no_hint ?_)
  refine wpAny_pure ?_
  show wpAny _ A.in1 (rule "list.extend.makes-room" >>= fun _ => Builtin.List.listTouch (.ref S) >>= fun _ =>
    again (.builtin "list.extend.loop" ⟨[.ref S, .ref e, .none], []⟩)) _ _ _
  refine wpAny_bind (wpAny_rule ?_)
  refine wpAny_bind ?_
  show wpAny _ A.in1 (updateSeq S (·.push .none) >>= fun _ => updateSeq S (·.pop)) _ _ _
  refine wpAny_bind (wpAny_updateSeq hS₂ rfl ?_)
  have hS₃ := Heap.get?_update_self (Obj.mapSeq (·.push Value.none)) hS₂ rfl
  refine wpAny_updateSeq (hz := by seq_fits) hS₃ rfl ?_
  have hS₄ := Heap.get?_update_self (Obj.mapSeq (·.pop)) hS₃ rfl
  have oth2 : ∀ b o, b ≠ S → s.heap.get? b = some o → (((s.heap.update S (Obj.mapSeq (fun _ => (#[] : Array Value)))).update S (Obj.mapSeq (·.push Value.none))).update S (Obj.mapSeq (·.pop))).get? b = some o :=
    fun b o hb q => (Heap.get?_update_other _ _ (Ne.symm hb)).trans ((Heap.get?_update_other _ _ (Ne.symm hb)).trans (oth b o hb q))
  have hlt : ∀ b o, s.heap.get? b = some o → b < s.heap.objs.size := fun b o q => Heap.lt_size q
  obtain ⟨_, _, _, qe, _⟩ := id he
  obtain ⟨oi, qi, _⟩ := id hit
  refine wpAny_pure ⟨plainId_quiet PySem.F.plain_extend_loop _, en_loop hh hei hle hli hSe hSi hSl hn (hlt _ _ qe) (hlt _ _ qi) (hlt _ _ hS) items.size 0 _ _ _ rfl (Nat.zero_le _) ?_
    (en2 (fun o q => oth2 e o hSe.symm q) he) (hit.at fun o q => oth2 it o hSi.symm q) (hl.at fun o q => oth2 l o hSl.symm q) hS₄ ⟨rfl, fun j hj => absurd hj (Nat.not_lt_zero _)⟩ fun h' tk acc' c' hk hS' hT => ?_⟩
  · show _ ≤ (((s.heap.update S _).update S _).update S _).objs.size
    simp
  · exact hR h' tk acc' c' (fun b o b1 b2 b3 q => hk b o b1 b2 b3 (oth2 b o b1 q)) hS' hT
end
end G
end
section
set_option maxHeartbeats 2000000
namespace G
open PySem PySem.Spec PyProof.Rows L2
section
variable {prog : Program} {w : World} {A : Around} {E : Value → Shared → Prop} {s : Shared}
theorem call_list_enum {e it l : Addr} {items : Array Value} {Q : Value → Shared → Prop} (hh : A.handled = none) (hei : e ≠ it) (hle : l ≠ e) (hli : l ≠ it) (hn : items.size ≤ sizeLine)
    (he : IsEn s.heap e it 0) (hit : s.heap.IsListIter it l 0) (hl : s.heap.IsList l items)
    (hQ : ∀ h' tk acc' c', (∀ b o, b ≠ e → b ≠ it → s.heap.get? b = some o → h'.get? b = some o) → h'.get? s.heap.objs.size = some { cls := .type "list", dict := none, data := .seq acc' c', slots := #[] } →
      Tups h' acc' items items.size (s.heap.objs.size + 1) → Q (.ref s.heap.objs.size) { s with heap := h', toks := tk }) :
    wpAny (model prog w) A (call (.type "list") [.ref e]) Q E s := by
  obtain ⟨_, _, _, qe, _⟩ := id he
  obtain ⟨oi, qi, _⟩ := id hit
  obtain ⟨ol, ql, _⟩ := id hl
  have lt : ∀ {b : Addr} {o : Obj}, s.heap.get? b = some o → s.heap.objs.size ≠ b := fun q => Nat.ne_of_gt (Heap.lt_size q)
  refine callType_codes (Q₁ := fun obj s₁ => obj = .ref s.heap.objs.size ∧ s₁ = { s with heap := s.heap.push { cls := .type "list", data := .seq #[] } }) PySem.F.called_list (PySem.F.typeCall_list_1 _) PySem.F.entry_list_init
    (code_list_new _ ⟨rfl, rfl⟩) fun obj s₁ h₁ => ?_
  obtain ⟨rfl, rfl⟩ := h₁
  have hS : (s.heap.push { cls := .type "list", data := .seq #[] }).get? s.heap.objs.size = some { cls := .type "list", data := .seq #[] } := Heap.get?_push_size _ rfl
  refine ⟨⟨_, hS, rfl⟩, PySem.F.args_list_init_2 _ _, en_init (s := { s with heap := s.heap.push { cls := .type "list", data := .seq #[] } }) (A := A.in1) hh hei hle hli (lt qe) (lt qi) (lt ql) hn ?_
    (hit.at fun o q => Heap.get?_push_of_some _ q) (hl.at fun o q => Heap.get?_push_of_some _ q) hS fun h' tk acc' c' hk hS' hT => ?_⟩
  · obtain ⟨f0, f1, old, q, r⟩ := he
    exact ⟨f0, f1, old, Heap.get?_push_of_some _ q, r⟩
  · refine ⟨rfl, hQ h' tk acc' c' (fun b o b1 b2 q => hk b o (lt q).symm b1 b2 (Heap.get?_push_of_some _ q)) hS' ?_⟩
    have e1 : (s.heap.push { cls := .type "list", data := .seq #[] }).objs.size = s.heap.objs.size + 1 := Heap.size_push ..
    rw [← e1]
    exact hT
end

open Classical in
/-- what is new: the list at S, a pair for each item -/
noncomputable def enH (H : Hp) (S : Addr) (acc : List Addr) (xs : List V) : Hp := fun b =>
  if b = S then some (.lst (acc.map V.ref)) else if h : ∃ (j : Nat) (x : V), acc[j]? = some b ∧ xs[j]? = some x then some (.tup [.int ((Classical.choose h : Nat) : Int), Classical.choose (Classical.choose_spec h)]) else H b

section
variable {X : Cx}
def tListEn (K : PySem.W.Frag) (te : TE) : TE := fun σ H Q => te σ H fun x H1 => ∃ (a : Addr) (xs : List V), x = .ref a ∧ SqL K H1 a xs ∧
  ∀ (l : Addr) (ts : List Addr) (H2 : Hp), H1 l = none → Evl.Ex H1 H2 → H2 l = some (.lst (ts.map V.ref)) → ts.length = xs.length → (∀ (j : Nat) (T : Addr) (x : V), ts[j]? = some T → xs[j]? = some x → H2 T = some (.tup [.int (j : Int), x])) → Q (.ref l) H2
theorem pe_listEn {e : Expr} {te : TE} {p pos p2 pos2 : Pos} (hc : X.calm = true) (hg : Gl X "list") (hm : X.mg "list" = none) (hg2 : Gl X "enumerate") (hm2 : X.mg "enumerate" = none) (ha : PE X e te)
    (na2 : starEach [e] X.env = (false, eval e X.env) :: starEach [] X.env := by rfl)
    (na : starEach [.Call (.Name "enumerate" p2) [e] [] pos2] X.env = (false, eval (.Call (.Name "enumerate" p2) [e] [] pos2) X.env) :: starEach [] X.env := by rfl) :
    PE X (.Call (.Name "list" p) [.Call (.Name "enumerate" p2) [e] [] pos2] [] pos) (tListEn X.K te) := by
  refine ⟨fun pins s σ H Q I h => ?_⟩
  refine Call_ (ld_blt I hg hm boot_list (PyProof.Rows.callWith_type1 (args_cons ?_ na) na))
  refine Call_ (ld_blt I hg2 hm2 boot_enumerate (PyProof.Rows.callWith_type1 (one_arg ha I h (fun v s1 x H1 I1 r q => ?_) na2) na2))
  obtain ⟨a, xs, rfl, hs, q⟩ := q
  obtain rfl : v = Value.ref a := r
  obtain ⟨its, rv, pl, hz⟩ := I1.list hs
  have lits : its.length = xs.length := rv.length.symm
  refine call_enumerate_list pl.isList fun h1 he hit hsz hk => args_nil ?_
  have hal : a < s1.heap.objs.size := by obtain ⟨o, q, _⟩ := pl.isList; exact Heap.lt_size q
  refine call_list_enum (s := { s1 with heap := h1 }) (A := X.A) (I1.ok.hd hc) (Nat.succ_ne_self _) (Nat.ne_of_lt (Nat.lt_succ_of_lt hal)) (Nat.ne_of_lt hal) (by rw [List.size_toArray, lits]; exact hz)
    ⟨_, _, _, he, .inl rfl⟩ hit (pl.isList.at fun o q => hk a o q) fun h' tk acc c' hk' hS' hT => ?_
  -- the addresses
  have hacc : ∀ j, j < acc.size → ∃ T : Addr, acc[j]? = some (.ref T) := fun j hj => by
    obtain ⟨T, _, _, e1, _⟩ := hT.2 j (by rw [← hT.1]; exact hj)
    exact ⟨T, e1⟩
  let adr : Value → Addr := fun v => match v with | .ref T => T | _ => 0
  let ts : List Addr := acc.toList.map adr
  have tsl : ts.length = xs.length := by
    show (acc.toList.map adr).length = _
    rw [List.length_map, Array.length_toList, hT.1, List.size_toArray, lits]
  have tsj : ∀ j (T : Addr), ts[j]? = some T → acc[j]? = some (.ref T) ∧ j < its.length := fun j T hj => by
    have hlt : j < ts.length := (List.getElem?_eq_some_iff.mp hj).1
    have hlt2 : j < acc.size := by rw [hT.1, List.size_toArray, lits, ← tsl]; exact hlt
    obtain ⟨T', e1⟩ := hacc j hlt2
    have e2 : ts[j]? = some T' := by
      show (acc.toList.map adr)[j]? = some T'
      rw [List.getElem?_map, Array.getElem?_toList, e1] <;> rfl
    rw [hj] at e2
    cases e2
    exact ⟨e1, by rw [lits, ← tsl]; exact hlt⟩
  -- what stands at each
  have tup : ∀ (j : Nat) (T : Addr) (x : V), ts[j]? = some T → xs[j]? = some x → ∃ (tk : Tok) (u : Value), RelV x u ∧ s1.heap.objs.size ≤ T ∧ T ≠ h1.objs.size ∧ h'.get? T = some { cls := .type "tuple", data := .seq #[.int (j : Int) tk, u] } := fun j T x hj hx => by
    obtain ⟨e1, hj2⟩ := tsj j T hj
    obtain ⟨T', tk, u, a1, a2, a3, a4⟩ := hT.2 j (by rw [List.size_toArray]; exact hj2)
    rw [e1] at a1
    cases a1
    obtain ⟨u', hu', ru⟩ := rv.get hx
    have e3 : its[j]? = some u := by simpa using a2
    rw [hu'] at e3
    have e4 := Option.some.inj e3
    subst e4
    have a3' : h1.objs.size + 1 ≤ T := a3
    refine ⟨tk, _, ru, Nat.le_trans (by rw [hsz]; exact Nat.le_add_right _ _) (Nat.le_of_succ_le a3'), Nat.ne_of_gt a3', a4⟩
  have ltS : s1.heap.objs.size ≤ h1.objs.size := by rw [hsz]; exact Nat.le_add_right _ _
  have kept : ∀ b o, s1.heap.get? b = some o → h'.get? b = some o := fun b o q => by
    have hb := Heap.lt_size q
    exact hk' b o (Nat.ne_of_lt (Nat.lt_succ_of_lt hb)) (Nat.ne_of_lt hb) (hk b o q)
  have low : ∀ b, b < s1.heap.objs.size → enH H1 h1.objs.size ts xs b = H1 b := fun b hb => by
    unfold enH
    rw [if_neg (Nat.ne_of_lt (Nat.lt_of_lt_of_le hb ltS)), dif_neg]
    rintro ⟨j, x, e1, e2⟩
    obtain ⟨_, _, _, e3, _⟩ := tup j b x e1 e2
    exact absurd hb (Nat.not_lt_of_le e3)
  have old : ∀ b o, H1 b = some o → enH H1 h1.objs.size ts xs b = some o := fun b o q => by rw [low b (I1.hok.lt q)]; exact q
  have atS : enH H1 h1.objs.size ts xs h1.objs.size = some (.lst (ts.map V.ref)) := by unfold enH; rw [if_pos rfl]
  have atT : ∀ (j : Nat) (T : Addr) (x : V), ts[j]? = some T → xs[j]? = some x → enH H1 h1.objs.size ts xs T = some (.tup [.int (j : Int), x]) := fun j T x hj hx => by
    obtain ⟨tk, u, ru, _, hne, e1⟩ := tup j T x hj hx
    have hex : ∃ (j : Nat) (x : V), ts[j]? = some T ∧ xs[j]? = some x := ⟨j, x, hj, hx⟩
    unfold enH
    rw [if_neg hne, dif_pos hex]
    have key : ∀ (j0 : Nat) (x0 : V), ts[j0]? = some T → xs[j0]? = some x0 → j0 = j ∧ x0 = x := fun j0 x0 q1 q2 => by
      obtain ⟨tk2, u2, ru2, _, _, e2⟩ := tup j0 T x0 q1 q2
      rw [e1] at e2
      have e3 : (Value.int (j : Int) tk) = Value.int (j0 : Int) tk2 := by
        have := Option.some.inj e2
        injection this with _ _ d _
        injection d with d1 _
        have := congrArg (fun a : Array Value => a[0]?) d1
        simpa using this
      injection e3 with e4 _
      have e5 : j0 = j := by omega
      subst e5
      rw [hx] at q2
      exact ⟨rfl, (Option.some.inj q2).symm⟩
    obtain ⟨k1, k2⟩ := key _ _ (Classical.choose_spec (Classical.choose_spec hex)).1 (Classical.choose_spec (Classical.choose_spec hex)).2
    have e7 : V.int ((Classical.choose hex : Nat) : Int) = V.int (j : Int) := by rw [k1]
    rw [e7, k2]
  have un : Un X.fs [] H1 (enH H1 h1.objs.size ts xs) s1.heap h' := by
    refine ⟨fun b o q _ _ _ => kept b o q, fun b o q _ _ _ => ⟨o.slots, kept b o q⟩, fun b o q n _ => by rw [low b (Heap.lt_size q)]; exact n, fun b o q _ => ⟨o, kept b o q⟩, fun b xs q => old b _ q, fun b o u q => old b _ q, fun b ps q => ⟨#[], by rw [old b _ q]; simp⟩⟩
  have hok : HOk X.prog X.w (enH H1 h1.objs.size ts xs) h' := fun b o q => by
    by_cases hb : b = h1.objs.size
    · subst hb
      rw [atS] at q
      cases q
      refine ⟨?_, acc.toList, c', ?_, ?_⟩
      · rw [List.length_map, tsl]; exact hz
      · have : ∀ (l : List Value), (∀ v ∈ l, ∃ T : Addr, v = .ref T) → Vals ((l.map adr).map V.ref) l := fun l => by
          induction l with
          | nil => exact fun _ => .nil
          | cons v l ih =>
            intro hv
            obtain ⟨T, rfl⟩ := hv v (List.mem_cons_self ..)
            exact .cons rfl (ih fun u hu => hv u (List.mem_cons_of_mem _ hu))
        refine this acc.toList fun v hv => ?_
        obtain ⟨j, hj⟩ := List.getElem?_of_mem hv
        have hj' : acc[j]? = some v := by rw [← hj, Array.getElem?_toList]
        have hlt : j < acc.size := by
          have := (List.getElem?_eq_some_iff.mp hj).1
          rwa [Array.length_toList] at this
        obtain ⟨T, e1⟩ := hacc j hlt
        rw [hj'] at e1
        exact ⟨T, Option.some.inj e1⟩
      · rw [Array.toArray_toList]; exact hS'
    · by_cases hex : ∃ (j : Nat) (x : V), ts[j]? = some b ∧ xs[j]? = some x
      · obtain ⟨j, x, e1, e2⟩ := hex
        rw [atT j b x e1 e2] at q
        cases q
        obtain ⟨tk, u, ru, _, _, e3⟩ := tup j b x e1 e2
        exact ⟨by show 2 ≤ sizeLine; decide, [.int j tk, u], .cons ⟨_, rfl⟩ (.cons ru .nil), ⟨_, e3, rfl, _, rfl⟩⟩
      · have e0 : enH H1 h1.objs.size ts xs b = H1 b := by unfold enH; rw [if_neg hb, dif_neg hex]
        rw [e0] at q
        exact (I1.hok b o q).stay (fun c v _ r => kept c v r) (fun c r => old c _ r) fun c ys r => old c _ r
  exact ⟨.ref h1.objs.size, _, I1.un (t' := tk) un hok, rfl, q h1.objs.size ts _ (I1.hok.fresh ltS) (fun b o q => old b o q) atS tsl atT⟩
end
end G
end
section
set_option maxHeartbeats 2000000
namespace G
open PySem L2 Evl

/-! ### data at any depth -/
mutual
theorem dp_mono {K : PySem.W.Frag} {H H' : Hp} (e : Ex H H') : ∀ {d : PyData} {v : V}, Dp K H v d → Dp K H' v d
  | .none, _, h => by cases h; exact .non
  | .bool _, _, h => by cases h; exact .bl _
  | .int _, _, h => by cases h; exact .int _
  | .str _, _, h => by cases h; exact .str _
  | .list ds, _, h => by
    cases h with
    | lst hs ha => exact .lst (ex_l e hs) (dp_monoAll e ha)
  | .tuple ds, _, h => by
    cases h with
    | tup hs ha => exact .tup (ex_t e hs) (dp_monoAll e ha)
  | .dict _, _, h => by cases h
theorem dp_monoAll {K : PySem.W.Frag} {H H' : Hp} (e : Ex H H') : ∀ {ds : List PyData} {vs : List V}, DpAll K H vs ds → DpAll K H' vs ds
  | [], _, h => by cases h; exact .nil
  | d :: ds, _, h => by
    cases h with
    | cons h1 h2 => exact .cons (dp_mono e h1) (dp_monoAll e h2)
end
def dInts (ns : List Int) : PyData := .list (ns.map PyData.int)
theorem dpAll_ints {K : PySem.W.Frag} {H : Hp} : ∀ (ns : List Int), DpAll K H (ns.map V.int) (ns.map PyData.int)
  | [] => .nil
  | n :: ns => .cons (.int n) (dpAll_ints ns)
theorem dp_ints {K : PySem.W.Frag} {H : Hp} {a : Addr} {ns : List Int} (h : SqL K H a (ns.map V.int)) : Dp K H (.ref a) (dInts ns) := .lst h (dpAll_ints ns)
theorem dp_get {K : PySem.W.Frag} {H : Hp} : ∀ {ds : List PyData} {vs : List V} {j : Nat} {d : PyData}, DpAll K H vs ds → ds[j]? = some d → ∃ v, vs[j]? = some v ∧ Dp K H v d
  | _, _, _, _, .nil, e => by simp at e
  | _, _, 0, _, .cons h _, e => by simp at e; subst e; exact ⟨_, rfl, h⟩
  | _, _, j + 1, _, .cons _ h, e => by
    obtain ⟨v, h1, h2⟩ := dp_get (j := j) h (by simpa using e)
    exact ⟨v, by simpa using h1, h2⟩
theorem dp_len {K : PySem.W.Frag} {H : Hp} : ∀ {ds : List PyData} {vs : List V}, DpAll K H vs ds → vs.length = ds.length
  | _, _, .nil => rfl
  | _, _, .cons _ h => by simp [dp_len h]

/-! ### what evaluates to data -/
variable {K : PySem.W.Frag} {σ : L2.St} {H H' : Hp} {ta tb te tx : TE} {tt : TT} {x y z v : V} {d : PyData} {ds : List PyData} {p C dx : Addr} {fs : List (Str × V)} {f m : Str} {sp : Sp} {dvs vs : List V} {E : XK} {tA tr tk : TA}
def EvD (K : PySem.W.Frag) (te : TE) (σ : L2.St) (H : Hp) (d : PyData) : Prop := ∀ H1, Ex H H1 → ∀ Q : VK, (∀ v H2, Ex H1 H2 → Dp K H2 v d → Q v H2) → te σ H1 Q
def EvAD (K : PySem.W.Frag) (ta : TA) (σ : L2.St) (H : Hp) (ds : List PyData) : Prop := ∀ H1, Ex H H1 → ∀ Q : List V → Hp → Prop, (∀ vs H2, Ex H1 H2 → DpAll K H2 vs ds → Q vs H2) → ta σ H1 Q
theorem EvD.mono (e : Ex H H') (h : EvD K te σ H d) : EvD K te σ H' d := fun H1 a Q q => h H1 (e.trans a) Q q
theorem EvL.mono (e : Ex H H') {xs : List V} (h : EvL te σ H xs) : EvL te σ H' xs := fun H1 a Q q => h H1 (e.trans a) Q q
theorem evd_v (h : Ev te σ H v) (hd : ∀ H1, Ex H H1 → Dp K H1 v d) : EvD K te σ H d := fun H1 e Q q => h H1 e Q fun H2 e2 => q v H2 e2 (hd H2 (e.trans e2))
theorem evd_int {i : Int} (h : Ev te σ H (.int i)) : EvD K te σ H (.int i) := evd_v h fun _ _ => .int i
theorem evd_bl {b : Bool} (h : Ev te σ H (.bl b)) : EvD K te σ H (.bool b) := evd_v h fun _ _ => .bl b
theorem evd_ref (h : Ev te σ H v) (hd : Dp K H v d) : EvD K te σ H d := evd_v h fun _ e => dp_mono e hd
theorem evd_l {xs : List V} (h : EvL te σ H xs) (hd : ∀ H1, Ex H H1 → DpAll K H1 xs ds) : EvD K te σ H (.list ds) := fun H1 e Q q => h H1 e Q fun p H2 _ e2 h2 => q _ H2 e2 (.lst (sq_of h2) (hd H2 (e.trans e2)))
theorem evd_ints {ns : List Int} (h : EvL te σ H (ns.map V.int)) : EvD K te σ H (dInts ns) := evd_l h fun _ _ => dpAll_ints ns
theorem evd_u {xs : List V} (h : EvU te σ H xs) (hd : ∀ H1, Ex H H1 → DpAll K H1 xs ds) : EvD K te σ H (.tuple ds) := fun H1 e Q q => h H1 e Q fun p H2 _ e2 h2 => q _ H2 e2 (.tup (st_of h2) (hd H2 (e.trans e2)))
theorem evad_nil : EvAD K tNil σ H [] := fun H1 _ _ q => q [] H1 (Ex.refl H1) .nil
theorem evad_cons (h : EvD K ta σ H d) (hr : EvAD K tr σ H ds) : EvAD K (tCons ta tr) σ H (d :: ds) := fun H1 e Q q =>
  h H1 e _ fun v H2 e2 hv => hr H2 (e.trans e2) _ fun vs H3 e3 hvs => q _ H3 (e2.trans e3) (.cons (dp_mono e3 hv) hvs)
theorem evd_lst (h : EvAD K tA σ H ds) (hl : ds.length ≤ 100000) : EvD K (tLst tA) σ H (.list ds) := fun H1 e Q q =>
  h H1 e _ fun vs H2 e2 hv => ⟨sz_of (by rw [dp_len hv]; exact hl), fun p hp => q _ _ (e2.trans (Ex.new hp)) (.lst (sq_of upd_same) (dp_monoAll (Ex.new hp) hv))⟩
theorem evd_tup (h : EvAD K tA σ H ds) (hl : ds.length ≤ 100000) : EvD K (tTup tA) σ H (.tuple ds) := fun H1 e Q q =>
  h H1 e _ fun vs H2 e2 hv => ⟨sz_of (by rw [dp_len hv]; exact hl), fun p hp => q _ _ (e2.trans (Ex.new hp)) (.tup (st_of upd_same) (dp_monoAll (Ex.new hp) hv))⟩
theorem evd_is {d' : PyData} (h : EvD K te σ H d) (e : d = d') : EvD K te σ H d' := e ▸ h
theorem dp_app {Hx : Hp} : ∀ {as bs : List V} {cs es : List PyData}, DpAll K Hx as cs → DpAll K Hx bs es → DpAll K Hx (as ++ bs) (cs ++ es)
  | _, _, _, _, .nil, h2 => h2
  | _, _, _, _, .cons q1 q2, h2 => .cons q1 (dp_app q2 h2)
theorem dp_repl {Hx : Hp} {as : List V} {cs : List PyData} (h : DpAll K Hx as cs) : ∀ k : Nat, DpAll K Hx (List.replicate k as).flatten (List.replicate k cs).flatten
  | 0 => .nil
  | k + 1 => by
    rw [List.replicate_succ, List.replicate_succ, List.flatten_cons, List.flatten_cons]
    exact dp_app h (dp_repl h k)
/-- xs * k of a new list of data -/
theorem evd_rep {k : Nat} (h : EvAD K tA σ H ds) (hl : ds.length ≤ 1000) (hk : k ≤ 10) (hb : Ev tb σ H (.int (k : Int))) : EvD K (tOp rRep (tLst tA) tb) σ H (.list ((List.replicate k ds).flatten)) := fun H1 e Q q => by
  refine h H1 e _ fun vs H2 e2 hv => ⟨sz_of (by rw [dp_len hv]; omega), fun p hp => ?_⟩
  refine hb _ (e.trans (e2.trans (Ex.new hp))) _ fun H3 e3 => ?_
  have hvl := dp_len hv
  have hm : vs.length * k ≤ 10000 := Nat.le_trans (Nat.mul_le_mul (by rw [hvl]; exact hl) hk) (by decide)
  refine ⟨p, (k : Int), vs, rfl, rfl, e3 p _ upd_same, by omega, by omega, by rw [Int.toNat_natCast]; exact sz_of (by omega), fun q' hq' => ?_⟩
  refine q _ _ (((e2.trans (Ex.new hp)).trans e3).trans (Ex.new hq')) (.lst (sq_of upd_same) ?_)
  rw [Int.toNat_natCast]
  exact dp_repl (dp_monoAll (((Ex.new hp).trans e3).trans (Ex.new hq')) hv) k

/-! ### fields, methods, properties -/
theorem ev_fld {tv : V} (h : Ev ta σ H (.ref p)) (ho : H p = some (.ins C dx fs)) (hc : Cls K C) (hn : NoAttr K C f) (hl : fs.lookup f = some tv) : Ev (tFld K ta f) σ H tv := fun H1 e Q q =>
  h H1 e _ fun H2 e2 => ⟨p, C, dx, fs, tv, rfl, (e.trans e2) p _ ho, hc, hn, hl, q H2 e2⟩
theorem ev_con {u : Value} (h : Ev ta σ H (.ref p)) (ho : H p = some (.ins C dx fs)) (hc : Cls K C) (hk : Con K C f v u) (hl : fs.lookup f = none) : Ev (tCon K ta f) σ H v := fun H1 e Q q =>
  h H1 e _ fun H2 e2 => ⟨p, C, dx, fs, v, u, rfl, (e.trans e2) p _ ho, hc, hk, hl, q H2 e2⟩
theorem ev_prop (h : Ev ta σ H (.ref p)) (ho : H p = some (.ins C dx fs)) (hs : SpV sp (.ref p :: dvs) H z) : Ev (tProp C sp dvs E ta) σ H z := fun H1 e Q q =>
  h H1 e _ fun H2 e2 => ⟨p, dx, fs, rfl, (e.trans e2) p _ ho, hs H2 (e.trans e2) Q (fun H3 e3 => q H3 (e2.trans e3)) E⟩
theorem ev_meth (h : Ev ta σ H (.ref p)) (ho : H p = some (.ins C dx fs)) (hl : fs.lookup m = none) (ha : EvA tA σ H vs) (hs : SpV sp (.ref p :: (vs ++ dvs)) H z) : Ev (tMeth C m sp dvs E ta tA) σ H z := fun H1 e Q q =>
  h H1 e _ fun H2 e2 => ⟨p, dx, fs, rfl, (e.trans e2) p _ ho, hl, ha H2 (e.trans e2) _ fun H3 e3 => hs H3 ((e.trans e2).trans e3) Q (fun H4 e4 => q H4 ((e2.trans e3).trans e4)) E⟩
theorem el_meth {xs : List V} (h : Ev ta σ H (.ref p)) (ho : H p = some (.ins C dx fs)) (hl : fs.lookup m = none) (ha : EvA tA σ H vs) (hs : SpL sp (.ref p :: (vs ++ dvs)) H xs) : EvL (tMeth C m sp dvs E ta tA) σ H xs := fun H1 e Q q =>
  h H1 e _ fun H2 e2 => ⟨p, dx, fs, rfl, (e.trans e2) p _ ho, hl, ha H2 (e.trans e2) _ fun H3 e3 => hs H3 ((e.trans e2).trans e3) Q (fun q' H4 n4 e4 h4 => q q' H4 (fresh_back (e2.trans e3) n4) ((e2.trans e3).trans e4) h4) E⟩
def SpD (K : PySem.W.Frag) (sp : Sp) (vs : List V) (H : Hp) (d : PyData) : Prop := ∀ H1, Ex H H1 → ∀ Q : VK, (∀ v H2, Ex H1 H2 → Dp K H2 v d → Q v H2) → ∀ E : XK, sp vs H1 Q E
theorem evd_meth (h : Ev ta σ H (.ref p)) (ho : H p = some (.ins C dx fs)) (hl : fs.lookup m = none) (ha : EvA tA σ H vs) (hs : SpD K sp (.ref p :: (vs ++ dvs)) H d) : EvD K (tMeth C m sp dvs E ta tA) σ H d := fun H1 e Q q =>
  h H1 e _ fun H2 e2 => ⟨p, dx, fs, rfl, (e.trans e2) p _ ho, hl, ha H2 (e.trans e2) _ fun H3 e3 => hs H3 ((e.trans e2).trans e3) Q (fun v H4 e4 h4 => q v H4 ((e2.trans e3).trans e4) h4) E⟩
theorem evd_call (ha : EvA tA σ H vs) (hs : SpD K sp (vs ++ dvs) H d) : EvD K (tCall sp dvs E tA) σ H d := fun H1 e Q q =>
  ha H1 e _ fun H2 e2 => hs H2 (e.trans e2) Q (fun v H3 e3 h3 => q v H3 (e2.trans e3) h3) E
theorem ev_methN {n j : Nat} {gV : List V → List V → List V} {zs : List V} (h : Ev ta σ H (.ref p)) (ho : H p = some (.ins C dx fs)) (hl : fs.lookup m = none) (ha : EvA tA σ H vs) (hk : EvA tk σ H zs) (h1 : vs.length = n) (h2 : zs.length = j)
    (hs : SpV sp (gV (.ref p :: vs) zs) H z) : Ev (tMethN C m n j sp gV E ta tA tk) σ H z := fun H1 e Q q =>
  h H1 e _ fun H2 e2 => ⟨p, dx, fs, rfl, (e.trans e2) p _ ho, hl, ha H2 (e.trans e2) _ fun H3 e3 => hk H3 ((e.trans e2).trans e3) _ fun H4 e4 => ⟨h1, h2, hs H4 (((e.trans e2).trans e3).trans e4) Q (fun H5 e5 => q H5 (((e2.trans e3).trans e4).trans e5)) E⟩⟩
theorem el_methN {n j : Nat} {gV : List V → List V → List V} {zs xs : List V} (h : Ev ta σ H (.ref p)) (ho : H p = some (.ins C dx fs)) (hl : fs.lookup m = none) (ha : EvA tA σ H vs) (hk : EvA tk σ H zs) (h1 : vs.length = n) (h2 : zs.length = j)
    (hs : SpL sp (gV (.ref p :: vs) zs) H xs) : EvL (tMethN C m n j sp gV E ta tA tk) σ H xs := fun H1 e Q q =>
  h H1 e _ fun H2 e2 => ⟨p, dx, fs, rfl, (e.trans e2) p _ ho, hl, ha H2 (e.trans e2) _ fun H3 e3 => hk H3 ((e.trans e2).trans e3) _ fun H4 e4 => ⟨h1, h2, hs H4 (((e.trans e2).trans e3).trans e4) Q (fun q' H5 n5 e5 h5 => q q' H5 (fresh_back ((e2.trans e3).trans e4) n5) (((e2.trans e3).trans e4).trans e5) h5) E⟩⟩
theorem evd_methL {xs : List V} {ds : List PyData} (h : EvL te σ H xs) (hd : ∀ H1, Ex H H1 → DpAll K H1 xs ds) : EvD K te σ H (.list ds) := evd_l h hd

/-- repr of data -/
theorem ev_repr {ds : List PyData} (h : EvD K ta σ H (.list ds)) (hs : PyData.showable (.list ds) = true) (hdp : PyData.depth (.list ds) ≤ 60) (hz : (PyData.shown (.list ds)).length ≤ sizeLine) : Ev (tCB (rRepr K) (tCons ta tNil)) σ H (.str (PyData.shown (.list ds))) := fun H1 e Q q =>
  h H1 e _ fun v H2 e2 hv => by
    cases hv with
    | lst h1 h2 => exact ⟨_, _, rfl, .lst h1 h2, hs, hdp, hz, q H2 e2⟩
variable {D : Ends} {tu tw tz : TS}
theorem s_asgD {i : Nat} (h : EvD K te σ H d) (k : ∀ v H1, Ex H H1 → Dp K H1 v d → D.nx (σ.set i (some v)) H1) : tAsg te (gName i) D σ H := h H (Ex.refl H) _ fun v H1 e hv => k v H1 e hv
theorem q_asgD {i : Nat} (h : EvD K te σ H d) (k : ∀ v H1, Ex H H1 → Dp K H1 v d → tz D (σ.set i (some v)) H1) : tSeq (tAsg te (gName i)) tz D σ H := s_asgD (D := { D with nx := tz D }) h k
theorem s_retD (h : EvD K te σ H d) (k : ∀ v H1, Ex H H1 → Dp K H1 v d → D.rt v H1) : tRet te D σ H := h H (Ex.refl H) _ k
end G
end
section
set_option maxHeartbeats 2000000
namespace G
open PySem L2 Evl
variable {K : PySem.W.Frag} {σ : L2.St} {H H' : Hp} {ta tb te tx : TE} {tt : TT} {x y z v : V} {p C dx : Addr} {tA tr tk : TA}

/-! ### calls of built-ins, by their answers -/
theorem rc_len {n : Nat} {ys : List V} (h : SqL K H p ys ∨ SqT K H p ys) (hn : ys.length = n) : RC (fun xs H Q => ∃ p ys, xs = [.ref p] ∧ (SqL K H p ys ∨ SqT K H p ys) ∧ Q (.int (ys.length : Int)) H) [.ref p] H (.int (n : Int)) := fun H1 e Q q =>
  ⟨p, ys, rfl, h.imp (ex_l e) (ex_t e), by rw [hn]; exact q H1 (Ex.refl _)⟩
theorem rc_abs {i : Int} : RC (fun xs H Q => ∃ i, xs = [.int i] ∧ Q (.int (if i < 0 then -i else i)) H) [.int i] H (.int (if i < 0 then -i else i)) := fun H1 e Q q => ⟨i, rfl, q H1 (Ex.refl _)⟩
theorem rc_max2 {i j : Int} : RC (fun xs H Q => ∃ i j, xs = [.int i, .int j] ∧ Q (.int (if j > i then j else i)) H) [.int i, .int j] H (.int (if j > i then j else i)) := fun H1 e Q q => ⟨i, j, rfl, q H1 (Ex.refl _)⟩
theorem rc_min2 {i j : Int} : RC (fun xs H Q => ∃ i j, xs = [.int i, .int j] ∧ Q (.int (if j < i then j else i)) H) [.int i, .int j] H (.int (if j < i then j else i)) := fun H1 e Q q => ⟨i, j, rfl, q H1 (Ex.refl _)⟩
theorem rc_int1 {i : Int} : RC (fun xs H Q => (∃ i, xs = [.int i] ∧ Q (.int i) H) ∨ ∃ k, xs = [.bl k] ∧ Q (.int (if k then 1 else 0)) H) [.int i] H (.int i) := fun H1 e Q q => .inl ⟨i, rfl, q H1 (Ex.refl _)⟩
theorem rc_sum {ns : List Int} (h : SqL K H p (ns.map V.int)) : RC (rSum K) [.ref p] H (.int ns.sum) := fun H1 e Q q => ⟨p, ns, rfl, ex_l e h, q H1 (Ex.refl _)⟩
theorem rc_all {bs : List Bool} (h : SqL K H p (bs.map V.bl)) : RC (rAll K) [.ref p] H (.bl (bs.all id)) := fun H1 e Q q => ⟨p, bs, rfl, ex_l e h, q H1 (Ex.refl _)⟩
theorem rc_max {ns : List Int} {m : Int} (h : SqL K H p (ns.map V.int)) (hm : m ∈ ns) (hle : ∀ y, y ∈ ns → y ≤ m) : RC (rMax K) [.ref p] H (.int m) := fun H1 e Q q =>
  ⟨p, ns, rfl, ex_l e h, List.length_pos_of_mem hm, fun k hk hkl => by
    have e1 : k = m := Int.le_antisymm (hle k hk) (hkl m hm)
    rw [e1]; exact q H1 (Ex.refl _)⟩
theorem rc_min {ns : List Int} {m : Int} (h : SqL K H p (ns.map V.int)) (hm : m ∈ ns) (hle : ∀ y, y ∈ ns → m ≤ y) : RC (rMin K) [.ref p] H (.int m) := fun H1 e Q q =>
  ⟨p, ns, rfl, ex_l e h, List.length_pos_of_mem hm, fun k hk hkl => by
    have e1 : k = m := Int.le_antisymm (hkl m hm) (hle k hk)
    rw [e1]; exact q H1 (Ex.refl _)⟩
theorem rc_gcd {a b : Int} : RC rGcd [.int a, .int b] H (.int ((Nat.gcd a.natAbs b.natAbs : Nat) : Int)) := fun H1 e Q q => ⟨a, b, rfl, q H1 (Ex.refl _)⟩
theorem rc_isi {c : V} {t u : Value} {b : Bool} (k : ClsV c u) (ty : ∀ H1, Ex H H1 → TyX K H1 x t) (hb : PySem.W.kitOne K t u = some b) : RC (rIsi K) [x, c] H (.bl b) := fun H1 e Q q => ⟨x, c, t, u, b, rfl, k, ty H1 e, hb, q H1 (Ex.refl _)⟩
theorem rc_list {xs : List V} (h : SqL K H p xs ∨ SqT K H p xs) : RCL (fun xs H Q => ∃ p ys, xs = [.ref p] ∧ (SqL K H p ys ∨ SqT K H p ys) ∧ ∀ l, H l = none → Q (.ref l) (upd H l (.lst ys))) [.ref p] H xs := fun H1 e Q q =>
  ⟨p, xs, rfl, h.imp (ex_l e) (ex_t e), fun l hl => q l _ hl (Ex.new hl) upd_same⟩
/-- a built-in asked of a list that is new -/
theorem ev_cbL {r : List V → Hp → VK → Prop} {xs : List V} (h : EvL ta σ H xs) (hr : ∀ p H1, Ex H H1 → H1 p = some (.lst xs) → RC r [.ref p] H1 z) : Ev (tCB r (tCons ta tNil)) σ H z := fun H1 e Q q =>
  h H1 e _ fun p H2 _ e2 h2 => hr p H2 (e.trans e2) h2 H2 (Ex.refl _) Q fun H3 e3 => q H3 (e2.trans e3)

theorem q_par {D : Ends} {tz : TS} {i j : Nat} {v w : V} (h : EvA tA σ H [v, w]) (k : ∀ H1, Ex H H1 → tz D ((σ.set i (some v)).set j (some w)) H1) : tSeq (tPar i j tA) tz D σ H := h H (Ex.refl H) _ fun H1 e => ⟨v, w, rfl, k H1 e⟩
theorem s_par {D : Ends} {i j : Nat} {v w : V} (h : EvA tA σ H [v, w]) (k : ∀ H1, Ex H H1 → D.nx ((σ.set i (some v)).set j (some w)) H1) : tPar i j tA D σ H := h H (Ex.refl H) _ fun H1 e => ⟨v, w, rfl, k H1 e⟩
theorem ev_allT {n : Nat} (h : EvL te σ H (given n (fun _ => true) (fun _ => V.bl true))) : Ev (tCB (rAll K) (tCons te tNil)) σ H (.bl true) := ev_cbL h fun p H1 e h1 => by
  have e1 : given n (fun _ => true) (fun _ => V.bl true) = (List.replicate n true).map V.bl := by
    unfold given
    rw [List.filter_eq_self.mpr (fun _ _ => rfl)]
    apply List.ext_getElem <;> simp
  have := rc_all (K := K) (H := H1) (p := p) (bs := List.replicate n true) (sq_of (by rw [← e1]; exact h1))
  have e2 : (List.replicate n true).all id = true := by simp
  rw [e2] at this
  exact this
theorem ev_chain {tc : TE} {r r' : R2} {w : V} (ha : Ev ta σ H x) (hb : Ev tb σ H y) (hr : RV r x y H (.bl true)) (hc : Ev tc σ H w) (hr' : RV r' y w H z) : Ev (tChain r r' ta tb tc) σ H z := fun H1 e Q q =>
  ha H1 e _ fun H2 e2 => hb H2 (e.trans e2) _ fun H3 e3 => hr H3 ((e.trans e2).trans e3) _ fun H4 e4 => ⟨true, rfl, by
    rw [if_pos rfl]
    exact hc H4 (((e.trans e2).trans e3).trans e4) _ fun H5 e5 => hr' H5 ((((e.trans e2).trans e3).trans e4).trans e5) Q fun H6 e6 => q H6 ((((e2.trans e3).trans e4).trans e5).trans e6)⟩
theorem el_lcT {a : Addr} {xs : List V} {tl : TE} {j : Nat} {vs : List Nat} (f : Nat → Bool) (v : Nat → V) (h : Ev tl σ H (.ref a)) (hx : SqT K H a xs) (hz : xs.length ≤ 40000) (hw : ∀ x, wipe ((wipe σ vs).set j (some x)) vs = wipe σ vs)
    (ht : ∀ (i : Nat) (x : V) H1, Ex H H1 → xs[i]? = some x → EvT tt ((wipe σ vs).set j (some x)) H1 (f i)) (he : ∀ (i : Nat) (x : V) H1, Ex H H1 → xs[i]? = some x → f i = true → Ev te ((wipe σ vs).set j (some x)) H1 (v i)) :
    EvL (tLc (iTup K tl) (gName j) tt te vs) σ H (given xs.length f v) := fun H0 e Q q => h H0 e _ fun H1 e1 => ⟨a, rfl, ⟨xs, ex_t (e.trans e1) hx⟩, fun Dl hD =>
  lc_tup (xs := xs) (Cw H1 f v Dl) ⟨hD, Ex.new hD, upd_same⟩ (fun i H' _ p => ex_t ((e.trans e1).trans p.2.1) hx) (fun i x H' hi p => ⟨hw x, cw_turn p (by have := (List.getElem?_eq_some_iff.mp hi).1; omega) (ht i x H1 (e.trans e1) hi) (fun hf => he i x H1 (e.trans e1) hi hf)⟩)
    (fun H' p => q Dl H' (fresh_back e1 p.1) (e1.trans p.2.1) p.2.2)⟩
theorem lc_yes : EvT tYes σ H true := fun H1 _ _ q => q H1 (Ex.refl _)
theorem rv_ixTn {xs : List V} {k : Int} (h : SqT K H p xs) (ha : atI xs k = some v) : RV (rIxT K) (.ref p) (.int k) H v := rv_ixT h ha
section
variable {X : Cx} {e : Expr} {f : Str} {pos : Pos}
theorem ixL (hK : X.K = K) : IxR X (rIxL K) := hK ▸ ix_list
theorem ixT (hK : X.K = K) : IxR X (rIxT K) := hK ▸ ix_tup
theorem lenS (hK : X.K = K) : CallR X (.builtin "len") (fun xs H Q => ∃ p ys, xs = [.ref p] ∧ (SqL K H p ys ∨ SqT K H p ys) ∧ Q (.int (ys.length : Int)) H) := hK ▸ call_len_seq
theorem pe_fldK (hK : X.K = K) (he : PE X e ta) (hb : attributeBase e f X.env (eval e X.env) = eval e X.env) : PE X (.Attribute e f pos) (tFld K ta f) := hK ▸ pe_fld he hb
theorem eqD (hK : X.K = K) (hu : X.A.units + 64 < cLine) : OpR X (compareOp .Eq) (rEqD K) := hK ▸ op_eqD hu
theorem neD (hK : X.K = K) (hu : X.A.units + 64 < cLine) : OpR X (compareOp .NotEq) (rNeD K) := hK ▸ op_neD hu
theorem maxL (hK : X.K = K) (hc : X.calm = true) : CallR X (.builtin "max") (rMax K) := hK ▸ cr_max hc
theorem minL (hK : X.K = K) (hc : X.calm = true) : CallR X (.builtin "min") (rMin K) := hK ▸ cr_min hc
theorem sumL (hK : X.K = K) (hc : X.calm = true) : CallR X (.builtin "sum") (rSum K) := hK ▸ cr_sum hc
theorem allL (hK : X.K = K) (hc : X.calm = true) : CallR X (.builtin "all") (rAll K) := hK ▸ cr_all hc
end
theorem eu_divmod {i j : Int} (ha : Ev ta σ H (.int i)) (hb : Ev tb σ H (.int j)) (h0 : 0 < j) (h1 : j < 1073741824) :
    EvU (tCB (fun xs H Q => ∃ i j, xs = [.int i, .int j] ∧ CDiv i j ∧ ∀ p, H p = none → Q (.ref p) (upd H p (.tup [.int (i / j), .int (i % j)]))) (tCons ta (tCons tb tNil))) σ H [.int (i / j), .int (i % j)] := fun H1 e Q q =>
  ha H1 e _ fun H2 e2 => hb H2 (e.trans e2) _ fun H3 e3 => ⟨i, j, rfl, ⟨h0, h1⟩, fun p hp => q p _ (fresh_back (e2.trans e3) hp) ((e2.trans e3).trans (Ex.new hp)) upd_same⟩
theorem q_asgT2 {D : Ends} {tz : TS} {i j : Nat} {v w : V} (h : EvU te σ H [v, w]) (k : ∀ H1, Ex H H1 → tz D ((σ.set i (some v)).set j (some w)) H1) : tSeq (tAsg te (gTup K 2 (gCons (gName i) (gCons (gName j) gNil)))) tz D σ H :=
  h H (Ex.refl H) _ fun u H1 _ e hu => ⟨u, [v, w], rfl, st_of hu, rfl, _, _, rfl, _, _, rfl, rfl, k H1 e⟩
theorem q_asgG {D : Ends} {tz : TS} {g : TG} {xs : List V} (h : EvU te σ H xs) (k : ∀ p H1, H p = none → Ex H H1 → H1 p = some (.tup xs) → g (.ref p) σ H1 fun σ' H' => tz D σ' H') : tSeq (tAsg te g) tz D σ H := h H (Ex.refl H) _ fun p H1 hp e h1 => k p H1 hp e h1
theorem rv_cat {i j : Str} (h : i.length + j.length ≤ sizeLine) : RV (fun x y H Q => ∃ i j, x = .str i ∧ y = .str j ∧ i.length + j.length ≤ sizeLine ∧ Q (.str (i ++ j)) H) (.str i) (.str j) H (.str (i ++ j)) := fun H1 _ Q q => ⟨i, j, rfl, rfl, h, q H1 (Ex.refl _)⟩
/-! ### comprehensions whose target is a pair -/
section
variable {D : Ends} {f : Nat → Bool} {g : Nat → V} {i j : Nat} {vs : List Nat}
/-- what evaluates to a new list of new pairs (number, item) -/
def EvR (te : TE) (σ : L2.St) (H : Hp) (xs : List V) : Prop := ∀ H1, Ex H H1 → ∀ Q : VK, (∀ (l : Addr) (ts : List Addr) (H2 : Hp), H1 l = none → Ex H1 H2 → H2 l = some (.lst (ts.map V.ref)) → ts.length = xs.length → (∀ (j : Nat) (T : Addr) (x : V), ts[j]? = some T → xs[j]? = some x → H2 T = some (.tup [.int (j : Int), x])) → Q (.ref l) H2) → te σ H1 Q
theorem evr_en {a : Addr} {xs : List V} (h : Ev ta σ H (.ref a)) (hs : SqL K H a xs) : EvR (tListEn K ta) σ H xs := fun H1 e Q q => h H1 e _ fun H2 e2 => ⟨a, xs, rfl, ex_l (e.trans e2) hs, fun l ts H3 hl e3 h3 hz ht => q l ts H3 (fresh_back e2 hl) (e2.trans e3) h3 hz ht⟩
def SpR (sp : Sp) (vs : List V) (H : Hp) (xs : List V) : Prop := ∀ H1, Ex H H1 → ∀ Q : VK, (∀ (l : Addr) (ts : List Addr) (H2 : Hp), H1 l = none → Ex H1 H2 → H2 l = some (.lst (ts.map V.ref)) → ts.length = xs.length → (∀ (j : Nat) (T : Addr) (x : V), ts[j]? = some T → xs[j]? = some x → H2 T = some (.tup [.int (j : Int), x])) → Q (.ref l) H2) → ∀ E : XK, sp vs H1 Q E
theorem evr_meth {m : Str} {sp : Sp} {dvs ws : List V} {E : XK} {fs : List (Str × V)} {xs : List V} (h : Ev ta σ H (.ref p)) (ho : H p = some (.ins C dx fs)) (hl : fs.lookup m = none) (ha : EvA tA σ H ws) (hs : SpR sp (.ref p :: (ws ++ dvs)) H xs) : EvR (tMeth C m sp dvs E ta tA) σ H xs := fun H1 e Q q =>
  h H1 e _ fun H2 e2 => ⟨p, dx, fs, rfl, (e.trans e2) p _ ho, hl, ha H2 (e.trans e2) _ fun H3 e3 => hs H3 ((e.trans e2).trans e3) Q (fun l ts H4 n4 e4 h4 hz ht => q l ts H4 (fresh_back (e2.trans e3) n4) ((e2.trans e3).trans e4) h4 hz ht) E⟩
theorem evd_r {ns : List Int} (h : EvR te σ H (ns.map V.int)) : EvD K te σ H (.list (ns.mapIdx fun j n => .tuple [.int (j : Int), .int n])) := fun H1 e Q q => h H1 e _ fun l ts H2 _ e2 h2 hz ht => by
  refine q _ H2 e2 (.lst (sq_of h2) ?_)
  have key : ∀ (k : Nat) (us : List Addr) (ms : List Int), us.length = ms.length → (∀ (j : Nat) (T : Addr) (n : Int), us[j]? = some T → ms[j]? = some n → H2 T = some (.tup [.int ((k + j : Nat) : Int), .int n])) →
      DpAll K H2 (us.map V.ref) (ms.mapIdx fun j n => .tuple [.int ((k + j : Nat) : Int), .int n]) := by
    intro k us
    induction us generalizing k with
    | nil =>
      intro ms hl _
      cases ms with
      | nil => exact .nil
      | cons m ms => simp at hl
    | cons u us ih =>
      intro ms hl hh
      cases ms with
      | nil => simp at hl
      | cons m ms =>
        rw [List.mapIdx_cons]
        refine .cons (.tup (st_of (hh 0 u m rfl rfl)) (.cons (.int _) (.cons (.int _) .nil))) ?_
        have := ih (k + 1) ms (by simpa using hl) (fun j T n q1 q2 => by
          have := hh (j + 1) T n (by simpa using q1) (by simpa using q2)
          have e1 : k + 1 + j = k + (j + 1) := by omega
          rw [e1]; exact this)
        have e2 : (fun (j : Nat) (n : Int) => PyData.tuple [.int ((k + 1 + j : Nat) : Int), .int n]) = (fun (j : Nat) (n : Int) => PyData.tuple [.int ((k + (j + 1) : Nat) : Int), .int n]) := by
          funext j n
          have e1 : k + 1 + j = k + (j + 1) := by omega
          rw [e1]
        rw [e2] at this
        exact this
  have := key 0 ts ns (by simpa using hz) (fun j T n q1 q2 => by
    have := ht j T (.int n) q1 (by simp [q2])
    rw [Nat.zero_add]; exact this)
  simpa using this
theorem cw_pair {a : Addr} {Dl : Addr} {n : Nat} {H1 Hc : Hp} {i0 : Nat} {k w : V} {σ2 : L2.St} (p : Cw H1 f g Dl i0 Hc) (hi : i0 < 50000) (ht : EvT tt σ2 H1 (f i0)) (he : f i0 = true → Ev te σ2 H1 (g i0)) :
    tt σ2 Hc fun b H3 => if b = true then te σ2 H3 fun y H4 => ∃ acc, H4 Dl = some (.lst acc) ∧ acc.length < sizeLine ∧ Cw H1 f g Dl (i0 + 1) (upd H4 Dl (.lst (acc ++ [y]))) else Cw H1 f g Dl (i0 + 1) H3 := cw_turn p hi ht he
/-- [e for a, b in rows if ..] -/
theorem el_lcR {tl : TE} {xs : List V} (f : Nat → Bool) (g : Nat → V) (h : EvR tl σ H xs) (hz : xs.length ≤ 40000) (hw : ∀ x y, wipe (((wipe σ vs).set i (some x)).set j (some y)) vs = wipe σ vs)
    (ht : ∀ (k : Nat) (x : V) H1, Ex H H1 → xs[k]? = some x → EvT tt (((wipe σ vs).set i (some (.int (k : Int)))).set j (some x)) H1 (f k))
    (he : ∀ (k : Nat) (x : V) H1, Ex H H1 → xs[k]? = some x → f k = true → Ev te (((wipe σ vs).set i (some (.int (k : Int)))).set j (some x)) H1 (g k)) :
    EvL (tLc (iList K tl) (gTup K 2 (gCons (gName i) (gCons (gName j) gNil))) tt te vs) σ H (given xs.length f g) := fun H0 e Q q => h H0 e _ fun a ts H1 ha e1 h1 hl htp => ⟨a, rfl, ⟨ts.map V.ref, sq_of h1⟩, fun Dl hD =>
  lc_list (xs := ts.map V.ref) (Cw H1 f g Dl) ⟨hD, Ex.new hD, upd_same⟩ (fun i0 H' _ p => sq_of (p.2.1 a _ h1)) (fun i0 x0 H' hi p => by
    have hlt : i0 < ts.length := by have := (List.getElem?_eq_some_iff.mp hi).1; simpa using this
    obtain ⟨T, hT⟩ : ∃ T, ts[i0]? = some T := ⟨ts[i0], List.getElem?_eq_getElem hlt⟩
    obtain ⟨w, hw'⟩ : ∃ w, xs[i0]? = some w := ⟨xs[i0]'(by omega), List.getElem?_eq_getElem (by omega)⟩
    have e0 : x0 = V.ref T := by rw [List.getElem?_map, hT] at hi; simpa using hi.symm
    subst e0
    refine ⟨T, [.int (i0 : Int), w], rfl, st_of (p.2.1 T _ (htp i0 T w hT hw')), rfl, _, _, rfl, _, _, rfl, rfl, ?_⟩
    exact ⟨hw _ _, cw_turn p (by omega) (ht i0 w H1 (e.trans e1) hw') (fun hf => he i0 w H1 (e.trans e1) hw' hf)⟩)
    (fun H' p => by
      have e9 : (ts.map V.ref).length = xs.length := by rw [List.length_map, hl]
      rw [e9] at p
      exact q Dl H' (fresh_back e1 p.1) (e1.trans p.2.1) p.2.2)⟩
/-- [e for k, x in enumerate(xs) if ..] -/
theorem el_lcE {a : Addr} {tl : TE} {xs : List V} (f : Nat → Bool) (g : Nat → V) (h : Ev tl σ H (.ref a)) (hs : SqL K H a xs) (hz : xs.length ≤ 40000) (hw : ∀ x y, wipe (((wipe σ vs).set i (some x)).set j (some y)) vs = wipe σ vs)
    (ht : ∀ (k : Nat) (x : V) H1, Ex H H1 → xs[k]? = some x → EvT tt (((wipe σ vs).set i (some (.int (k : Int)))).set j (some x)) H1 (f k))
    (he : ∀ (k : Nat) (x : V) H1, Ex H H1 → xs[k]? = some x → f k = true → Ev te (((wipe σ vs).set i (some (.int (k : Int)))).set j (some x)) H1 (g k)) :
    EvL (tLc (iEnum K (tCons tl tNil)) (gTup K 2 (gCons (gName i) (gCons (gName j) gNil))) tt te vs) σ H (given xs.length f g) := fun H0 e Q q => h H0 e _ fun H1 e1 => by
  have hs1 : SqL K H1 a xs := ex_l (e.trans e1) hs
  refine ⟨a, xs, rfl, hs1, fun Dl hD => ?_⟩
  refine ⟨fun i0 m H' => m = xs.length - i0 ∧ i0 ≤ xs.length ∧ Cw H1 f g Dl i0 H', ⟨xs.length, by simp, Nat.zero_le _, hD, Ex.new hD, upd_same⟩, ?_⟩
  rintro i0 m H' ⟨rfl, hi, pc⟩
  have hs2 : SqL K H' a xs := ex_l pc.2.1 hs1
  by_cases hlt : i0 < xs.length
  · refine .inr ⟨⟨xs, xs[i0], hs2, List.getElem?_eq_getElem hlt⟩, fun H'' => Cw H1 f g Dl (i0 + 1) H'', fun H'' p' => ⟨xs.length - (i0 + 1), by omega, rfl, hlt, p'⟩, fun x0 H'' y => ?_⟩
    obtain ⟨T, w, rfl, hT, rfl, hx⟩ := y
    have hw' := hx xs hs2
    refine ⟨T, [.int (i0 : Int), w], rfl, st_of upd_same, rfl, _, _, rfl, _, _, rfl, rfl, ?_⟩
    have pc2 : Cw H1 f g Dl i0 (upd H' T (.tup [.int (i0 : Int), w])) := ⟨pc.1, pc.2.1.trans (Ex.new hT), by rw [upd_ne (ne_of_none pc.2.2 hT)]; exact pc.2.2⟩
    exact ⟨hw _ _, cw_turn pc2 (by omega) (ht i0 w H1 (e.trans e1) hw') (fun hf => he i0 w H1 (e.trans e1) hw' hf)⟩
  · have e0 : i0 = xs.length := by omega
    subst e0
    exact .inl ⟨⟨xs, hs2, Nat.le_refl _⟩, q Dl H' (fresh_back e1 pc.1) (e1.trans pc.2.1) pc.2.2⟩
end
end G
end
section
set_option maxHeartbeats 2000000
namespace G
open PySem
mutual
def bnd : PyData → Nat
  | .none => 4
  | .bool _ => 5
  | .int _ => 22
  | .str _ => 100000000
  | .list xs => bndAll xs + 2
  | .tuple xs => bndAll xs + 4
  | .dict _ => 100000000
def bndAll : List PyData → Nat
  | [] => 0
  | x :: xs => bnd x + 2 + bndAll xs
end
mutual
def smallD : PyData → Bool
  | .none => true
  | .bool _ => true
  | .int i => decide (i.natAbs < 10 ^ 20)
  | .str _ => false
  | .list xs => smallAll xs
  | .tuple xs => smallAll xs
  | .dict _ => false
def smallAll : List PyData → Bool
  | [] => true
  | x :: xs => smallD x && smallAll xs
end
theorem log_small {n : Nat} (h : n < 10 ^ 20) : n.log2 < 1920 := by
  by_cases h0 : n = 0
  · subst h0; decide
  · refine (Nat.log2_lt h0).mpr (Nat.lt_of_lt_of_le h (by decide))
mutual
theorem small_show : ∀ {d : PyData}, smallD d = true → d.showable = true
  | .none, _ => by simp [PyData.showable]
  | .bool _, _ => by simp [PyData.showable]
  | .int i, h => by simp only [smallD, decide_eq_true_eq] at h; simpa [PyData.showable] using log_small h
  | .str _, h => by simp [smallD] at h
  | .list xs, h => by simp only [smallD] at h; simpa [PyData.showable] using small_showAll h
  | .tuple xs, h => by simp only [smallD] at h; simpa [PyData.showable] using small_showAll h
  | .dict _, h => by simp [smallD] at h
theorem small_showAll : ∀ {ds : List PyData}, smallAll ds = true → PyData.showableAll ds = true
  | [], _ => by simp [PyData.showableAll]
  | d :: ds, h => by
    simp only [smallAll, Bool.and_eq_true] at h
    simp [PyData.showableAll, small_show h.1, small_showAll h.2]
end
theorem cat_len (a b : Str) : (a ++ b).length = a.length + b.length := Str.length_append a b
theorem list_text_len (ts : List Str) : (listText ts).length ≤ piled ts + 2 := by
  rw [listText_eq_join, cat_len, cat_len]
  have e1 : ((("[" : String) : Str)).length = 1 := by decide
  have e2 : ((("]" : String) : Str)).length = 1 := by decide
  by_cases h : ts = []
  · subst h
    have e3 : (Str.join ", " []).length = 0 := by decide
    omega
  · have := join_length_add ts h
    omega
theorem tuple_text_len (ts : List Str) : (tupleText ts).length ≤ piled ts + 4 := by
  unfold tupleText
  rw [cat_len, cat_len]
  have e1 : ((("(" : String) : Str)).length = 1 := by decide
  have e2 : (((if ts.length == 1 then ",)" else ")" : String) : Str)).length ≤ 2 := by split <;> decide
  by_cases h : ts = []
  · subst h
    have e3 : (Str.join ", " []).length = 0 := by decide
    omega
  · have := join_length_add ts h
    omega
mutual
theorem small_len : ∀ {d : PyData}, smallD d = true → d.shown.length ≤ bnd d
  | .none, _ => by simp only [PyData.shown, bnd]; decide
  | .bool b, _ => by simp only [PyData.shown, bnd]; cases b <;> decide
  | .int i, h => by
    simp only [smallD, decide_eq_true_eq] at h
    have := int_text_length_le10 (k := 20) (by decide) h
    simp only [PyData.shown, bnd]
    rw [ofString_length]
    omega
  | .str _, h => by simp [smallD] at h
  | .list xs, h => by
    simp only [smallD] at h
    have := small_lenAll h
    simp only [PyData.shown, bnd]
    exact Nat.le_trans (list_text_len _) (by omega)
  | .tuple xs, h => by
    simp only [smallD] at h
    have := small_lenAll h
    simp only [PyData.shown, bnd]
    exact Nat.le_trans (tuple_text_len _) (by omega)
  | .dict _, h => by simp [smallD] at h
theorem small_lenAll : ∀ {ds : List PyData}, smallAll ds = true → piled (PyData.shownAll ds) ≤ bndAll ds
  | [], _ => by simp [PyData.shownAll, piled, bndAll]
  | d :: ds, h => by
    simp only [smallAll, Bool.and_eq_true] at h
    have h1 := small_len h.1
    have h2 := small_lenAll h.2
    simp only [PyData.shownAll, piled_cons, bndAll]
    omega
end
theorem small_ints {ns : List Int} (h : ∀ n, n ∈ ns → n.natAbs < 10 ^ 20) : smallAll (ns.map PyData.int) = true := by
  induction ns with
  | nil => rfl
  | cons n ns ih =>
    rw [List.map_cons]
    simp only [smallAll, smallD, Bool.and_eq_true, decide_eq_true_eq]
    exact ⟨h n (List.mem_cons_self ..), ih fun m hm => h m (List.mem_cons_of_mem _ hm)⟩
theorem bnd_ints (ns : List Int) : bndAll (ns.map PyData.int) = 24 * ns.length := by
  induction ns with
  | nil => rfl
  | cons n ns ih => rw [List.map_cons, bndAll, ih, List.length_cons, bnd]; omega
end G
end
section
set_option maxHeartbeats 2000000
namespace G
open PySem L2 Evl
/-! ### lists and tuples of pairs of numbers -/
abbrev Row := Int × Int
def rowV (r : Row) : List V := [.int r.1, .int r.2]
def RowsAt (H : Hp) (ts : List Addr) (rs : List Row) : Prop := ts.length = rs.length ∧ ∀ (j : Nat) (T : Addr) (r : Row), ts[j]? = some T → rs[j]? = some r → H T = some (.tup (rowV r))
def RowsL (H : Hp) (a : Addr) (rs : List Row) : Prop := ∃ ts : List Addr, H a = some (.lst (ts.map V.ref)) ∧ RowsAt H ts rs
def RowsU (H : Hp) (a : Addr) (rs : List Row) : Prop := ∃ ts : List Addr, H a = some (.tup (ts.map V.ref)) ∧ RowsAt H ts rs
variable {K : PySem.W.Frag} {σ : L2.St} {H H' : Hp} {ta tb te tl tx : TE} {tt : TT} {x y z v w : V} {p a q C dx : Addr} {tA tr tk : TA} {ts us : List Addr} {rs ss : List Row} {vs : List Nat} {i j : Nat} {Q : VK} {D : Ends} {tz : TS}
theorem RowsAt.mono (h : RowsAt H ts rs) (e : Ex H H') : RowsAt H' ts rs := ⟨h.1, fun j T r a b => e T _ (h.2 j T r a b)⟩
theorem RowsL.mono (h : RowsL H a rs) (e : Ex H H') : RowsL H' a rs := let ⟨ts, h1, h2⟩ := h; ⟨ts, e a _ h1, h2.mono e⟩
theorem RowsU.mono (h : RowsU H a rs) (e : Ex H H') : RowsU H' a rs := let ⟨ts, h1, h2⟩ := h; ⟨ts, e a _ h1, h2.mono e⟩
theorem RowsAt.nil : RowsAt H [] [] := ⟨rfl, fun j T r h => by simp at h⟩
theorem RowsAt.app (h : RowsAt H ts rs) (h2 : RowsAt H us ss) : RowsAt H (ts ++ us) (rs ++ ss) := by
  refine ⟨by rw [List.length_append, List.length_append, h.1, h2.1], fun j T r a b => ?_⟩
  by_cases hj : j < ts.length
  · rw [List.getElem?_append_left hj] at a
    rw [List.getElem?_append_left (by rw [← h.1]; exact hj)] at b
    exact h.2 j T r a b
  · rw [List.getElem?_append_right (by omega)] at a
    rw [List.getElem?_append_right (by rw [← h.1]; omega), ← h.1] at b
    exact h2.2 _ T r a b
theorem RowsAt.one {T : Addr} {r : Row} (h : H T = some (.tup (rowV r))) : RowsAt H [T] [r] := ⟨rfl, fun j U s a b => by
  cases j with
  | zero => simp at a b; subst a; subst b; exact h
  | succ j => simp at a⟩
theorem RowsAt.rev (h : RowsAt H ts rs) : RowsAt H ts.reverse rs.reverse := by
  refine ⟨by rw [List.length_reverse, List.length_reverse, h.1], fun j T r a b => ?_⟩
  have hj : j < ts.length := by have := (List.getElem?_eq_some_iff.mp a).1; simpa using this
  rw [List.getElem?_reverse hj] at a
  rw [List.getElem?_reverse (by rw [← h.1]; exact hj), ← h.1] at b
  exact h.2 _ T r a b
theorem RowsAt.rep {T : Addr} {r : Row} (n : Nat) (h : H T = some (.tup (rowV r))) : RowsAt H (List.replicate n T) (List.replicate n r) := ⟨by simp, fun j U s a b => by
  obtain ⟨_, rfl⟩ := List.mem_replicate.mp (List.mem_of_getElem? a)
  obtain ⟨_, rfl⟩ := List.mem_replicate.mp (List.mem_of_getElem? b)
  exact h⟩
theorem RowsAt.get (h : RowsAt H ts rs) {k : Nat} {y : V} (hy : (ts.map V.ref)[k]? = some y) : ∃ T r, y = .ref T ∧ rs[k]? = some r ∧ H T = some (.tup (rowV r)) := by
  rw [List.getElem?_map] at hy
  obtain ⟨T, hT, rfl⟩ := Option.map_eq_some_iff.mp hy
  have hk : k < rs.length := by rw [← h.1]; exact (List.getElem?_eq_some_iff.mp hT).1
  exact ⟨T, rs[k], rfl, List.getElem?_eq_getElem hk, h.2 k T _ hT (List.getElem?_eq_getElem hk)⟩
theorem RowsAt.at (h : RowsAt H ts rs) {k : Nat} {r : Row} (hr : rs[k]? = some r) : ∃ T, (ts.map V.ref)[k]? = some (.ref T) ∧ H T = some (.tup (rowV r)) := by
  have hk : k < ts.length := by rw [h.1]; exact (List.getElem?_eq_some_iff.mp hr).1
  exact ⟨ts[k], by rw [List.getElem?_map, List.getElem?_eq_getElem hk] <;> rfl, h.2 k _ r (List.getElem?_eq_getElem hk) hr⟩
theorem given_rows {f : Row → V} : given rs.length (fun _ => true) (fun k => f (rs.getD k (0, 0))) = rs.map f := by
  unfold given
  rw [List.filter_eq_self.mpr (fun _ _ => rfl)]
  apply List.ext_getElem
  · simp
  · intro k h1 h2
    have hk : k < rs.length := by simpa using h2
    simp [List.getD_eq_getElem?_getD, List.getElem?_eq_getElem hk]
theorem getD_row {k : Nat} {r : Row} (h : rs[k]? = some r) : rs.getD k (0, 0) = r := by rw [List.getD_eq_getElem?_getD, h] <;> rfl
/-- [e for row in rows] -/
theorem el_rowsL (f : Row → V) (h : Ev tl σ H (.ref a)) (hs : RowsL H a rs) (hz : rs.length ≤ 40000) (hw : ∀ x, wipe ((wipe σ vs).set j (some x)) vs = wipe σ vs)
    (he : ∀ (T : Addr) (r : Row) H1, Ex H H1 → r ∈ rs → H1 T = some (.tup (rowV r)) → Ev te ((wipe σ vs).set j (some (.ref T))) H1 (f r)) : EvL (tLc (iList K tl) (gName j) tYes te vs) σ H (rs.map f) := by
  obtain ⟨ts, h1, h2⟩ := hs
  have e0 : (ts.map V.ref).length = rs.length := by rw [List.length_map, h2.1]
  rw [← given_rows, ← e0]
  refine el_lcL (fun _ => true) (fun k => f (rs.getD k (0, 0))) h (sq_of h1) (by omega) hw (fun _ _ _ _ _ => lc_yes) (fun k y H1 e1 hk _ => ?_)
  obtain ⟨T, r, rfl, hr, hT⟩ := h2.get hk
  rw [getD_row hr]
  exact he T r H1 e1 (List.mem_of_getElem? hr) (e1 T _ hT)
theorem el_rowsU (f : Row → V) (h : Ev tl σ H (.ref a)) (hs : RowsU H a rs) (hz : rs.length ≤ 40000) (hw : ∀ x, wipe ((wipe σ vs).set j (some x)) vs = wipe σ vs)
    (he : ∀ (T : Addr) (r : Row) H1, Ex H H1 → r ∈ rs → H1 T = some (.tup (rowV r)) → Ev te ((wipe σ vs).set j (some (.ref T))) H1 (f r)) : EvL (tLc (iTup K tl) (gName j) tYes te vs) σ H (rs.map f) := by
  obtain ⟨ts, h1, h2⟩ := hs
  have e0 : (ts.map V.ref).length = rs.length := by rw [List.length_map, h2.1]
  rw [← given_rows, ← e0]
  refine el_lcT (fun _ => true) (fun k => f (rs.getD k (0, 0))) h (st_of h1) (by omega) hw (fun _ _ _ _ _ => lc_yes) (fun k y H1 e1 hk _ => ?_)
  obtain ⟨T, r, rfl, hr, hT⟩ := h2.get hk
  rw [getD_row hr]
  exact he T r H1 e1 (List.mem_of_getElem? hr) (e1 T _ hT)
/-- [e for a, b in rows] -/
theorem el_rows2L (f : Row → V) (h : Ev tl σ H (.ref a)) (hs : RowsL H a rs) (hz : rs.length ≤ 40000) (hw : ∀ x y, wipe (((wipe σ vs).set i (some x)).set j (some y)) vs = wipe σ vs)
    (he : ∀ (r : Row) H1, Ex H H1 → r ∈ rs → Ev te (((wipe σ vs).set i (some (.int r.1))).set j (some (.int r.2))) H1 (f r)) : EvL (tLc (iList K tl) (gTup K 2 (gCons (gName i) (gCons (gName j) gNil))) tYes te vs) σ H (rs.map f) := fun H0 e Q q => h H0 e _ fun H1 e1 => by
  obtain ⟨ts, h1, h2⟩ := hs
  have e0 : (ts.map V.ref).length = rs.length := by rw [List.length_map, h2.1]
  have hs1 := (e.trans e1) a _ h1
  have h21 := h2.mono (e.trans e1)
  refine ⟨a, rfl, ⟨_, sq_of hs1⟩, fun Dl hD => lc_list (xs := ts.map V.ref) (Cw H1 (fun _ => true) (fun k => f (rs.getD k (0, 0))) Dl) ⟨hD, Ex.new hD, upd_same⟩ (fun k H' _ p => sq_of (p.2.1 a _ hs1)) (fun k y H' hi p => ?_) (fun H' p => ?_)⟩
  · obtain ⟨T, r, rfl, hr, hT⟩ := h21.get hi
    have hk : k < rs.length := (List.getElem?_eq_some_iff.mp hr).1
    refine ⟨T, _, rfl, st_of (p.2.1 T _ hT), rfl, _, _, rfl, _, _, rfl, rfl, hw _ _, cw_turn p (by omega) lc_yes (fun _ => ?_)⟩
    rw [getD_row hr]
    exact he r H1 (e.trans e1) (List.mem_of_getElem? hr)
  · rw [e0] at p
    refine q Dl H' (fresh_back e1 p.1) (e1.trans p.2.1) ?_
    rw [p.2.2, given_rows]
theorem el_rows2U (f : Row → V) (h : Ev tl σ H (.ref a)) (hs : RowsU H a rs) (hz : rs.length ≤ 40000) (hw : ∀ x y, wipe (((wipe σ vs).set i (some x)).set j (some y)) vs = wipe σ vs)
    (he : ∀ (r : Row) H1, Ex H H1 → r ∈ rs → Ev te (((wipe σ vs).set i (some (.int r.1))).set j (some (.int r.2))) H1 (f r)) : EvL (tLc (iTup K tl) (gTup K 2 (gCons (gName i) (gCons (gName j) gNil))) tYes te vs) σ H (rs.map f) := fun H0 e Q q => h H0 e _ fun H1 e1 => by
  obtain ⟨ts, h1, h2⟩ := hs
  have e0 : (ts.map V.ref).length = rs.length := by rw [List.length_map, h2.1]
  have hs1 := (e.trans e1) a _ h1
  have h21 := h2.mono (e.trans e1)
  refine ⟨a, rfl, ⟨_, st_of hs1⟩, fun Dl hD => lc_tup (xs := ts.map V.ref) (Cw H1 (fun _ => true) (fun k => f (rs.getD k (0, 0))) Dl) ⟨hD, Ex.new hD, upd_same⟩ (fun k H' _ p => st_of (p.2.1 a _ hs1)) (fun k y H' hi p => ?_) (fun H' p => ?_)⟩
  · obtain ⟨T, r, rfl, hr, hT⟩ := h21.get hi
    have hk : k < rs.length := (List.getElem?_eq_some_iff.mp hr).1
    refine ⟨T, _, rfl, st_of (p.2.1 T _ hT), rfl, _, _, rfl, _, _, rfl, rfl, hw _ _, cw_turn p (by omega) lc_yes (fun _ => ?_)⟩
    rw [getD_row hr]
    exact he r H1 (e.trans e1) (List.mem_of_getElem? hr)
  · rw [e0] at p
    refine q Dl H' (fresh_back e1 p.1) (e1.trans p.2.1) ?_
    rw [p.2.2, given_rows]
/-- all(..) of such a list -/
theorem rc_allR {f : Row → Bool} (h : H p = some (.lst (rs.map fun r => V.bl (f r)))) : RC (rAll K) [.ref p] H (.bl (rs.all f)) := by
  have := rc_all (K := K) (H := H) (p := p) (bs := rs.map f) (sq_of (by rw [List.map_map]; exact h))
  have e2 : (rs.map f).all id = rs.all f := by rw [List.all_map]; rfl
  rw [e2] at this
  exact this

/-! ### what evaluates to a new list of pairs -/
def EvP (te : TE) (σ : L2.St) (H : Hp) (rs : List Row) : Prop := ∀ H1, Ex H H1 → ∀ Q : VK, (∀ p H2, H1 p = none → Ex H1 H2 → RowsL H2 p rs → Q (.ref p) H2) → te σ H1 Q
def SpP (sp : Sp) (vs : List V) (H : Hp) (rs : List Row) : Prop := ∀ H1, Ex H H1 → ∀ Q : VK, (∀ p H2, H1 p = none → Ex H1 H2 → RowsL H2 p rs → Q (.ref p) H2) → ∀ E : XK, sp vs H1 Q E
theorem q_asgP (h : EvP te σ H rs) (k : ∀ p H1, H p = none → Ex H H1 → RowsL H1 p rs → tz D (σ.set i (some (.ref p))) H1) : tSeq (tAsg te (gName i)) tz D σ H := h H (Ex.refl H) _ k
/-- a list whose elements are those of others -/
theorem evp_of {xs : List V} (h : EvL te σ H xs) (hx : ∀ H1, Ex H H1 → ∃ ts, xs = ts.map V.ref ∧ RowsAt H1 ts rs) : EvP te σ H rs := fun H1 e Q q => h H1 e Q fun p H2 hp e2 h2 => by
  obtain ⟨ts, rfl, hr⟩ := hx H2 (e.trans e2)
  exact q p H2 hp e2 ⟨ts, h2, hr⟩
/-- list(rows) -/
theorem evp_list (h : Ev ta σ H (.ref a)) (hs : RowsL H a rs) : EvP (tCB (fun xs H Q => ∃ p ys, xs = [.ref p] ∧ (SqL K H p ys ∨ SqT K H p ys) ∧ ∀ l, H l = none → Q (.ref l) (upd H l (.lst ys))) (tCons ta tNil)) σ H rs := by
  obtain ⟨ts, h1, h2⟩ := hs
  exact evp_of (el_cb (ea_cons h ea_nil) (rc_list (.inl (sq_of h1)))) fun H1 e => ⟨ts, rfl, h2.mono e⟩
/-- rows[::-1] -/
theorem evp_rev (h : Ev ta σ H (.ref a)) (hs : RowsL H a rs) : EvP (tRevL K ta) σ H rs.reverse := fun H1 e Q q => h H1 e _ fun H2 e2 => by
  obtain ⟨ts, h1, h2⟩ := hs
  refine ⟨a, _, rfl, sq_of ((e.trans e2) a _ h1), fun p hp => q p _ (fresh_back e2 hp) (e2.trans (Ex.new hp)) ⟨ts.reverse, by rw [upd_same, List.map_reverse], (h2.mono ((e.trans e2).trans (Ex.new hp))).rev⟩⟩
/-- rows + more -/
theorem evp_cat (ha : Ev ta σ H (.ref a)) (hb : Ev tb σ H (.ref q)) (hs : RowsL H a rs) (hr : RowsL H q ss) (hz : rs.length + ss.length ≤ 100000) : EvP (tOp rCat ta tb) σ H (rs ++ ss) := fun H1 e Q k => ha H1 e _ fun H2 e2 => hb H2 (e.trans e2) _ fun H3 e3 => by
  obtain ⟨ts, h1, h2⟩ := hs
  obtain ⟨us, g1, g2⟩ := hr
  have e03 := (e.trans e2).trans e3
  refine ⟨a, q, _, _, rfl, rfl, e03 a _ h1, e03 q _ g1, sz_of (by rw [List.length_map, List.length_map, h2.1, g2.1]; exact hz), fun p hp => k p _ (fresh_back (e2.trans e3) hp) ((e2.trans e3).trans (Ex.new hp)) ⟨ts ++ us, by rw [upd_same, List.map_append], ?_⟩⟩
  exact (h2.mono (e03.trans (Ex.new hp))).app (g2.mono (e03.trans (Ex.new hp)))
/-- [row] -/
theorem evp_one {r : Row} (h : Ev ta σ H (.ref q)) (hq : H q = some (.tup (rowV r))) : EvP (tLst (tCons ta tNil)) σ H [r] := evp_of (el_lst (ea_cons h ea_nil) (by show 1 ≤ 100000; decide)) fun H1 e => ⟨[q], rfl, .one (e q _ hq)⟩
theorem flat_rep {v : V} : ∀ n : Nat, (List.replicate n [v]).flatten = List.replicate n v
  | 0 => rfl
  | n + 1 => by rw [List.replicate_succ, List.replicate_succ, List.flatten_cons, List.singleton_append, flat_rep n]
/-- [row] * n -/
theorem evp_rep {r : Row} {n : Nat} (h : Ev ta σ H (.ref q)) (hq : H q = some (.tup (rowV r))) (hb : Ev tb σ H (.int (n : Int))) (hn : n ≤ 10000) : EvP (tOp rRep (tLst (tCons ta tNil)) tb) σ H (List.replicate n r) := fun H1 e Q k => by
  refine (el_lst (ea_cons h ea_nil) (by show 1 ≤ 100000; decide)) H1 e _ fun p H2 hp e2 h2 => ?_
  refine hb H2 (e.trans e2) _ fun H3 e3 => ?_
  refine ⟨p, (n : Int), [.ref q], rfl, rfl, e3 p _ h2, by omega, by omega, by rw [Int.toNat_natCast]; exact sz_of (by show 1 * n ≤ 100000; omega), fun u hu => ?_⟩
  refine k u _ (fresh_back (e2.trans e3) hu) ((e2.trans e3).trans (Ex.new hu)) ⟨List.replicate n q, ?_, .rep n (((e.trans e2).trans e3).trans (Ex.new hu) |> fun z => z q _ hq)⟩
  rw [upd_same, Int.toNat_natCast, List.map_replicate]
  rw [flat_rep]
/-- tuple(rows) -/
def EvPU (te : TE) (σ : L2.St) (H : Hp) (rs : List Row) : Prop := ∀ H1, Ex H H1 → ∀ Q : VK, (∀ p H2, H1 p = none → Ex H1 H2 → RowsU H2 p rs → Q (.ref p) H2) → te σ H1 Q
theorem evpu_tuple (h : Ev ta σ H (.ref a)) (hs : RowsL H a rs) : EvPU (tCB (fun xs H Q => ∃ p ys, xs = [.ref p] ∧ ((SqL K H p ys ∧ ∀ l, H l = none → Q (.ref l) (upd H l (.tup ys))) ∨ (SqT K H p ys ∧ Q (.ref p) H))) (tCons ta tNil)) σ H rs := fun H1 e Q q =>
  h H1 e _ fun H2 e2 => by
    obtain ⟨ts, h1, h2⟩ := hs
    exact ⟨a, _, rfl, .inl ⟨sq_of ((e.trans e2) a _ h1), fun l hl => q l _ (fresh_back e2 hl) (e2.trans (Ex.new hl)) ⟨ts, upd_same, h2.mono ((e.trans e2).trans (Ex.new hl))⟩⟩⟩
end G
end
section
set_option maxHeartbeats 2000000
namespace G
open PySem PySem.Spec PyProof.Rows L2

/-! ### the end of a law whose promise is told where no repr is running -/
section
variable {P : Program} {w : World} {K : PySem.W.Frag} {mg mb : Str → Option Value} {CX : CXT} {k : Nat} {fa a : Addr} {fd : FuncData} {x : Str} {sp : Sp} {s₁ : Shared} {vs : List Value} {ns : List Int}
def scrObj (vs : List Value) : Obj := { cls := .type "list", data := .seq vs.toArray }
/-- the script alone, if the module does not know it -/
def scrHp (K : PySem.W.Frag) (a : Addr) (vs : List Value) (ns : List Int) : Hp := fun b => if b = a ∧ (K.lookup a).isNone = true then some (.frz (scrObj vs) (.lst (ns.map V.int))) else none
theorem scr_some {b : Addr} {u : HO} (h : scrHp K a vs ns b = some u) : (b = a ∧ (K.lookup a).isNone = true) ∧ u = .frz (scrObj vs) (.lst (ns.map V.int)) := by
  unfold scrHp at h
  by_cases q : b = a ∧ (K.lookup a).isNone = true
  · rw [if_pos q] at h
    exact ⟨q, (Option.some.inj h).symm⟩
  · rw [if_neg q] at h
    cases h
theorem scr_off {b : Addr} (h : ¬ (b = a ∧ (K.lookup a).isNone = true)) : scrHp K a vs ns b = none := if_neg h
theorem scr_only : Only (scrHp K a vs ns) := fun b => by
  cases q : scrHp K a vs ns b with
  | none => exact .inl rfl
  | some u => exact .inr ⟨_, _, by rw [(scr_some q).2]⟩
theorem scr_sq (KX : K.In s₁.heap) (ha : s₁.heap.get? a = some (scrObj vs)) (rv : Vals (ns.map V.int) vs) (hlen : vs.length = ns.length) (hl : ns.length ≤ sizeLine) : SqL K (scrHp K a vs ns) a (ns.map V.int) := by
  cases q : K.lookup a with
  | none => exact .inl (.inr ⟨scrObj vs, if_pos ⟨rfl, by rw [q]; rfl⟩⟩)
  | some o =>
    have e := KX a o q
    rw [ha] at e
    cases e
    exact .inr ⟨_, vs.toArray, _, q, rfl, rfl, rfl, by simpa [hlen] using hl, by simpa using rv⟩
theorem law_true (KX : K.In s₁.heap) (hns : s₁.heap.Ns mainGlobals mg) (hb : s₁.heap.Ns builtinsNs mb) (hbb : ∀ x : Str, x ≠ "__name__" → mb x = bootBuiltins x) (hlim : s₁.heap.NoLimit) (hg : s₁.gens = #[])
    (ha : s₁.heap.get? a = some (scrObj vs)) (hi : IntsAre vs ns) (hl : ns.length ≤ sizeLine) (hr : Room k callerA)
    (F : ∀ base : Heap, K.In base → base.Ns mainGlobals mg → FnG P w K mg base CX k fa fd [x] sp) (hbind : ∀ (s : Shared) (u : Value), BindsTo s fd ⟨[u], []⟩ [(x, u)])
    (hsp : ∀ H : Hp, Only H → SqL K H a (ns.map V.int) → sp [.ref a] H (fun v _ => v = .bl true) fun _ _ _ => False) (hCX : ∀ H e s', CX [] H s₁ (fun _ _ _ => False) e s' → False) :
    codeAny (model P w) callerA (.call (.ref fa) ⟨[.ref a], []⟩) (fun r s' => r = .ok (.ret (.bool true)) ∧ OldK s₁.heap s'.heap ∧ s'.os = s₁.os ∧ AllBare s'.gens) s₁ := by
  have rv := vals_ints hi
  have hok : HOk P w (scrHp K a vs ns) s₁.heap := fun b u z => by
    obtain ⟨⟨rfl, _⟩, rfl⟩ := scr_some z
    exact ⟨ha, by rw [List.length_map]; exact hl, vs, _, rv, ha⟩
  have keepK : ∀ {b : Addr} {o : Obj}, K.lookup b = some o → (hidT s₁.heap (scrHp K a vs ns)).get? b = some o := fun {b o} e => hidT_get (KX b o e) (scr_off fun q => by
    obtain ⟨rfl, q2⟩ := q
    rw [e] at q2
    cases q2)
  have keepN : ∀ {b : Addr} {m : Str → Option Value}, s₁.heap.Ns b m → (hidT s₁.heap (scrHp K a vs ns)).Ns b m := by
    rintro b m ⟨o, es, ep, e, d, r⟩
    refine ⟨o, es, ep, hidT_get e (scr_off fun q => ?_), d, r⟩
    obtain ⟨rfl, _⟩ := q
    rw [ha] at e
    cases e
    cases (show Data.seq vs.toArray _ = Data.dict es ep from d)
  have inK : K.In (hidT s₁.heap (scrHp K a vs ns)) := fun b o e => keepK e
  have M : Mod K mg (hidT s₁.heap (scrHp K a vs ns)) := ⟨inK, keepN hns, ⟨mb, keepN hb, hbb⟩, by obtain ⟨mc, q1, q2⟩ := hlim; exact ⟨mc, keepN q1, q2⟩⟩
  have out : ∀ b : Addr, b ∉ ([] : List Addr) := fun b q => nomatch q
  have env : Env0 P w K mg (hidT s₁.heap (scrHp K a vs ns)) callerA [] s₁ (scrHp K a vs ns) := { frames := rfl, mod := M, bs := fun b o e => of_hidT e, bsz := Nat.le_of_eq (hidT_size _ _), funs := trivial, frf := fun b q => (out b q).elim, hok := hok, bare := .of_eq hg }
  have go := (F _ inK (keepN hns)).run callerA [] s₁ (scrHp K a vs ns) ⟨[.ref a], []⟩ [.ref a] [.ref a] _ _ rfl hr env (hbind s₁ (.ref a)) (.cons rfl .nil) (hsp _ scr_only (scr_sq KX ha rv hi.length hl))
  refine codeAny_mono go fun r s' h => ?_
  match r, h with
  | .error e, h => exact (hCX _ e s' h).elim
  | .ok .next, h => exact h.elim
  | .ok .brk, h => exact h.elim
  | .ok .cont, h => exact h.elim
  | .ok (.ret u), h =>
    obtain ⟨v, H', os, bare, un, hok', r', rfl⟩ := h
    cases r'
    refine ⟨rfl, OldK.of_keep fun b o e => ?_, os, bare⟩
    cases q : scrHp K a vs ns b with
    | none => exact un.keep b o e q (out b) (by simp)
    | some u =>
      have q2 := (scr_some q).2
      subst q2
      have z1 := (hok b _ q).1
      have z2 := (hok' b _ (un.frzs b _ _ q)).1
      rw [e] at z1
      cases z1
      exact z2
end
theorem walkG {l : PySem.W.OpenLaw} {n k : Nat} {q : Program} {loose : List Str} {XP : (Str → Option Value) → Heap → Prop} {YP : World → Heap → Prop} {d : DefRec} {K : Params → PySem.W.Frag} {CX : CXT} {sp : PySem.W.Frag → Sp} {x : Str}
    (hn : l.most = some n) (hn2 : n ≤ sizeLine) (hdf : d.params.defaults = []) (hr : Room k callerA) (hY : ∀ (w : World) (h : Heap), YP w h → (K w.params).In h)
    (F : ∀ (w : World) (mg : Str → Option Value) (fa : Addr) (h : Heap), (K w.params).In h → h.Ns mainGlobals mg → mg d.name = some (.ref fa) → ∃ fd : FuncData, (∀ (s : Shared) (u : Value), BindsTo s fd ⟨[u], []⟩ [(x, u)]) ∧ ∀ base : Heap, (K w.params).In base → base.Ns mainGlobals mg → FnG l.prog w (K w.params) mg base CX k fa fd [x] (sp (K w.params)))
    (hsp : ∀ (K : PySem.W.Frag) (H : Hp) (a : Addr) (ns : List Int), ns.length ≤ n → Only H → SqL K H a (ns.map V.int) → sp K [.ref a] H (fun v _ => v = .bl true) fun _ _ _ => False)
    (hCX : ∀ (H : Hp) (s : Shared) (e : Value) (s' : Shared), CX [] H s (fun _ _ _ => False) e s' → False) : PySem.W.WalkO q loose XP YP l.row.toRowW d [] (fun f vs => PySem.call f vs) :=
  Att.attach_call hn hdf fun w s₀ s₁ mg mb fa o pm cd doc a vs ns G Y ho hd hcd hmg hobj hints hlen hg => by
    have KX := hY w _ Y
    obtain ⟨fd, hb, hF⟩ := F w mg fa _ KX G.T.g hmg
    exact law_true KX G.T.g G.T.b G.T.builtins G.T.nolimit hg hobj hints (Nat.le_trans hlen hn2) hr hF hb (fun H hO hS => hsp _ H a ns hlen hO hS) fun H e s' => hCX H s₁ e s'
/-- a def called with keywords, no defaults -/
theorem kb_of {K : PySem.W.Frag} {x qual : Str} {st : Stmt} {f : Addr} {fd : FuncData} {ps ks : List Str} {n : Nat} {g : List Value → List Value → List Value} {gV : List V → List V → List V} (F : Fun K x qual st f fd)
    (h : ∀ (kV doc pm : Value) (an : Option Addr) (cdv ct : Value) (us ws : List Value), us.length = n → ws.length = ks.length → bindArgs (PySem.W.fnOf x qual (defArgs st) (defBody st) (defScope st) .none kV doc pm an cdv ct) ⟨us, ks.zip ws⟩ = pure (ps.zip (g us ws)))
    (hrel : ∀ {vs : List V} {us : List Value} {zs : List V} {ws : List Value}, Vals vs us → Vals zs ws → Vals (gV vs zs) (g us ws)) : KBn K fd ps n ks g gV := by
  obtain ⟨oc, od, kV, doc, pm, an, cdv, ct, osl, rfl, lk, hcd⟩ := F.ex
  exact ⟨fun s us ws _ h1 h2 => BindsTo.of_looks fun M => by rw [h kV doc pm an cdv ct us ws h1 h2]; exact PySem.W.Looks.now, hrel⟩
theorem vals_rev : ∀ {vs : List V} {us : List Value}, Vals vs us → Vals vs.reverse us.reverse
  | _, _, .nil => .nil
  | _, _, .cons a b => by rw [List.reverse_cons, List.reverse_cons]; exact (vals_rev b).append (.cons a .nil)
end G
end
section
set_option maxHeartbeats 4000000
/-! own errors over any built-in one -/
namespace G
open PySem PySem.W PySem.Calls PyProof.Rows PySem.HandSPX PySem.OEX
section
open Builtin Builtin.ObjectAttr
structure Tail (tl : List Value) : Prop where
  pass : ∀ self, refuseLoop self "__setattr__" tl = pure ()
  ne : tl.isEmpty = false
  ob : tl.contains (.type "object") = true
theorem tail_arith : Tail [.type "ArithmeticError", .type "Exception", .type "BaseException", .type "object"] := ⟨fun self => by kernel_rfl, rfl, by decide +kernel⟩
theorem tail_lookup : Tail [.type "LookupError", .type "Exception", .type "BaseException", .type "object"] := ⟨fun self => by kernel_rfl, rfl, by decide +kernel⟩
theorem tail_value : Tail [.type "ValueError", .type "Exception", .type "BaseException", .type "object"] := ⟨fun self => by kernel_rfl, rfl, by decide +kernel⟩
def Over (tl bm : List Value) : Prop := ∃ cs : List Addr, bm = cs.map Value.ref ++ tl
theorem Over.cons {tl bm : List Value} (h : Over tl bm) (C : Addr) : Over tl (.ref C :: bm) := let ⟨cs, e⟩ := h; ⟨C :: cs, by rw [e]; rfl⟩
theorem Over.pass {tl bm : List Value} (T : Tail tl) (h : Over tl bm) (self : Value) : refuseLoop self "__setattr__" bm = pure () := by
  obtain ⟨cs, rfl⟩ := h
  induction cs with
  | nil => exact T.pass self
  | cons c cs ih => rw [List.map_cons, List.cons_append, refuseLoop_ref]; exact ih
theorem Over.has {tl bm : List Value} (h : Over tl bm) (X : String) : bm.contains (.type X) = tl.contains (.type X) := by
  obtain ⟨cs, rfl⟩ := h
  induction cs with
  | nil => rfl
  | cons c cs ih => rw [List.map_cons, List.cons_append, List.contains_cons, ih]; rfl
theorem Over.ne {tl bm : List Value} (T : Tail tl) (h : Over tl bm) : bm.isEmpty = false := by
  obtain ⟨cs, rfl⟩ := h
  cases cs with
  | nil => exact T.ne
  | cons c cs => rfl
variable {prog : Program} {w : World} {A : Around} {R : Result → Shared → Prop} {hp : Heap} {g : Array GenState} {d : Drawn} {t : Nat} {os : OsState} {K : Frag} {name : Str} {tk : Tok} {v : Value} {x C dx : Addr} {fv : Array Value} {cd : ClassData} {m0 : Str → Option Value} {nl : List Str} {tl : List Value} {od : Option Addr} {oo : Option Obj}
/-- what comes ahead of the store itself -/
theorem osa_way (T : Tail tl) (X : K.In hp) (I : InstAt hp x { cls := .ref C, dict := od, data := .fields fv } C oo) (hcd : clsIn K C = some cd) (hm : Over tl cd.mro) (ha : findIn K (.ref C) name = some none)
    (h : wpAny (model prog w) A.in1 (storeInOwnDict (.ref x) (.ref C) (.str name tk) name v false) (fun fin s' => match fin with
      | .done f => R (.ok f) s'
      | .again c' => c'.quiet = true ∧ codeAny (model prog w) A c' R s') (fun e s' => R (.error e) s') ⟨hp, g, d, t, os⟩) :
    codeAny (model prog w) A (.call (.builtin "object.__setattr__") ⟨[.ref x, .str name tk, v], []⟩) R ⟨hp, g, d, t, os⟩ := by
  have SF := F.store_object
  have hob : cd.mro.contains (.type "object") = true := (hm.has "object").trans T.ob
  have sub : Looks (model prog w) hp (isInstance (.ref x) (.type "object")) true := I.type.andThen (looks_mroIn X (by unfold mroIn; rw [hcd, Option.bind_some, if_neg (by rw [hm.ne T]; decide), hob]))
  refine codeAny_call_builtin SF.slot.plain SF.entry (@check_slot (model prog w) _ _ ⟨hp, g, d, t, os⟩ "object.__setattr__" "object" "__setattr__" (.ref x) [.str name tk, v] [] _ SF.kind SF.split sub (SF.args (.ref x) (.str name tk) v) ?_)
  have hmr : Looks (model prog w) hp (mroOf (.ref C)) cd.mro := (looks_clsIn X hcd).andThen .now
  rw [osa_eq, refuse_eq]
  refine wpAny_bind (wpAny_bind (I.type.at (wpAny_bind (hmr.at ?_))))
  rw [hm.pass T]
  exact wpAny_pure (wpAny_bind (I.type.at (wpAny_bind ((looks_findIn X ha).at (wpAny_bind ((Looks.now : Looks (model prog w) hp (storeTaker? none) none).at h))))))
/-- x.name = v, x an error of the class at C that has no dict as yet -/
theorem osa_first (T : Tail tl) (X : K.In hp) (hx : hp.get? x = some { cls := .ref C, data := .fields fv }) (hcd : clsIn K C = some cd) (hm : Over tl cd.mro) (hh : cd.hasDict = true) (ha : findIn K (.ref C) name = some none)
    (hq : ∀ h' tk' dx, (∀ b o, b ≠ x → hp.get? b = some o → h'.get? b = some o) → hp.objs.size ≤ dx → dx ≠ x → h'.get? x = some { cls := .ref C, dict := some dx, data := .fields fv } →
      h'.Ns1 dx (fun y => if y = name then some v else none) → R (.ok (.ret .none)) ⟨h', g, d, tk', os⟩) :
    codeAny (model prog w) A (.call (.builtin "object.__setattr__") ⟨[.ref x, .str name tk, v], []⟩) R ⟨hp, g, d, t, os⟩ := by
  refine osa_way (od := none) (oo := none) T X ⟨hx, rfl, rfl, trivial⟩ hcd hm ha ?_
  have hxs : x ≠ hp.objs.size := Nat.ne_of_lt (Heap.lt_size hx)
  have hcls := looks_clsIn (M := model prog w) X hcd
  obtain ⟨nm, bs, mro, ns, qn, hd, sn, sb, ab, col, del⟩ := cd
  dsimp only at hh
  subst hh
  unfold storeInOwnDict ownDictForStores
  repeat (first | with_reducible refine store_in_new ?_ ?_ | with_reducible refine wpAny_loadPart_at hx ?_ | with_reducible refine hcls.at ?_ | wp_step)
  · exact ⟨_, #[], _, (Heap.get?_update_ne _ _ _ _ hxs.symm).trans (Heap.get?_push_at rfl rfl), rfl, fun e he => absurd he (by simp), fun _ => rfl⟩
  · intro h' tk' hn' hs
    refine hq h' tk' hp.objs.size (fun b o hb ho => ?_) (Nat.le_refl _) hxs.symm ?_ hn'
    · exact (hs.2 b (Nat.ne_of_lt (Heap.lt_size ho))).trans ((Heap.get?_update_ne _ _ _ _ hb).trans (Heap.get?_push_of_some _ ho))
    · exact (hs.2 x hxs).trans (Heap.get?_update_self _ (Heap.get?_push_of_some _ hx) rfl)
/-- .. that has one -/
theorem osa_more (T : Tail tl) (X : K.In hp) (hx : hp.get? x = some { cls := .ref C, dict := some dx, data := .fields fv }) (hns : hp.Ns1 dx m0) (hw : Within m0 nl) (hz : nl.length ≤ 1000) (hcd : clsIn K C = some cd) (hm : Over tl cd.mro) (hh : cd.hasDict = true) (ha : findIn K (.ref C) name = some none)
    (hq : ∀ h' tk', (∀ b o, b ≠ dx → hp.get? b = some o → h'.get? b = some o) → h'.Ns1 dx (fun y => if y = name then some v else m0 y) → R (.ok (.ret .none)) ⟨h', g, d, tk', os⟩) :
    codeAny (model prog w) A (.call (.builtin "object.__setattr__") ⟨[.ref x, .str name tk, v], []⟩) R ⟨hp, g, d, t, os⟩ := by
  obtain ⟨oD, esD, epD, hoD, hdD, _⟩ := hns.count hw
  refine osa_way (od := some dx) (oo := some oD) T X ⟨hx, rfl, rfl, hoD⟩ hcd hm ha ?_
  have hcls := looks_clsIn (M := model prog w) X hcd
  obtain ⟨nm, bs, mro, ns, qn, hd, sn, sb, ab, col, del⟩ := cd
  dsimp only at hh
  subst hh
  unfold storeInOwnDict ownDictForStores
  repeat (first | with_reducible refine store_in_old hns hw hz ?_ | with_reducible refine wpAny_loadPart_at hx ?_ | with_reducible refine hcls.at ?_ | wp_step)
  intro h' tk' hn' hs
  exact hq h' tk' (fun b o hb ho => (hs.2 b hb).trans ho) hn'
end
end G
namespace G
open PySem PySem.Spec PyProof.Rows L2 Evl
/-- an own error's class, over the built-in error B -/
structure Own (K : PySem.W.Frag) (B newId initId : String) (tl : List Value) (C : Addr) : Prop where
  base : ExcBaseFacts B newId initId tl
  tail : Tail tl
  cls : ∃ nm q N bs bm sn sub ab col dd k0 k1 k2 k3 k5, K.lookup C = some (excClassObj nm q C N bs bm true sn sub ab col dd k0 k1 k2 k3 k5 newId) ∧ Over tl bm
  sa : PySem.W.findIn K (.ref C) "__setattr__" = some (some (.builtin "object.__setattr__"))
  exC : PySem.W.subIn K (.ref C) (.type "BaseException") = some true
  tyC : PySem.W.typeIn K (.ref C) = some (.type "type")
  kC : PySem.W.keepIn K (.ref C) = true
section
variable {X : Cx} {pins : List (Addr × Obj)} {σ : L2.St} {H : Hp} {s : Shared} {a C dx : Addr} {f : Str} {y : V} {u : Value} {fs : List (Str × V)} {Q : Unit → Shared → Prop} {Er : Value → Shared → Prop} {A : Around} {B newId initId : String} {tl : List Value}
theorem own_cls {K : PySem.W.Frag} (T : Own K B newId initId tl C) : ∃ cd, PySem.W.clsIn K C = some cd ∧ Over tl cd.mro ∧ cd.hasDict = true := by
  obtain ⟨nm, q, N, bs, bm, sn, sub, ab, col, dd, k0, k1, k2, k3, k5, hC, hbm⟩ := T.cls
  exact ⟨{ name := nm, bases := bs, mro := .ref C :: bm, ns := N, qualname := q, hasDict := true, slotNames := sn, subclasses := sub, abstract := ab, collection := col, hasDel := false }, by unfold PySem.W.clsIn; rw [hC] <;> rfl, hbm.cons C, rfl⟩
theorem own_first (T : Own X.K B newId initId tl C) (I : Inv X pins σ H s) (e : H a = some (exo a C none)) (hno : PySem.W.findIn X.K (.ref C) f = some none) (ry : RelV y u)
    (h : ∀ dx s', H dx = none → dx ≠ a → Inv X pins σ (upd (upd H dx (exd dx [(f, y)])) a (exo a C (some dx))) s' → Q () s') : wpAny (model X.prog X.w) A (setAttr (.ref a) f u) Q Er s := by
  obtain ⟨cd, hcl, hov, hhd⟩ := own_cls T
  obtain ⟨t1, ho⟩ := exo_at I.hok e
  obtain ⟨hp, g, d, t, os⟩ := s
  refine PySem.W.set_plain I.kIn (ox := { cls := .ref C, dict := none, data := .fields #[.ref t1, .none, .none, .none, .bool false, .none] }) (od := none) ⟨ho, rfl, rfl, trivial⟩ T.sa ?_
  refine osa_first T.tail I.kIn ho hcl hov hhd hno (fun h' tk' dx k dn dne hx hn => ?_)
  have hnd : H dx = none := I.hok.fresh dn
  have nd : ∀ {b : Addr} {o : Obj}, hp.get? b = some o → b ≠ dx := fun {b o} q => Nat.ne_of_lt (Nat.lt_of_lt_of_le (Heap.lt_size q) dn)
  have na : ∀ {b : Addr}, H b = none → b ≠ a := fun {b} n z => by rw [z, e] at n; cases n
  have U : Un X.fs [] H (upd (upd H dx (exd dx [(f, y)])) a (exo a C (some dx))) hp h' := {
    keep := fun b o q n _ _ => k b o (na n) q
    slot := fun b o q n _ _ => ⟨o.slots, k b o (na n) q⟩
    free := fun b o q n _ => by rw [upd_ne (na n), upd_ne (nd q)]; exact n
    there := fun b o q _ => by
      by_cases hb : b = a
      · exact ⟨_, by rw [hb]; exact hx⟩
      · exact ⟨o, k b o hb q⟩
    tups := fun b xs q => by rw [upd_ne (at_ne e q exo_tup), upd_ne (ne_of_none q hnd)]; exact q
    frzs := fun b o v q => by rw [upd_ne (at_ne e q exo_frz), upd_ne (ne_of_none q hnd)]; exact q
    tbls := fun b ps q => ⟨#[], by rw [upd_ne (at_ne e q exo_tbl), upd_ne (ne_of_none q hnd), q]; simp⟩ }
  refine h dx _ hnd dne (I.un (t' := tk') U fun b o q => ?_)
  by_cases hb : b = a
  · subst hb
    rw [upd_same] at q
    cases q
    exact exo_ok hx
  · rw [upd_ne hb] at q
    by_cases hd : b = dx
    · subst hd
      rw [upd_same] at q
      cases q
      exact exd_ok hn (relO_put (fs := []) ry fun g => True.intro)
    · rw [upd_ne hd] at q
      exact (I.hok b o q).stay (fun c v hc z => k c v (by
          rcases hc with hc | hc
          · rw [hc]; exact hb
          · exact at_ne e hc exo_own) z)
        (fun c hc => by rw [upd_ne (at_ne e hc exo_own), upd_ne (ne_of_none hc hnd)]; exact hc) (fun c xs hc => by rw [upd_ne (at_ne e hc exo_tup), upd_ne (ne_of_none hc hnd)]; exact hc)
theorem own_more (T : Own X.K B newId initId tl C) (I : Inv X pins σ H s) (e : H a = some (exo a C (some dx))) (ed : H dx = some (exd dx fs)) (hl : fs.length ≤ 900) (hno : PySem.W.findIn X.K (.ref C) f = some none) (ry : RelV y u)
    (h : ∀ s', Inv X pins σ (upd H dx (exd dx ((f, y) :: fs))) s' → Q () s') : wpAny (model X.prog X.w) A (setAttr (.ref a) f u) Q Er s := by
  obtain ⟨cd, hcl, hov, hhd⟩ := own_cls T
  obtain ⟨t1, ho⟩ := exo_at I.hok e
  obtain ⟨mA, hns, rel⟩ := exd_at I.hok ed
  have hw := within_of rel
  obtain ⟨hp, g, d, t, os⟩ := s
  obtain ⟨oD, _, _, hoD, _, _⟩ := hns.count hw
  refine PySem.W.set_plain I.kIn (ox := { cls := .ref C, dict := some dx, data := .fields #[.ref t1, .none, .none, .none, .bool false, .none] }) (od := some oD) ⟨ho, rfl, rfl, hoD⟩ T.sa ?_
  refine osa_more T.tail I.kIn ho hns hw (by rw [List.length_map]; omega) hcl hov hhd hno (fun h' tk' k hn => ?_)
  have hd : ∃ o, h'.get? dx = some o := by obtain ⟨o, _, _, e', _⟩ := hn; exact ⟨o, e'⟩
  exact h _ (I.write (t' := tk') (x := dx) (e := dx) (o := exd dx ((f, y) :: fs)) (by rw [ed]; exact True.intro) (.inl rfl) k hd (exd_ok hn (relO_put ry rel)))
end
/-- self.f = e in an own error's __init__ -/
def tOwn (K : PySem.W.Frag) (f : Str) (to te : TE) : TS := fun D σ H => te σ H fun y H1 => to σ H1 fun x H2 => ∃ (a C : Addr) (B newId initId : String) (tl : List Value), x = .ref a ∧ Own K B newId initId tl C ∧ PySem.W.findIn K (.ref C) f = some none ∧
  ((H2 a = some (exo a C none) ∧ ∀ dx, H2 dx = none → dx ≠ a → D.nx σ (upd (upd H2 dx (exd dx [(f, y)])) a (exo a C (some dx)))) ∨
    ∃ (dx : Addr) (fs : List (Str × V)), H2 a = some (exo a C (some dx)) ∧ H2 dx = some (exd dx fs) ∧ fs.length ≤ 900 ∧ D.nx σ (upd H2 dx (exd dx ((f, y) :: fs))))
section
variable {X : Cx} {o e : Expr} {es : List Expr} {to te : TE} {ta : TA} {f : Str} {p p' pos : Pos} {B newId initId : String} {tl : List Value}
theorem ps_own (ho : PE X o to) (he : PE X e te) (hs : swapsWith e (some (.Attribute o f p')) pos.line X.env = pure false := by rfl) : PS X (.Assign [.Attribute o f p'] e pos) (tOwn X.K f to te) := by
  refine ⟨fun pins s σ H D I h => ?_⟩
  refine plainObj_wpAny_Assign_Attribute (thn (he.run pins s σ H _ I h) fun v s1 ⟨y, H1, I1, r1, q1⟩ => thn (ho.run pins s1 σ H1 _ I1 q1) fun u s2 ⟨x, H2, I2, r2, a, C, B, newId, initId, tl, ex, T, hno, q⟩ => ?_) hs
  subst ex
  obtain rfl : u = Value.ref a := r2
  rcases q with ⟨ea, q⟩ | ⟨dx, fs, ea, ed, hl, q⟩
  · exact own_first T I2 ea hno r1 fun dx s' n ne J => ⟨σ, _, J, q dx n ne⟩
  · exact own_more T I2 ea ed hl hno r1 fun s' J => ⟨σ, _, J, q⟩
/-- C(e, ..), C an own error's class, its own __init__ keeping sp -/
theorem pmk_own2 {CX : CXT} {x : Str} {C fI : Addr} {k : Nat} {fd : FuncData} {ps : List Str} {sp : Sp} {ds : List Value} {dvs : List V} (T : Own X.K B newId initId tl C) (iC : PySem.W.findIn X.K (.ref C) "__init__" = some (some (.ref fI))) (tI : PySem.W.typeIn X.K (.ref fI) = some (.type "function"))
    (F1 : FnOk X.prog X.w X.K X.mg X.base CX k fI fd ps sp) (hr : Room (k + 1) X.A) (hb : Binds X.K fd ps ds) (hd : Vals dvs ds) (hx : Passes CX X (fun _ _ _ => False)) (hg : Gl X x) (hm : X.mg x = some (.ref C)) (ha : PA X (e :: es) ta)
    (hdb : (x == ("__debug__" : Str)) = false := by decide) (he : starEach (e :: es) X.env = (false, eval e X.env) :: starEach es X.env := by rfl) (hpl : (backTo pos (starEach es X.env)).any (·.1) = false := by rfl) :
    PMk X (.Call (.Name x p) (e :: es) [] pos) (tMkO C sp dvs ta) := by
  intro pins s σ H Q I h
  obtain ⟨nm, q, N, bs, bm, sn, sub, ab, col, dd, k0, k1, k2, k3, k5, hC, hbm⟩ := T.cls
  refine wpAny_Call_Name_kw (ld_glob I hg hm ?_ hdb)
  refine PySem.W.callWith_K (h₀ := X.base) I.ok.mod.kin T.kC (thn (ha.run pos pins s σ H _ I h) fun us s1 ⟨vs, H1, I1, r1, hz, q1⟩ => ⟨I1.kIn, ?_⟩) he hpl
  show wpAny _ _ (call (.ref C) us) _ _ _
  obtain ⟨hp, g, dr, tk, os⟩ := s1
  have hsz : hp.objs.size ≤ hp.objs.size + 1 := Nat.le_succ _
  have hq := q1 (hp.objs.size + 1) (I1.hok.fresh hsz)
  have kk : ∀ b o, hp.get? b = some o → ((hp.push (PySem.W.kdv_tup us)).push (PySem.HandSPX.excO C hp.objs.size)).get? b = some o := fun b o e => Heap.get?_push_of_some _ (Heap.get?_push_of_some _ e)
  have hget : ((hp.push (PySem.W.kdv_tup us)).push (PySem.HandSPX.excO C hp.objs.size)).get? (hp.objs.size + 1) = some (PySem.HandSPX.excO C hp.objs.size) := by heap_get
  have I2 := I1.laid (t' := tk) (a := hp.objs.size + 1) (o := exo (hp.objs.size + 1) C none) (h' := (hp.push (PySem.W.kdv_tup us)).push (PySem.HandSPX.excO C hp.objs.size)) kk hsz (exo_ok hget)
  have r2 : Vals (V.ref (hp.objs.size + 1) :: (vs ++ dvs)) (Value.ref (hp.objs.size + 1) :: (us ++ ds)) := .cons rfl (r1.append hd)
  have hl : (Value.ref (hp.objs.size + 1) :: us ++ ds).length = ps.length := by
    have e := r2.length
    rw [F1.len _ _ _ _ hq] at e
    exact e.symm
  have hus : us.length ≤ sizeLine := by rw [← Paired.length r1, sizeLine_eq]; omega
  refine wpAny_call (PySem.HandSPX.call_own T.base (fun Y => hbm.has Y) (I1.kIn _ _ hC) (PySem.W.looks_findIn I1.kIn iC) (fun self => PySem.W.bind_fn I1.kIn self tI) hus
    (codeAny_mono (F1.run _ X.stack _ _ ⟨Value.ref (hp.objs.size + 1) :: us, []⟩ (Value.ref (hp.objs.size + 1) :: (us ++ ds)) _ _ (fun _ _ _ => False) (hr.make C us []) (I2.env0.make C us []) (hb _ (Value.ref (hp.objs.size + 1) :: us) I2.kIn hl) r2 hq) fun r s' hq' => ?_))
  match r, hq' with
  | .error er, hq' => exact hx pins σ _ _ er s' I2 hq'
  | .ok .next, hq' => exact hq'.elim
  | .ok .brk, hq' => exact hq'.elim
  | .ok .cont, hq' => exact hq'.elim
  | .ok (.ret u), hq' =>
    obtain ⟨v, H2, os2, bare2, un2, hok2, rv, ev, d, fs, ea, ed, hd1, q2⟩ := hq'
    subst ev
    obtain ⟨h2, g2, d2, t2, os'⟩ := s'
    exact ⟨rv, mk_end (raises_own T.exC T.tyC) I1 hsz kk un2 hok2 os2 bare2 ea ed hd1 q2⟩
end
end G
end
section
set_option maxHeartbeats 2000000
namespace G
open PySem PySem.Spec PyProof.Rows L2 Evl
/-! ### == and != of two instances by the text's own == -/
section
variable {prog : Program} {w : World} {A : Around} {Er : Value → Shared → Prop} {s : Shared} {K : PySem.W.Frag} {x C f : Addr} {ox : Obj} {od : Option Obj} {b : Value}
theorem bound_ne {M : Model} {args : List Value} {Q : Option Value → Shared → Prop} (X : K.In s.heap) (I : PySem.W.InstAt s.heap x ox C od) (hs : PySem.W.findIn K (.ref C) "__ne__" = some (some (.builtin "object.__ne__")))
    (h : wpAny M A (call (.builtin "object.__ne__") (.ref x :: args)) (fun v => Q (some v)) Er s) : wpAny M A (callSpecialIfBound? (.ref x) "__ne__" args) Q Er s := by
  simp only [callSpecialIfBound?, bindSpecialIfBound?]
  refine wpAny_holding (wpAny_bind (wpAny_bind (wpAny_bind (I.type.here ((PySem.W.looks_findIn X hs).here ?_)))))
  refine wpAny_bind (wpAny_askSetting (wpAny_ite ?_))
  have fin : wpAny M A (call (.builtin "object.__ne__") ([.ref x] ++ args) >>= fun v => pure (some v)) Q Er s := wpAny_bind (wpAny_mono h (fun v s' q => wpAny_pure q) fun _ _ q => q)
  split
  · exact wpAny_bind (wpAny_of_eq (F.cmp_object.ne.bind _) (wpAny_pure (by exact fin)))
  · exact wpAny_tryCatch (wpAny_bind (wpAny_of_eq (F.cmp_object.ne.bind _) (wpAny_pure (by exact fin))))
theorem entry_ne {Q : Fin → Shared → Prop} (hu : A.units < cLine) (X : K.In s.heap) (I : PySem.W.InstAt s.heap x ox C od) (hs : PySem.W.findIn K (.ref C) "__eq__" = some (some (.ref f))) (hf : PySem.W.isFn K (.ref f) = true)
    (h : wpAny (model prog w) A (call (.ref f) [.ref x, b]) (fun v s' => ∃ c, v = .bool c ∧ Q (.done (.ret (.bool (!c)))) s') Er s) : wpAny (model prog w) A (Builtin.«object.__ne__» ⟨[.ref x, b], []⟩) Q Er s := by
  unfold Builtin.«object.__ne__»
  repeat (first
    | with_reducible refine wpAny_cRoomFor hu ?_
    | (refine wpAny_bind (m := callSpecialIfBound? (.ref x) (Str.ofString "__eq__") [b])
        (PySem.W.ifBound_K X I hs hf (wpAny_mono h (fun r s' hr => by
          obtain ⟨c, rfl, hq⟩ := hr
          repeat (first | exact hq | exact wpAny_pure hq | exact wpAny_truthy_bool hq | (refine wpAny_bind (m := truthy (.bool _)) (wpAny_truthy_bool ?_)) | wp_step)) fun _ _ e => e)))
    | wp_step)
theorem rich_ne {Q : Value → Shared → Prop} (hu : A.units + 1 < cLine) (X : K.In s.heap) (I : PySem.W.InstAt s.heap x ox C od) (hb : PySem.W.Looks (model prog w) s.heap (typeOf b) (.ref C))
    (hm : PySem.W.mroIn K C (.type "object") = some true) (hn : PySem.W.findIn K (.ref C) "__ne__" = some (some (.builtin "object.__ne__"))) (hs : PySem.W.findIn K (.ref C) "__eq__" = some (some (.ref f))) (hf : PySem.W.isFn K (.ref f) = true)
    (h : wpAny (model prog w) A.in1 (call (.ref f) [.ref x, b]) (fun v s' => ∃ c, v = .bool c ∧ Q (.bool (!c)) s') Er s) : wpAny (model prog w) A (richCompare .NotEq (.ref x) b) Q Er s := by
  have one : wpAny (model prog w) A (tryCompare (.ref x) "__ne__" b) (fun r s' => ∃ v, r = some v ∧ Q v s') Er s := by
    unfold tryCompare
    refine wpAny_bind (bound_ne X I hn (wpAny_call (codeAny_call_builtin F.cmp_object.ne.plain F.cmpEntry_ne (PySem.W.check_slot F.cmpKind_ne F.cmpSplit_ne (I.type.andThen (PySem.W.looks_mroIn X hm)) (F.cmpArgs_ne _ _)
      (entry_ne (A := A.in1) hu X I hs hf (wpAny_mono h (fun v s' hv => ?_) fun _ _ e => e))))))
    obtain ⟨c, rfl, hq⟩ := hv
    exact ⟨c, rfl, wpAny_pure ⟨_, rfl, hq⟩⟩
  unfold richCompare
  simp only [oneThing_ref, cmpInfo_NotEq]
  refine wpAny_holding (wpAny_bind (wpAny_cRoomFor (Nat.lt_of_succ_lt hu) ?_))
  refine wpAny_bind (I.type.here (wpAny_bind (hb.here ?_)))
  simp only [bne_self_eq_false, Bool.false_eq_true, if_false]
  refine wpAny_bind (wpAny_pure ?_)
  simp only [Bool.false_eq_true, if_false]
  refine wpAny_bind (wpAny_mono one (fun r s' z => ?_) fun _ _ e => e)
  obtain ⟨v, rfl, hq⟩ := z
  exact wpAny_pure hq
end
section
variable {X : Cx} {CX : CXT} {k : Nat} {f C : Addr} {fd : FuncData} {ps : List Str} {sp : Sp} {E : XK}
/-- x == y, x != y of two instances of the class at C, by its own == -/
def rEqO (C : Addr) (sp : Sp) (E : XK) : R2 := fun x y H Q => ∃ a b dx dy fs gs, x = .ref a ∧ y = .ref b ∧ H a = some (.ins C dx fs) ∧ H b = some (.ins C dy gs) ∧ sp [.ref a, .ref b] H (fun v H' => (∃ c, v = .bl c) ∧ Q v H') E
def rNeO (C : Addr) (sp : Sp) (E : XK) : R2 := fun x y H Q => ∃ a b dx dy fs gs, x = .ref a ∧ y = .ref b ∧ H a = some (.ins C dx fs) ∧ H b = some (.ins C dy gs) ∧ sp [.ref a, .ref b] H (fun v H' => ∃ c, v = .bl c ∧ Q (.bl (!c)) H') E
theorem call_eqO {A : Around} {pins : List (Addr × Obj)} {s : Shared} {σ : L2.St} {H : Hp} {a b : Addr} {Q : VK} (F : FnOk X.prog X.w X.K X.mg X.base CX k f fd ps sp) (hb : Binds X.K fd ps []) (hx : Passes CX X E) (hr : Room k A) (hfr : A.frames = X.A.frames) (I : Inv X pins σ H s)
    (h : sp [.ref a, .ref b] H Q E) : wpAny (model X.prog X.w) A (call (.ref f) [.ref a, .ref b]) (EP X pins σ Q) X.xe s := by
  have r2 : Vals [V.ref a, V.ref b] [Value.ref a, Value.ref b] := .cons rfl (.cons rfl .nil)
  have hl := F.len _ _ _ _ h
  have e0 : Env0 X.prog X.w X.K X.mg X.base A X.stack s H := { I.env0 with frames := hfr.trans I.env0.frames }
  refine wpAny_call (codeAny_mono (F.run A X.stack s H ⟨[.ref a, .ref b], []⟩ [.ref a, .ref b] [.ref a, .ref b] Q E hr e0 (by simpa using hb s [.ref a, .ref b] I.kIn (by simpa using hl)) r2 h) fun r s' hq => ?_)
  match r, hq with
  | .error e, hq => exact hx pins σ H s e s' I hq
  | .ok (.ret u), hq => exact I.after hq
  | .ok .next, hq => exact hq.elim
  | .ok .brk, hq => exact hq.elim
  | .ok .cont, hq => exact hq.elim
theorem op_eqO (F : FnOk X.prog X.w X.K X.mg X.base CX k f fd ps sp) (hs : PySem.W.findIn X.K (.ref C) "__eq__" = some (some (.ref f))) (hf : PySem.W.isFn X.K (.ref f) = true) (hb : Binds X.K fd ps []) (hx : Passes CX X E) (hr : Room k X.A) :
    OpR X (compareOp .Eq) (rEqO C sp E) := by
  intro pins s σ H x y u v Q I rx ry h
  obtain ⟨a, b, dx, dy, fs, gs, rfl, rfl, ha, hb', h⟩ := h
  cases rx
  cases ry
  obtain ⟨mA, J, _⟩ := ins_get I.hok ha
  obtain ⟨mB, J', _⟩ := ins_get I.hok hb'
  obtain ⟨od, J, _⟩ := J.look
  obtain ⟨od', J', _⟩ := J'.look
  obtain ⟨m, hF⟩ := I.fr
  refine PySem.W.cmp_ofEq (PySem.W.cmp_K (op := .Eq) (tb := .ref C) hr.units0 hF I.ok.mod.kin J J'.type (by simp [PySem.W.notFirst]) hs hf ?_)
  refine wpAny_mono (call_eqO F hb hx hr rfl I h) (fun w s' hq => ?_) fun _ _ q => q
  obtain ⟨z, H', I', rz, ⟨c, rfl⟩, q⟩ := hq
  cases rz
  exact ⟨.bl c, H', I', rfl, q⟩
theorem op_neO (F : FnOk X.prog X.w X.K X.mg X.base CX k f fd ps sp) (hm : PySem.W.mroIn X.K C (.type "object") = some true) (hn : PySem.W.findIn X.K (.ref C) "__ne__" = some (some (.builtin "object.__ne__"))) (hs : PySem.W.findIn X.K (.ref C) "__eq__" = some (some (.ref f)))
    (hf : PySem.W.isFn X.K (.ref f) = true) (hb : Binds X.K fd ps []) (hx : Passes CX X E) (hr : Room (k + 1) X.A) : OpR X (compareOp .NotEq) (rNeO C sp E) := by
  intro pins s σ H x y u v Q I rx ry h
  obtain ⟨a, b, dx, dy, fs, gs, rfl, rfl, ha, hb', h⟩ := h
  cases rx
  cases ry
  obtain ⟨mA, J, _⟩ := ins_get I.hok ha
  obtain ⟨mB, J', _⟩ := ins_get I.hok hb'
  obtain ⟨od, J, _⟩ := J.look
  obtain ⟨od', J', _⟩ := J'.look
  have hu := hr.units
  refine PySem.W.cmp_ofNotEq (rich_ne (by omega) I.kIn J J'.type hm hn hs hf ?_)
  refine wpAny_mono (call_eqO (A := X.A.in1) F hb hx hr.in1 rfl I h) (fun w s' hq => ?_) fun _ _ q => q
  obtain ⟨z, H', I', rz, c, rfl, q⟩ := hq
  cases rz
  exact ⟨c, rfl, .bl (!c), H', I', rfl, q⟩
end
end G
end
section
set_option maxHeartbeats 2000000
namespace G
open PySem PySem.Spec PyProof.Rows L2 Evl
section
variable {X : Cx} {CX : CXT} {k j : Nat} {f : Addr} {fd : FuncData} {ps ks : List Str} {sp : Sp} {E : XK} {x : Str} {p pos : Pos} {kws : List Keyword} {tk : TA} {g : List Value → List Value → List Value} {gV : List V → List V → List V}
/-- f(k = v, ..) -/
def tCallN0 (j : Nat) (sp : Sp) (gV : List V → List V → List V) (E : XK) (tk : TA) : TE := fun σ H Q => tk σ H fun zs H1 => zs.length = j ∧ sp (gV [] zs) H1 Q E
theorem pe_callN0 (F : FnOk X.prog X.w X.K X.mg X.base CX k f fd ps sp) (hr : Room k X.A) (hg : Gl X x) (hm : X.mg x = some (.ref f)) (hk : PySem.W.keepIn X.K (.ref f) = true) (hb : KBn X.K fd ps 0 ks g gV) (hx : Passes CX X E) (hkw : PK X kws tk)
    (hall : (backToKw pos (keywordEach kws X.env)).all (·.1.isSome) = true := by rfl) (hks : (backToKw pos (keywordEach kws X.env)).filterMap (·.1) = ks := by rfl) (hdb : (x == ("__debug__" : Str)) = false := by decide)
    (hpl : ((backTo pos (starEach [] X.env)).any (·.1) || (backToKw pos (keywordEach kws X.env)).any (·.1.isNone)) = false := by rfl) : PE X (.Call (.Name x p) [] kws pos) (tCallN0 ks.length sp gV E tk) := by
  refine ⟨fun pins s σ H Q I h => wpAny_Call_Name_kw (ld_glob I hg hm ?_ hdb)⟩
  refine PySem.W.callWith_KW0 (first := []) (h₀ := X.base) I.ok.mod.kin hk hall ?_ hpl
  refine thn (hkw.run pos pins s σ H _ I h) fun ws s1 ⟨zs, H1, I1, rz, l1, q1⟩ => ⟨I1.kIn, ?_⟩
  rw [hks]
  exact run_fnN (us := []) (vs := []) F hr hb hx I1 .nil rz rfl l1 q1
end
section
variable {X : Cx} {K : PySem.W.Frag} {tg e : Expr} {te : TE}
theorem piL (hK : X.K = K) (h : PE X e te) : PI X tg e (iList K te) := hK ▸ pi_list h
theorem piT (hK : X.K = K) (h : PE X e te) : PI X tg e (iTup K te) := hK ▸ pi_tup h
end
/-- lcm(a, b) -/
def rLcm : List V → Hp → VK → Prop := fun vs H Q => ∃ a b : Int, vs = [.int a, .int b] ∧ a.natAbs < 18446744073709551616 ∧ b.natAbs < 18446744073709551616 ∧ Q (.int ((Nat.lcm a.natAbs b.natAbs : Nat) : Int)) H
theorem cr_lcm {X : Cx} : CallR X (.builtin "math.lcm") rLcm := by
  intro pins s σ H vs us Q I r h
  obtain ⟨a, b, rfl, ha, hb, q⟩ := h
  obtain ⟨t, u, rfl⟩ := Vals.int2 r
  exact PySem.W.mc_lcm ha hb fun _ => ⟨.int _, H, I.tok _, ⟨_, rfl⟩, q⟩
variable {K : PySem.W.Frag} {σ : L2.St} {H H' : Hp} {ta tb te tl tx tc : TE} {tt : TT} {x y z v w : V} {p a q C dx : Addr} {tA tr tk : TA} {rs ss : List Row} {vs : List Nat} {i j : Nat} {Q : VK} {E : XK} {D : Ends} {tz : TS} {d : PyData} {ds : List PyData} {sp : Sp} {ws zs : List V} {gV : List V → List V → List V} {xs : List V}
theorem rc_lcm {a b : Int} (ha : a.natAbs < 18446744073709551616) (hb : b.natAbs < 18446744073709551616) : RC rLcm [.int a, .int b] H (.int ((Nat.lcm a.natAbs b.natAbs : Nat) : Int)) := fun H1 e Q q => ⟨a, b, rfl, ha, hb, q H1 (Ex.refl _)⟩
theorem ev_callN0 {n : Nat} (h : EvA tk σ H zs) (hn : zs.length = n) (hs : SpV sp (gV [] zs) H z) : Ev (tCallN0 n sp gV E tk) σ H z := fun H1 e Q q => h H1 e _ fun H2 e2 => ⟨hn, hs H2 (e.trans e2) Q (fun H3 e3 => q H3 (e2.trans e3)) E⟩
theorem rv_isN : RV (fun x y H Q => y = .non ∧ Q (.bl (decide (x = .non))) H) x .non H (.bl (decide (x = .non))) := fun H1 _ Q q => ⟨rfl, q H1 (Ex.refl _)⟩
theorem rv_notN : RV (fun x y H Q => y = .non ∧ Q (.bl (!decide (x = .non))) H) x .non H (.bl (!decide (x = .non))) := fun H1 _ Q q => ⟨rfl, q H1 (Ex.refl _)⟩
/-! ### a new instance, as a value -/
/-- what evaluates to an instance of the class at C of which M tells -/
def EvM (te : TE) (σ : L2.St) (H : Hp) (M : Hp → Addr → Prop) : Prop := ∀ H1, Ex H H1 → ∀ Q : VK, (∀ p H2, H1 p = none → Ex H1 H2 → M H2 p → Q (.ref p) H2) → te σ H1 Q
def SpM (sp : Sp) (vs : List V) (H : Hp) (M : Hp → Addr → Prop) : Prop := ∀ H1, Ex H H1 → ∀ Q : VK, (∀ p H2, H1 p = none → Ex H1 H2 → M H2 p → Q (.ref p) H2) → ∀ E : XK, sp vs H1 Q E
theorem q_asgM {M : Hp → Addr → Prop} (h : EvM te σ H M) (k : ∀ p H1, H p = none → Ex H H1 → M H1 p → tz D (σ.set i (some (.ref p))) H1) : tSeq (tAsg te (gName i)) tz D σ H := h H (Ex.refl H) _ k
theorem evm_call {dvs : List V} {M : Hp → Addr → Prop} (ha : EvA tA σ H ws) (hs : SpM sp (ws ++ dvs) H M) : EvM (tCall sp dvs E tA) σ H M := fun H1 e Q q =>
  ha H1 e _ fun H2 e2 => hs H2 (e.trans e2) Q (fun p H3 n3 e3 h3 => q p H3 (fresh_back e2 n3) (e2.trans e3) h3) E
theorem evm_callN0 {n : Nat} {M : Hp → Addr → Prop} (h : EvA tk σ H zs) (hn : zs.length = n) (hs : SpM sp (gV [] zs) H M) : EvM (tCallN0 n sp gV E tk) σ H M := fun H1 e Q q =>
  h H1 e _ fun H2 e2 => ⟨hn, hs H2 (e.trans e2) Q (fun p H3 n3 e3 h3 => q p H3 (fresh_back e2 n3) (e2.trans e3) h3) E⟩
/-! ### data, once more -/
theorem evd_callA {dvs : List V} (h : tA σ H fun ws H1 => Ex H H1 ∧ SpD K sp (ws ++ dvs) H1 d) (hm : ∀ {Q1 Q2 : List V → Hp → Prop}, (∀ x H1, Q1 x H1 → Q2 x H1) → tA σ H Q1 → tA σ H Q2) (k : ∀ v H2, Ex H H2 → Dp K H2 v d → Q v H2) : tCall sp dvs E tA σ H Q :=
  hm (fun ws H1 h => h.2 H1 (Ex.refl _) Q (fun v H2 e2 hv => k v H2 (h.1.trans e2) hv) E) h
def dRow (r : Row) : PyData := .tuple [.int r.1, .int r.2]
def dRows (rs : List Row) : PyData := .list (rs.map dRow)
theorem dp_rowsAt {ts : List Addr} (h : RowsAt H ts rs) : DpAll K H (ts.map V.ref) (rs.map dRow) := by
  obtain ⟨hl, ht⟩ := h
  induction ts generalizing rs with
  | nil =>
    cases rs with
    | nil => exact .nil
    | cons r rs => simp at hl
  | cons T ts ih =>
    cases rs with
    | nil => simp at hl
    | cons r rs =>
      exact .cons (.tup (st_of (ht 0 T r rfl rfl)) (.cons (.int _) (.cons (.int _) .nil))) (ih (by simpa using hl) fun j U s a b => ht (j + 1) U s (by simpa using a) (by simpa using b))
theorem dp_rowsL (h : RowsL H a rs) : Dp K H (.ref a) (dRows rs) := let ⟨ts, h1, h2⟩ := h; .lst (sq_of h1) (dp_rowsAt h2)
theorem dp_rowsU (h : RowsU H a rs) : Dp K H (.ref a) (.tuple (rs.map dRow)) := let ⟨ts, h1, h2⟩ := h; .tup (st_of h1) (dp_rowsAt h2)
theorem evd_eqD {d e : PyData} (ha : EvD K ta σ H d) (hb : EvD K tb σ H e) (h1 : SeqAt.shaped d = true) (h2 : SeqAt.shaped e = true) : Ev (tOp (rEqD K) ta tb) σ H (.bl (PyData.eqv d e)) := fun H1 e1 Q q =>
  ha H1 e1 _ fun v H2 e2 hv => hb H2 (e1.trans e2) _ fun u H3 e3 hu => ⟨_, _, dp_mono e3 hv, hu, h1, h2, q H3 (e2.trans e3)⟩
theorem evd_neD {d e : PyData} (ha : EvD K ta σ H d) (hb : EvD K tb σ H e) (h1 : SeqAt.shaped d = true) (h2 : SeqAt.shaped e = true) : Ev (tOp (rNeD K) ta tb) σ H (.bl (!PyData.eqv d e)) := fun H1 e1 Q q =>
  ha H1 e1 _ fun v H2 e2 hv => hb H2 (e1.trans e2) _ fun u H3 e3 hu => ⟨_, _, dp_mono e3 hv, hu, h1, h2, q H3 (e2.trans e3)⟩
end G
end
section
set_option maxHeartbeats 2000000
namespace G
open PySem PySem.Spec PyProof.Rows L2 Evl
/-! ### ranges that have a name -/
theorem cr_range1 {X : Cx} : CallR X (.type "range") (fun vs H Q => ∃ j, vs = [V.int j] ∧ ∀ p, H p = none → Q (.ref p) (upd H p (.rng 0 j))) := by
  intro pins s σ H vs us Q I r h
  obtain ⟨j, rfl, q⟩ := h
  obtain ⟨u, rfl, ru⟩ := vals1 r
  obtain ⟨t, rfl⟩ := ru
  refine call_range_1 ⟨.ref s.heap.objs.size, upd H s.heap.objs.size (.rng 0 j), I.laid (t' := s.toks + 1 + 1) (fun b o e => Heap.get?_push_of_some _ e) (Nat.le_refl _) ?_, rfl, q _ (I.hok.fresh (Nat.le_refl _))⟩
  exact ⟨_, t, _, Heap.get?_push_size _ rfl⟩
def iRgV (te : TE) : TI := fun σ H R => te σ H fun x H1 => ∃ (p : Addr) (j : Int), x = .ref p ∧ H1 p = some (.rng 0 j) ∧ -(2 ^ 62) ≤ j ∧ j < 2 ^ 62 ∧ R (Itr 0 j.toNat) H1
theorem pi_rgV {X : Cx} {tg e : Expr} {te : TE} (he : PE X e te) : PI X tg e (iRgV te) := by
  refine ⟨fun pins s σ H R I h => thn (he.run pins s σ H _ I h) fun v s1 ⟨x, H1, I1, r1, p, j, ex, ea, h1, h2, q⟩ => ?_⟩
  subst ex
  obtain rfl : v = Value.ref p := r1
  obtain ⟨t, u, w, ho⟩ := I1.hok p _ ea
  have I2 : Inv X pins σ H1 s1 := I1
  refine wpAny_pyIter_range (a := 0) (b := j) (c := 1) (t := t) (u := u) (v := w) ho (small_one (by omega) (by omega) h1 h2) ?_
  refine ⟨s1.heap.objs.size, [s1.heap.objs.size], _, _, H1, rfl, I1.kept (t' := s1.toks) fun b o e => Heap.get?_push_of_some _ e, turn_range _ 0 j.toNat, ?_, fun b hb => ?_, q⟩
  · have e1 : (0 : Int) + ((0 : Nat) : Int) * 1 = 0 := by simp
    have e2 : (((j).toNat : Nat) : Int) - ((0 : Nat) : Int) = Builtin.Range.rangeSize 0 j 1 := by rw [rangeSize_one]; split <;> omega
    show IsRangeIter _ _ ((0 : Int) + ((0 : Nat) : Int) * 1) (((j.toNat : Nat) : Int) - ((0 : Nat) : Int)) 1
    rw [e1, e2]
    exact Heap.get?_push_size _ rfl
  · have e : b = s1.heap.objs.size := by simpa using hb
    subst e
    exact I1.fpOk (Nat.le_refl _) (I1.hok.fresh (Nat.le_refl _))
variable {K : PySem.W.Frag} {σ : L2.St} {H : Hp} {tl te ta : TE} {p : Addr} {n : Nat} {j i : Nat} {vs : List Nat} {D : Ends} {tz : TS} {tA : TA} {z0 : Int}
theorem el_lcRV (v : Nat → V) (h : Ev tl σ H (.ref p)) (hp : H p = some (.rng 0 (n : Int))) (hn : n ≤ 40000) (hw : ∀ x, wipe ((wipe σ vs).set j (some x)) vs = wipe σ vs) (he : ∀ (i : Nat) H1, Ex H H1 → i < n → Ev te ((wipe σ vs).set j (some (.int (i : Int)))) H1 (v i)) :
    EvL (tLc (iRgV tl) (gName j) tYes te vs) σ H ((List.range n).map v) := fun H0 e Q q => h H0 e _ fun H1 e1 => ⟨p, (n : Int), rfl, (e.trans e1) p _ hp, by omega, by omega, fun Dl hD => by
  have eq : (List.range n).map v = given n (fun _ => true) v := by unfold given; rw [List.filter_eq_self.mpr (fun _ _ => rfl)]
  rw [Int.toNat_natCast]
  refine lc_range (lo := 0) (n := n) (Cw H1 (fun _ => true) v Dl) ⟨hD, Ex.new hD, upd_same⟩ (fun i H' hi p => by
    have e0 : (0 : Int) + (i : Int) = (i : Int) := Int.zero_add _
    show wipe ((wipe σ vs).set j (some (.int ((0 : Int) + (i : Int))))) vs = wipe σ vs ∧ tYes ((wipe σ vs).set j (some (.int ((0 : Int) + (i : Int))))) H' fun b H3 => if b = true then te ((wipe σ vs).set j (some (.int ((0 : Int) + (i : Int))))) H3 fun y H4 => _ else _
    rw [e0]
    exact ⟨hw _, cw_turn p (by omega) lc_yes (fun _ => he i H1 (e.trans e1) (by omega))⟩) (fun H' p => q Dl H' (fresh_back e1 p.1) (e1.trans p.2.1) (by rw [eq]; exact p.2.2))⟩
/-- x = range(e) -/
theorem q_rng (ha : EvA tA σ H [.int z0]) (k : ∀ p H1, H p = none → Ex H H1 → H1 p = some (.rng 0 z0) → tz D (σ.set i (some (.ref p))) H1) : tSeq (tAsg (tCB (fun vs H Q => ∃ j, vs = [V.int j] ∧ ∀ p, H p = none → Q (.ref p) (upd H p (.rng 0 j))) tA) (gName i)) tz D σ H :=
  ha H (Ex.refl H) _ fun H1 e1 => ⟨z0, rfl, fun p hp => k p _ (fresh_back e1 hp) (e1.trans (Ex.new hp)) upd_same⟩
/-! ### calls of a def that a name holds -/
section
variable {X : Cx} {CX : CXT} {k : Nat} {sp : Sp} {E : L2.St → XK} {pos : Pos} {fe e : Expr} {es : List Expr} {tf : TE} {t : TA}
def tCallV (S : Addr → Prop) (sp : Sp) (E : L2.St → XK) (tf : TE) (t : TA) : TE := fun σ H Q => tf σ H fun x H1 => ∃ f, x = .ref f ∧ S f ∧ t σ H1 fun vs H2 => sp vs H2 Q (E σ)
theorem pe_callV {S : Addr → Prop} (F : ∀ f, S f → ∃ fd ps, FnOk X.prog X.w X.K X.mg X.base CX k f fd ps sp ∧ Binds X.K fd ps [] ∧ PySem.W.keepIn X.K (.ref f) = true) (hf : PE X fe tf) (hr : Room k X.A) (hx : ∀ σ, PassesAt CX X σ (E σ)) (ha : PA X (e :: es) t)
    (ht : eval (.Call fe (e :: es) [] pos) X.env = (do callWith pos (← eval fe X.env) [] (backTo pos (starEach (e :: es) X.env)) (backToKw pos (keywordEach [] X.env))) := by rfl)
    (he : starEach (e :: es) X.env = (false, eval e X.env) :: starEach es X.env := by rfl) (hpl : (backTo pos (starEach es X.env)).any (·.1) = false := by rfl) : PE X (.Call fe (e :: es) [] pos) (tCallV S sp E tf t) := by
  refine ⟨fun pins s σ H Q I h => Call_ (thn (hf.run pins s σ H _ I h) fun u s1 ⟨y, H1, I1, ry, f, ey, hS, q⟩ => ?_) ht⟩
  subst ey
  obtain rfl : u = Value.ref f := ry
  obtain ⟨fd, ps, G, hb, hk⟩ := F f hS
  refine PySem.W.callWith_K (h₀ := X.base) I1.ok.mod.kin hk (thn (ha.run pos pins s1 σ H1 _ I1 q) fun us s2 ⟨vs, H2, I2, r, q2⟩ => ⟨I2.kIn, ?_⟩) he hpl
  exact run_fnS G hr hb (hx σ) I2 r q2
end
theorem FnOk.imp {P : Program} {w : World} {K : PySem.W.Frag} {mg : Str → Option Value} {base : Heap} {CX : CXT} {k : Nat} {f : Addr} {fd : FuncData} {ps : List Str} {sp sp' : Sp} (F : FnOk P w K mg base CX k f fd ps sp) (h : ∀ vs H Q E, sp' vs H Q E → sp vs H Q E) : FnOk P w K mg base CX k f fd ps sp' :=
  ⟨fun vs H Q E q => F.len vs H Q E (h vs H Q E q), fun A outer s H args us vs Q E hr e0 hb r q => F.run A outer s H args us vs Q E hr e0 hb r (h vs H Q E q)⟩
/-- an error is named by its own class -/
theorem exm_at {K : PySem.W.Frag} {S : Addr} (b : PySem.W.subIn K (.ref S) (.type "BaseException") = some true) (c : PySem.W.isClsIn K S = true) (t : PySem.W.typeIn K (.ref S) = some (.type "type")) (s : PySem.W.subIn K (.ref S) (.ref S) = some true) : PySem.W.exmOne K (.ref S) (.ref S) = some true := by
  have c' : (PySem.W.clsIn K S).isSome = true := c
  unfold PySem.W.exmOne PySem.W.kitCls
  simp [b, c', t, s]
theorem passF {X : Cx} {E₁ : XK} (tk : Takes X (fun cls d _ H => E₁ cls d H)) : Passes (L2.CX X.prog X.w) X E₁ := fun pins σ H s e s' I c => tk e s' (XE.of_call I (fun _ _ _ h => h) c)
end G
end
section
set_option maxHeartbeats 2000000
namespace G
open PySem L2 Evl
/-! ### data that stand apart from what else changes: B the heap whose data may be shared, H1 the heap ahead -/
def Sep (B H1 H2 : Hp) : Hp := fun b => if H1 b = none ∨ (B b).isSome = true then H2 b else none
section
variable {B B' H H' H1 H2 H3 : Hp} {b : Addr} {o : HO}
theorem sep_in (h : H2 b = some o) (hb : H1 b = none ∨ (B b).isSome = true) : Sep B H1 H2 b = some o := by unfold Sep; rw [if_pos hb]; exact h
theorem sep_out (h : Sep B H1 H2 b = some o) : (H1 b = none ∨ (B b).isSome = true) ∧ H2 b = some o := by
  unfold Sep at h
  split at h
  · rename_i q; exact ⟨q, h⟩
  · cases h
theorem sep_ex : Ex (Sep B H1 H2) H2 := fun b o h => (sep_out h).2
theorem sep_base (e : Ex B H2) : Ex B (Sep B H1 H2) := fun b o h => sep_in (e b o h) (.inr (by rw [h]; rfl))
theorem sep_next (e : Ex H2 H3) : Ex (Sep B H1 H2) (Sep B H1 H3) := fun b o h => let ⟨h1, h2⟩ := sep_out h; sep_in (e b o h2) h1
theorem sep_prev (e : Ex H1 H2) : Ex (Sep B H2 H3) (Sep B H1 H3) := fun b o h => let ⟨h1, h2⟩ := sep_out h; sep_in h2 (h1.imp (fresh_back e) id)
theorem some_ex (e : Ex B B') (h : (B b).isSome = true) : (B' b).isSome = true := by
  obtain ⟨o, ho⟩ := Option.isSome_iff_exists.mp h
  rw [e b o ho] <;> rfl
theorem sep_wide (e : Ex B B') : Ex (Sep B H1 H2) (Sep B' H1 H2) := fun b o h => let ⟨h1, h2⟩ := sep_out h; sep_in h2 (h1.imp id (some_ex e))
theorem sep_sep (e : Ex H1 H2) : Ex (Sep (Sep B H1 H2) H2 H3) (Sep B H1 H3) := fun b o h => by
  obtain ⟨h1, h2⟩ := sep_out h
  refine sep_in h2 ?_
  rcases h1 with h1 | h1
  · exact .inl (fresh_back e h1)
  · obtain ⟨o', ho⟩ := Option.isSome_iff_exists.mp h1
    exact (sep_out ho).1
/-- nothing is shared of what is neither in B nor new -/
theorem sep_off {q : Addr} (h1 : H1 q ≠ none) (h2 : B q = none) : Sep B H1 H2 q = none := by
  unfold Sep
  rw [if_neg]
  rintro (z | z)
  · exact h1 z
  · rw [h2] at z; cases z
theorem sep_upd {q : Addr} {o : HO} (h1 : H1 q ≠ none) (h2 : B q = none) : Ex (Sep B H1 H2) (Sep B H1 (upd H2 q o)) := fun b u h => by
  obtain ⟨a1, a2⟩ := sep_out h
  have hb : b ≠ q := fun z => by subst z; rw [sep_off h1 h2] at h; cases h
  exact sep_in (by rw [upd_ne hb]; exact a2) a1
end
variable {K : PySem.W.Frag} {σ : L2.St} {B H H' : Hp} {ta tb te tx tl : TE} {tt : TT} {x y z v : V} {d d' : PyData} {ds es : List PyData} {p C dx a : Addr} {fs : List (Str × V)} {f m : Str} {sp : Sp} {dvs vs xs : List V} {E : XK} {tA tr tk : TA} {js : List Nat} {j i : Nat} {D : Ends} {tz : TS}
/-- what evaluates to data, B the heap whose data may be shared (a part of H) -/
def EvN (K : PySem.W.Frag) (B : Hp) (te : TE) (σ : L2.St) (H : Hp) (d : PyData) : Prop := ∀ H1, Ex H H1 → ∀ Q : VK, (∀ v H2, Ex H1 H2 → Dp K (Sep B H1 H2) v d → Q v H2) → te σ H1 Q
def EvAN (K : PySem.W.Frag) (B : Hp) (ta : TA) (σ : L2.St) (H : Hp) (ds : List PyData) : Prop := ∀ H1, Ex H H1 → ∀ Q : List V → Hp → Prop, (∀ vs H2, Ex H1 H2 → DpAll K (Sep B H1 H2) vs ds → Q vs H2) → ta σ H1 Q
/-- the promise's end: data -/
def RetN (K : PySem.W.Frag) (B : Hp) (d : PyData) (H : Hp) (Q : VK) : Prop := ∀ v H2, Ex H H2 → Dp K (Sep B H H2) v d → Q v H2
def SpN (K : PySem.W.Frag) (B : Hp) (sp : Sp) (vs : List V) (H : Hp) (d : PyData) : Prop := ∀ H1, Ex H H1 → ∀ Q : VK, RetN K B d H1 Q → ∀ E : XK, sp vs H1 Q E
theorem EvN.mono (e : Ex H H') (h : EvN K B te σ H d) : EvN K B te σ H' d := fun H1 a Q q => h H1 (e.trans a) Q q
theorem EvAN.mono (e : Ex H H') (h : EvAN K B tA σ H ds) : EvAN K B tA σ H' ds := fun H1 a Q q => h H1 (e.trans a) Q q
theorem EvN.wide {B' : Hp} (e : Ex B B') (h : EvN K B te σ H d) : EvN K B' te σ H d := fun H1 a Q q => h H1 a Q fun v H2 e2 hv => q v H2 e2 (dp_mono (sep_wide e) hv)
theorem EvN.evd (h : EvN K B te σ H d) : EvD K te σ H d := fun H1 e Q q => h H1 e Q fun v H2 e2 hv => q v H2 e2 (dp_mono sep_ex hv)
theorem evn_is (h : EvN K B te σ H d) (e : d = d') : EvN K B te σ H d' := e ▸ h
theorem evn_v (h : Ev te σ H v) (hd : ∀ H1, Dp K H1 v d) : EvN K B te σ H d := fun H1 e Q q => h H1 e Q fun H2 e2 => q v H2 e2 (hd _)
theorem evn_int {i : Int} (h : Ev te σ H (.int i)) : EvN K B te σ H (.int i) := evn_v h fun _ => .int i
theorem evn_bl {b : Bool} (h : Ev te σ H (.bl b)) : EvN K B te σ H (.bool b) := evn_v h fun _ => .bl b
theorem evn_str {w : Str} (h : Ev te σ H (.str w)) : EvN K B te σ H (.str w) := evn_v h fun _ => .str w
theorem evn_non (h : Ev te σ H .non) : EvN K B te σ H .none := evn_v h fun _ => .non
theorem evn_ref (hb : Ex B H) (h : Ev te σ H v) (hd : Dp K B v d) : EvN K B te σ H d := fun H1 e Q q => h H1 e Q fun H2 e2 => q v H2 e2 (dp_mono (sep_base (hb.trans (e.trans e2))) hd)
/-- a new list of what is data in B -/
theorem evn_l (hb : Ex B H) (h : EvL te σ H xs) (hd : DpAll K B xs ds) : EvN K B te σ H (.list ds) := fun H1 e Q q => h H1 e Q fun p H2 hp e2 h2 => q _ H2 e2 (.lst (sq_of (sep_in h2 (.inl hp))) (dp_monoAll (sep_base (hb.trans (e.trans e2))) hd))
theorem dpAll_intsB {ns : List Int} {H1 : Hp} : DpAll K H1 (ns.map V.int) (ns.map PyData.int) := dpAll_ints ns
theorem evn_ints {ns : List Int} (h : EvL te σ H (ns.map V.int)) : EvN K B te σ H (dInts ns) := fun H1 e Q q => h H1 e Q fun p H2 hp e2 h2 => q _ H2 e2 (.lst (sq_of (sep_in h2 (.inl hp))) (dpAll_ints ns))
theorem evn_u (hb : Ex B H) (h : EvU te σ H xs) (hd : DpAll K B xs ds) : EvN K B te σ H (.tuple ds) := fun H1 e Q q => h H1 e Q fun p H2 hp e2 h2 => q _ H2 e2 (.tup (st_of (sep_in h2 (.inl hp))) (dp_monoAll (sep_base (hb.trans (e.trans e2))) hd))
theorem evan_nil : EvAN K B tNil σ H [] := fun H1 _ _ q => q [] H1 (Ex.refl H1) .nil
theorem evan_cons (h : EvN K B ta σ H d) (hr : EvAN K B tr σ H ds) : EvAN K B (tCons ta tr) σ H (d :: ds) := fun H1 e Q q =>
  h H1 e _ fun v H2 e2 hv => hr H2 (e.trans e2) _ fun vs H3 e3 hvs => q _ H3 (e2.trans e3) (.cons (dp_mono (sep_next e3) hv) (dp_monoAll (sep_prev e2) hvs))
theorem evn_lst (h : EvAN K B tA σ H ds) (hl : ds.length ≤ 100000) : EvN K B (tLst tA) σ H (.list ds) := fun H1 e Q q =>
  h H1 e _ fun vs H2 e2 hv => ⟨sz_of (by rw [dp_len hv]; exact hl), fun p hp => q _ _ (e2.trans (Ex.new hp)) (.lst (sq_of (sep_in upd_same (.inl (fresh_back e2 hp)))) (dp_monoAll (sep_next (Ex.new hp)) hv))⟩
theorem evn_tup (h : EvAN K B tA σ H ds) (hl : ds.length ≤ 100000) : EvN K B (tTup tA) σ H (.tuple ds) := fun H1 e Q q =>
  h H1 e _ fun vs H2 e2 hv => ⟨sz_of (by rw [dp_len hv]; exact hl), fun p hp => q _ _ (e2.trans (Ex.new hp)) (.tup (st_of (sep_in upd_same (.inl (fresh_back e2 hp)))) (dp_monoAll (sep_next (Ex.new hp)) hv))⟩
theorem evn_if {b : Bool} (h : EvT tt σ H b) (h1 : b = true → EvN K B ta σ H d) (h2 : b = false → EvN K B tb σ H d) : EvN K B (tIf tt ta tb) σ H d := fun H1 e Q q => h H1 e _ fun H2 e2 => by
  cases b with
  | true => rw [if_pos rfl]; exact h1 rfl H2 (e.trans e2) Q fun v H3 e3 hv => q v H3 (e2.trans e3) (dp_mono (sep_prev e2) hv)
  | false => rw [if_neg (by decide)]; exact h2 rfl H2 (e.trans e2) Q fun v H3 e3 hv => q v H3 (e2.trans e3) (dp_mono (sep_prev e2) hv)
/-- a def whose promise gives data -/
theorem evn_call (ha : EvA tA σ H vs) (hs : SpN K B sp (vs ++ dvs) H d) : EvN K B (tCall sp dvs E tA) σ H d := fun H1 e Q q =>
  ha H1 e _ fun H2 e2 => hs H2 (e.trans e2) Q (fun v H3 e3 h3 => q v H3 (e2.trans e3) (dp_mono (sep_prev e2) h3)) E
theorem evn_meth (h : Ev ta σ H (.ref p)) (ho : H p = some (.ins C dx fs)) (hl : fs.lookup m = none) (ha : EvA tA σ H vs) (hs : SpN K B sp (.ref p :: (vs ++ dvs)) H d) : EvN K B (tMeth C m sp dvs E ta tA) σ H d := fun H1 e Q q =>
  h H1 e _ fun H2 e2 => ⟨p, dx, fs, rfl, (e.trans e2) p _ ho, hl, ha H2 (e.trans e2) _ fun H3 e3 => hs H3 ((e.trans e2).trans e3) Q (fun v H4 e4 h4 => q v H4 ((e2.trans e3).trans e4) (dp_mono (sep_prev (e2.trans e3)) h4)) E⟩
/-- a def that is given data: its promise holds for whatever heap the data stand in -/
def SpF (K : PySem.W.Frag) (sp : Sp) (ds : List PyData) (d : PyData) : Prop := ∀ (B H : Hp) (vs : List V), Ex B H → DpAll K B vs ds → ∀ Q : VK, RetN K B d H Q → ∀ E : XK, sp vs H Q E
theorem evn_callF (hb : Ex B H) (ha : EvAN K B tA σ H ds) (hs : SpF K sp ds d) : EvN K B (tCall sp [] E tA) σ H d := fun H1 e Q q =>
  ha H1 e _ fun vs H2 e2 hv => hs (Sep B H1 H2) H2 (vs ++ []) sep_ex (by rw [List.append_nil]; exact hv) Q (fun v H3 e3 h3 => q v H3 (e2.trans e3) (dp_mono (sep_sep e2) h3)) E
/-- [e for x in a list], e data -/
theorem evn_lcL (hb : Ex B H) (h : Ev tl σ H (.ref a)) (hx : SqL K H a xs) (hz : xs.length ≤ 40000) (hw : ∀ x, wipe ((wipe σ js).set j (some x)) js = wipe σ js) (hl : ds.length = xs.length)
    (he : ∀ (i : Nat) (x : V) (d : PyData), xs[i]? = some x → ds[i]? = some d → EvN K B te ((wipe σ js).set j (some x)) H d) : EvN K B (tLc (iList K tl) (gName j) tYes te js) σ H (.list ds) := fun H1 e Q q => h H1 e _ fun H2 e2 => ⟨a, rfl, ⟨xs, ex_l (e.trans e2) hx⟩, fun Dl hD => by
  have hB : B Dl = none := fresh_back (hb.trans (e.trans e2)) hD
  have h1D : H1 Dl = none := fresh_back e2 hD
  refine lc_list (xs := xs) (fun i H' => ∃ ys, Ex H2 H' ∧ H' Dl = some (.lst ys) ∧ DpAll K (Sep B H1 (del H' Dl)) ys (ds.take i)) ⟨[], Ex.new hD, upd_same, by rw [List.take_zero]; exact .nil⟩ (fun i H' _ p => ?_) (fun i x H' hi p => ?_) (fun H' p => ?_)
  · obtain ⟨ys, e3, _, _⟩ := p
    exact ex_l ((e.trans e2).trans e3) hx
  · obtain ⟨ys, e3, hy, hd⟩ := p
    have hlt : i < xs.length := (List.getElem?_eq_some_iff.mp hi).1
    obtain ⟨d0, hd0⟩ : ∃ d0, ds[i]? = some d0 := ⟨ds[i], List.getElem?_eq_getElem (by omega)⟩
    refine ⟨hw x, ?_⟩
    unfold tYes
    refine iteT ?_
    refine he i x d0 hi hd0 H' ((e.trans e2).trans e3) _ fun v H3 e4 hv => ⟨ys, e4 Dl _ hy, ?_, ys ++ [v], Ex.mut (e3.trans e4) hD, upd_same, ?_⟩
    · have := dp_len hd
      rw [this, List.length_take]
      exact sz_lt (by omega)
    · have hn : H' Dl ≠ none := by rw [hy]; exact fun z => by cases z
      have f1 : Ex (Sep B H' H3) (Sep B H1 (del (upd H3 Dl (.lst (ys ++ [v]))) Dl)) := fun b o hbo => by
        obtain ⟨q1, q2⟩ := sep_out hbo
        have hbD : b ≠ Dl := fun z => by subst z; rw [sep_off hn hB] at hbo; cases hbo
        exact sep_in (by rw [del_ne hbD, upd_ne hbD]; exact q2) (q1.imp (fresh_back (e2.trans e3)) id)
      have f2 : Ex (Sep B H1 (del H' Dl)) (Sep B H1 (del (upd H3 Dl (.lst (ys ++ [v]))) Dl)) := fun b o hbo => by
        obtain ⟨q1, q2⟩ := sep_out hbo
        have hbD : b ≠ Dl := fun z => by subst z; rw [del_same] at q2; cases q2
        rw [del_ne hbD] at q2
        exact sep_in (by rw [del_ne hbD, upd_ne hbD]; exact e4 b o q2) q1
      have et : ds.take (i + 1) = ds.take i ++ [d0] := by rw [List.take_add_one, hd0] <;> rfl
      rw [et]
      exact dp_app (dp_monoAll f2 hd) (.cons (dp_mono f1 hv) .nil)
  · obtain ⟨ys, e3, hy, hd⟩ := p
    rw [← hl, List.take_length] at hd
    have f3 : Ex (Sep B H1 (del H' Dl)) (Sep B H1 H') := fun b o hbo => by
      obtain ⟨q1, q2⟩ := sep_out hbo
      have hbD : b ≠ Dl := fun z => by subst z; rw [del_same] at q2; cases q2
      rw [del_ne hbD] at q2
      exact sep_in q2 q1
    exact q _ H' (e2.trans e3) (.lst (sq_of (sep_in hy (.inl h1D))) (dp_monoAll f3 hd))⟩
/-- the statements -/
theorem q_asgN (h : EvN K B te σ H d) (k : ∀ v H1, Ex H H1 → Dp K (Sep B H H1) v d → tz D (σ.set i (some v)) H1) : tSeq (tAsg te (gName i)) tz D σ H := h H (Ex.refl H) _ k
theorem s_retN (h : EvN K B te σ H d) (k : ∀ v H1, Ex H H1 → Dp K (Sep B H H1) v d → D.rt v H1) : tRet te D σ H := h H (Ex.refl H) _ k
end G
end
section
set_option maxHeartbeats 2000000
namespace K13
open PySem L2
def top (i : Nat) : Stmt := PySem.Challenge.pw_leadrules_k13_whole_tables_made_of_two.main.body.getD i (.Pass ⟨0, 0, 0, 0⟩)
abbrev s__wall : Stmt := (top 1)
abbrev s_is_day : Stmt := (top 3)
theorem sc_is_day : FnScope ["value"] ["value"] (defScope s_is_day) := ⟨rfl, rfl, rfl, by decide +kernel, rfl, by decide +kernel, by decide +kernel⟩
abbrev s_InvalidDay___init__ : Stmt := (inClass (top 6) 0)
abbrev s_InvalidTable___init__ : Stmt := (inClass (top 7) 0)
abbrev s_TooMany___init__ : Stmt := (inClass (top 9) 0)
theorem sc_TooMany___init__ : FnScope ["self", "what", "limit"] ["self", "what", "limit"] (defScope s_TooMany___init__) := ⟨rfl, rfl, rfl, by decide +kernel, rfl, by decide +kernel, by decide +kernel⟩
abbrev s_need_day : Stmt := (top 11)
theorem sc_need_day : FnScope ["value"] ["value"] (defScope s_need_day) := ⟨rfl, rfl, rfl, by decide +kernel, rfl, by decide +kernel, by decide +kernel⟩
abbrev s_is_list : Stmt := (top 12)
theorem sc_is_list : FnScope ["value"] ["value"] (defScope s_is_list) := ⟨rfl, rfl, rfl, by decide +kernel, rfl, by decide +kernel, by decide +kernel⟩
abbrev s_Table___init__ : Stmt := (inClass (top 14) 2)
theorem sc_Table___init__ : FnScope ["self", "days"] ["self", "days"] (defScope s_Table___init__) := ⟨rfl, rfl, rfl, by decide +kernel, rfl, by decide +kernel, by decide +kernel⟩
abbrev s_Table_length : Stmt := (inClass (top 14) 3)
theorem sc_Table_length : FnScope ["self"] ["self"] (defScope s_Table_length) := ⟨rfl, rfl, rfl, by decide +kernel, rfl, by decide +kernel, by decide +kernel⟩
abbrev s_Table_days : Stmt := (inClass (top 14) 4)
theorem sc_Table_days : FnScope ["self"] ["self"] (defScope s_Table_days) := ⟨rfl, rfl, rfl, by decide +kernel, rfl, by decide +kernel, by decide +kernel⟩
abbrev s_Table_asked_rows : Stmt := (inClass (top 14) 5)
theorem sc_Table_asked_rows : FnScope ["self"] ["self"] (defScope s_Table_asked_rows) := ⟨rfl, rfl, rfl, by decide +kernel, rfl, by decide +kernel, by decide +kernel⟩
abbrev s_Table_on : Stmt := (inClass (top 14) 6)
theorem sc_Table_on : FnScope ["self", "day", "turns", "place"] ["self", "day"] (defScope s_Table_on) := ⟨rfl, rfl, rfl, by decide +kernel, rfl, by decide +kernel, by decide +kernel⟩
abbrev s_Table___call__ : Stmt := (inClass (top 14) 7)
abbrev s_Table_by : Stmt := (inClass (top 14) 8)
theorem sc_Table_by : FnScope ["self", "day", "turns"] ["self", "day"] (defScope s_Table_by) := ⟨rfl, rfl, rfl, by decide +kernel, rfl, by decide +kernel, by decide +kernel⟩
abbrev s_Table_til : Stmt := (inClass (top 14) 9)
theorem sc_Table_til : FnScope ["self", "day"] ["self", "day"] (defScope s_Table_til) := ⟨rfl, rfl, rfl, by decide +kernel, rfl, by decide +kernel, by decide +kernel⟩
abbrev s_Table_answers : Stmt := (inClass (top 14) 10)
abbrev s_Table_is_served : Stmt := (inClass (top 14) 11)
abbrev s_Table_leads : Stmt := (inClass (top 14) 12)
abbrev s_Table_mean_lead : Stmt := (inClass (top 14) 13)
abbrev s_Table_fixed_days : Stmt := (inClass (top 14) 14)
abbrev s_Table_moved : Stmt := (inClass (top 14) 15)
abbrev s_Table_asked_later : Stmt := (inClass (top 14) 16)
abbrev s_Table_by_table : Stmt := (inClass (top 14) 17)
theorem sc_Table_by_table : FnScope ["self", "day"] ["self"] (defScope s_Table_by_table) := ⟨rfl, rfl, rfl, by decide +kernel, rfl, by decide +kernel, by decide +kernel⟩
abbrev s_Table_til_table : Stmt := (inClass (top 14) 18)
theorem sc_Table_til_table : FnScope ["self", "day"] ["self"] (defScope s_Table_til_table) := ⟨rfl, rfl, rfl, by decide +kernel, rfl, by decide +kernel, by decide +kernel⟩
abbrev s_Table_stretched : Stmt := (inClass (top 14) 19)
abbrev s_Table_shortest : Stmt := (inClass (top 14) 20)
theorem sc_Table_shortest : FnScope ["self", "lengths", "length"] ["self"] (defScope s_Table_shortest) := ⟨rfl, rfl, rfl, by decide +kernel, rfl, by decide +kernel, by decide +kernel⟩
abbrev s_Table_plain : Stmt := (inClass (top 14) 21)
abbrev s_Table_is_same : Stmt := (inClass (top 14) 22)
theorem sc_Table_is_same : FnScope ["self", "other_table"] ["self", "other_table"] (defScope s_Table_is_same) := ⟨rfl, rfl, rfl, by decide +kernel, rfl, by decide +kernel, by decide +kernel⟩
abbrev s_Table___eq__ : Stmt := (inClass (top 14) 23)
theorem sc_Table___eq__ : FnScope ["self", "other"] ["self", "other"] (defScope s_Table___eq__) := ⟨rfl, rfl, rfl, by decide +kernel, rfl, by decide +kernel, by decide +kernel⟩
abbrev s_Table___repr__ : Stmt := (inClass (top 14) 24)
abbrev s_is_table : Stmt := (top 15)
theorem sc_is_table : FnScope ["value", "rises", "day", "place"] ["value"] (defScope s_is_table) := ⟨rfl, rfl, rfl, by decide +kernel, rfl, by decide +kernel, by decide +kernel⟩
abbrev s__many_ahead : Stmt := (top 16)
theorem sc__many_ahead : FnScope ["days", "day", "low", "high", "middle"] ["days", "day"] (defScope s__many_ahead) := ⟨rfl, rfl, rfl, by decide +kernel, rfl, by decide +kernel, by decide +kernel⟩
abbrev s__repeats : Stmt := (top 17)
theorem sc__repeats : FnScope ["table", "length", "asked", "served"] ["table", "length"] (defScope s__repeats) := ⟨rfl, rfl, rfl, by decide +kernel, rfl, by decide +kernel, by decide +kernel⟩
abbrev s_behind : Stmt := (top 19)
theorem sc_behind : FnScope ["table", "other_table", "days", "day"] ["table", "other_table"] (defScope s_behind) := ⟨rfl, rfl, rfl, by decide +kernel, rfl, by decide +kernel, by decide +kernel⟩
abbrev s_later : Stmt := (top 20)
theorem sc_later : FnScope ["table", "other_table", "days", "day"] ["table", "other_table"] (defScope s_later) := ⟨rfl, rfl, rfl, by decide +kernel, rfl, by decide +kernel, by decide +kernel⟩
abbrev s_sooner : Stmt := (top 21)
theorem sc_sooner : FnScope ["table", "other_table", "days", "day"] ["table", "other_table"] (defScope s_sooner) := ⟨rfl, rfl, rfl, by decide +kernel, rfl, by decide +kernel, by decide +kernel⟩
abbrev s_first_above : Stmt := (top 22)
theorem sc_first_above : FnScope ["table", "other_table", "day"] ["table", "other_table"] (defScope s_first_above) := ⟨rfl, rfl, rfl, by decide +kernel, rfl, by decide +kernel, by decide +kernel⟩
abbrev s_most_above : Stmt := (top 23)
theorem sc_most_above : FnScope ["table", "other_table", "days", "day"] ["table", "other_table"] (defScope s_most_above) := ⟨rfl, rfl, rfl, by decide +kernel, rfl, by decide +kernel, by decide +kernel⟩
abbrev s_first_parting : Stmt := (top 24)
theorem sc_first_parting : FnScope ["table", "other_table", "day"] ["table", "other_table"] (defScope s_first_parting) := ⟨rfl, rfl, rfl, by decide +kernel, rfl, by decide +kernel, by decide +kernel⟩
abbrev s__common_length : Stmt := (top 25)
theorem sc__common_length : FnScope ["table", "other_table", "length"] ["table", "other_table"] (defScope s__common_length) := ⟨rfl, rfl, rfl, by decide +kernel, rfl, by decide +kernel, by decide +kernel⟩
abbrev s__law_pot : Stmt := (top 27)
theorem sc__law_pot : FnScope ["_law_script", "_law_k", "_law_cell"] ["_law_script", "_law_k"] (defScope s__law_pot) := ⟨rfl, rfl, rfl, by decide +kernel, rfl, by decide +kernel, by decide +kernel⟩
abbrev s__law_draw : Stmt := (top 28)
theorem sc__law_draw : FnScope ["_law_pot_here", "_law_size", "_law_digit"] ["_law_pot_here", "_law_size"] (defScope s__law_draw) := ⟨rfl, rfl, rfl, by decide +kernel, rfl, by decide +kernel, by decide +kernel⟩
abbrev s__law_pick : Stmt := (top 29)
theorem sc__law_pick : FnScope ["_law_pot_here", "_law_some"] ["_law_pot_here", "_law_some"] (defScope s__law_pick) := ⟨rfl, rfl, rfl, by decide +kernel, rfl, by decide +kernel, by decide +kernel⟩
abbrev s__law_days : Stmt := (top 30)
theorem sc__law_days : FnScope ["_law_pot_here", "_law_length", "_law_first", "_law_days_here", "_law_left", "_law_turn", "_law_step"] ["_law_pot_here", "_law_length", "_law_first"] (defScope s__law_days) := ⟨rfl, rfl, rfl, by decide +kernel, rfl, by decide +kernel, by decide +kernel⟩
abbrev s__law_on : Stmt := (top 31)
theorem sc__law_on : FnScope ["_law_days_here", "_law_day", "_law_part"] ["_law_days_here", "_law_day"] (defScope s__law_on) := ⟨rfl, rfl, rfl, by decide +kernel, rfl, by decide +kernel, by decide +kernel⟩
abbrev s__law_by : Stmt := (top 32)
abbrev s__law_til : Stmt := (top 33)
abbrev s__law_common : Stmt := (top 34)
theorem sc__law_common : FnScope ["_law_one", "_law_other", "_law_found"] ["_law_one", "_law_other"] (defScope s__law_common) := ⟨rfl, rfl, rfl, by decide +kernel, rfl, by decide +kernel, by decide +kernel⟩
abbrev s__law_told : Stmt := (top 35)
theorem sc__law_told : FnScope ["_law_table"] ["_law_table"] (defScope s__law_told) := ⟨rfl, rfl, rfl, by decide +kernel, rfl, by decide +kernel, by decide +kernel⟩
abbrev s__law_joined_right : Stmt := (top 36)
theorem sc__law_joined_right : FnScope ["_law_table", "_law_days_here", "_law_other_table", "_law_others", "_law_length", "_law_some", "_law_more", "_law_due", "_law_told_here", "_law_again", "_law_day", "_law_one"] ["_law_table", "_law_days_here", "_law_other_table", "_law_others"] (defScope s__law_joined_right) := ⟨rfl, rfl, rfl, by decide +kernel, rfl, by decide +kernel, by decide +kernel⟩
abbrev s__law_held_right : Stmt := (top 37)
theorem sc__law_held_right : FnScope ["_law_table", "_law_days_here", "_law_other_table", "_law_others", "_law_length", "_law_gaps", "_law_above", "_law_apart", "_law_due", "_law_told_here", "_law_again", "_law_day"] ["_law_table", "_law_days_here", "_law_other_table", "_law_others"] (defScope s__law_held_right) := ⟨rfl, rfl, rfl, by decide +kernel, rfl, by decide +kernel, by decide +kernel⟩
abbrev s__law_back_right : Stmt := (top 38)
theorem sc__law_back_right : FnScope ["_law_table", "_law_other_table", "_law_both", "_law_latest", "_law_soonest"] ["_law_table", "_law_other_table"] (defScope s__law_back_right) := ⟨rfl, rfl, rfl, by decide +kernel, rfl, by decide +kernel, by decide +kernel⟩
abbrev s__law_refusal : Stmt := (top 39)
theorem sc__law_refusal : FnScope ["_law_deed", "_law_table", "_law_other_table", "e"] ["_law_deed", "_law_table", "_law_other_table"] (defScope s__law_refusal) := ⟨rfl, rfl, rfl, by decide +kernel, rfl, by decide +kernel, by decide +kernel⟩
abbrev s__law_long_right : Stmt := (top 40)
theorem sc__law_long_right : FnScope ["_law_pot_here", "_law_days_here", "_law_others", "_law_long", "_law_wide", "_law_other", "_law_deeds", "_law_deed"] ["_law_pot_here"] (defScope s__law_long_right) := ⟨rfl, rfl, rfl, by decide +kernel, rfl, by decide +kernel, by decide +kernel⟩
abbrev s__law_right : Stmt := (top 41)
theorem sc__law_right : FnScope ["_law_pot_here", "_law_one", "_law_first", "_law_days_here", "_law_way", "_law_others", "_law_place", "_law_risen", "_law_table", "_law_other_table", "_law_day", "_law_at", "_law_served"] ["_law_pot_here"] (defScope s__law_right) := ⟨rfl, rfl, rfl, by decide +kernel, rfl, by decide +kernel, by decide +kernel⟩
abbrev s_law : Stmt := (top 42)
theorem sc_law : FnScope ["_law_script", "_law_k"] ["_law_script"] (defScope s_law) := ⟨rfl, rfl, rfl, by decide +kernel, rfl, by decide +kernel, by decide +kernel⟩
end K13
end
section
set_option maxHeartbeats 4000000
namespace K13
open PySem L2 Evl G TM
abbrev arith : List Value := [.type "ArithmeticError", .type "Exception", .type "BaseException", .type "object"]
structure Txt (K : PySem.W.Frag) (mg : Str → Option Value) (C CT fT : Addr) : Prop where
  cl : Cls K C
  nD : NoAttr K C "_days"
  kc : PySem.W.keepIn K (.ref C) = true
  mki : PySem.W.makesIn K C = true
  mg_Table : mg "Table" = some (.ref C)
  tyC : ∀ (H : Hp) (a dx : Addr) (fs : List (Str × V)), H a = some (.ins C dx fs) → TyOf K H (.ref a) (.ref C)
  cM : ∃ (mc : Value) (tk : Tok), ClX.CRead K C mc ∧ ClX.CVal K C mc "MOST_LENGTH" (.int 600) (.int 600 tk)
  own_TooMany : Own K "ArithmeticError" "ArithmeticError.__new__" "ArithmeticError.__init__" arith CT
  iC_TooMany : PySem.W.findIn K (.ref CT) "__init__" = some (some (.ref fT))
  tI_TooMany : PySem.W.typeIn K (.ref fT) = some (.type "function")
  no_what : PySem.W.findIn K (.ref CT) "what" = some none
  no_limit : PySem.W.findIn K (.ref CT) "limit" = some none
  xf : XfC K CT
  te : PySem.W.exmOne K (.ref CT) (.ref CT) = some true
  mg_TooMany : mg "TooMany" = some (.ref CT)
  b_isinstance : mg "isinstance" = none
  b_int : mg "int" = none
  b_bool : mg "bool" = none
  b_list : mg "list" = none
  b_tuple : mg "tuple" = none
  b_len : mg "len" = none
  b_enumerate : mg "enumerate" = none
  b_range : mg "range" = none
  b_divmod : mg "divmod" = none
  b_min : mg "min" = none
  b_max : mg "max" = none
  b_all : mg "all" = none
  b_abs : mg "abs" = none
  b_repr : mg "repr" = none
  b_lcm : mg "lcm" = some (.builtin "math.lcm")
structure Cal (P : Program) (w : World) (K : PySem.W.Frag) (mg : Str → Option Value) (base : Heap) (x : Str) (f : Addr) (fd : FuncData) (ps : List Str) (k : Nat) (sp : Sp) : Prop where
  ok : FnOk P w K mg base CX0 k f fd ps sp
  mgx : mg x = some (.ref f)
  kp : PySem.W.keepIn K (.ref f) = true
  bd : Binds K fd ps []
structure CalG (P : Program) (w : World) (K : PySem.W.Frag) (mg : Str → Option Value) (base : Heap) (x : Str) (f : Addr) (fd : FuncData) (ps : List Str) (k : Nat) (sp : Sp) : Prop where
  ok : FnG P w K mg base CX0 k f fd ps sp
  mgx : mg x = some (.ref f)
  kp : PySem.W.keepIn K (.ref f) = true
  bd : Binds K fd ps []
structure Met (P : Program) (w : World) (K : PySem.W.Frag) (mg : Str → Option Value) (base : Heap) (C : Addr) (m : Str) (f : Addr) (fd : FuncData) (ps : List Str) (k : Nat) (sp : Sp) : Prop where
  ok : FnOk P w K mg base CX0 k f fd ps sp
  me : Meth K C m f
  bd : Binds K fd ps []
structure Prp (P : Program) (w : World) (K : PySem.W.Frag) (mg : Str → Option Value) (base : Heap) (C : Addr) (m : Str) (p f : Addr) (fd : FuncData) (ps : List Str) (k : Nat) (sp : Sp) : Prop where
  ok : FnOk P w K mg base CX0 k f fd ps sp
  pr : PropOf K C m p f
  bd : Binds K fd ps []
structure MetG (P : Program) (w : World) (K : PySem.W.Frag) (mg : Str → Option Value) (base : Heap) (C : Addr) (m : Str) (f : Addr) (fd : FuncData) (ps : List Str) (k : Nat) (sp : Sp) : Prop where
  ok : FnG P w K mg base CX0 k f fd ps sp
  at_ : PySem.W.findIn K (.ref C) m = some (some (.ref f))
  fn : PySem.W.isFn K (.ref f) = true
  bd : Binds K fd ps []
def Tab (K : PySem.W.Frag) (C : Addr) (H : Hp) (p : Addr) (ns : List Int) : Prop := ∃ dx l, H p = some (.ins C dx [("_days", .ref l)]) ∧ SqL K H l (ns.map V.int)
theorem Tab.mono {K : PySem.W.Frag} {C p : Addr} {H H' : Hp} {ns : List Int} (e : Ex H H') (h : Tab K C H p ns) : Tab K C H' p ns := let ⟨dx, l, h1, h2⟩ := h; ⟨dx, l, e p _ h1, ex_l e h2⟩
/-! ### the promises -/
def sp_is_day : Sp := fun vs H Q _ => ∃ i, vs = [.int i] ∧ RetV (.bl true) H Q
def sp_need_day : Sp := fun vs H Q _ => ∃ i, vs = [.int i] ∧ RetV .non H Q
theorem spv_is_day {i : Int} {H : Hp} : SpV sp_is_day ([.int i] ++ []) H (.bl true) := fun H1 _ Q q E => ⟨i, rfl, q⟩
theorem spv_need_day {i : Int} {H : Hp} : SpV sp_need_day ([.int i] ++ []) H .non := fun H1 _ Q q E => ⟨i, rfl, q⟩
section
variable {P : Program} {w : World} {K : PySem.W.Frag} {mg : Str → Option Value} {base : Heap} {C CT fT : Addr}
theorem ev_isiB {σ : L2.St} {H : Hp} {ta : TE} {x : V} {t : String} {n : String} {b : Bool} (h : Ev ta σ H x) (ty : ∀ H1, Ex H H1 → TyX K H1 x (.type t)) (hb : kitB t n = some b) :
    Ev (tCB (rIsi K) (tCons ta (tCons (tC (.ty n)) tNil))) σ H (.bl b) := ev_cb (ea_cons h (ea_cons ev_c ea_nil)) (rc_isi (.ty n) ty (kit_ty hb))
theorem ok_is_day {f : Addr} {fd : FuncData} (F : Fun K "is_day" "is_day" s_is_day f fd) (T : Txt K mg C CT fT) : FnOk P w K mg base CX0 1 f fd ["value"] sp_is_day := by
  refine F.ok sc_is_day (fun vs H Q E h => ?_) (fun cdv A outer s H vs Q E hr h => ?_)
  · obtain ⟨i, rfl, _⟩ := h
    rfl
  · obtain ⟨i, rfl, k⟩ := h
    refine ⟨_, (pss_one (ps_ret (pe_and (pe_callB call_isi (by rfl) T.b_isinstance (by decide +kernel) (pa_cons (pv 0) (pa_cons (pe_bltn (v := .ty "int") (u := .type "int") (by rfl) T.b_int (by decide +kernel) rfl) pa_nil))) (pe_one (pe_not (pe_callB call_isi (by rfl) T.b_isinstance (by decide +kernel) (pa_cons (pv 0) (pa_cons (pe_bltn (v := .ty "bool") (u := .type "bool") (by rfl) T.b_bool (by decide +kernel) rfl) pa_nil)))))))), ?_⟩
    refine s_ret (ev_andV (b := true) (ev_isiB (b := true) (ev_var rfl) (fun _ _ => .base (.int i)) (by decide +kernel)) fun _ => ev_notV (a := false) (ev_isiB (b := false) (ev_var rfl) (fun _ _ => .base (.int i)) (by decide +kernel))) fun H1 e => k H1 e
theorem ok_need_day {f f1 : Addr} {fd fd1 : FuncData} (F : Fun K "need_day" "need_day" s_need_day f fd) (T : Txt K mg C CT fT) (c_is_day : Cal P w K mg base "is_day" f1 fd1 ["value"] 1 sp_is_day) : FnOk P w K mg base CX0 2 f fd ["value"] sp_need_day := by
  refine F.ok sc_need_day (fun vs H Q E h => ?_) (fun cdv A outer s H vs Q E hr h => ?_)
  · obtain ⟨i, rfl, _⟩ := h
    rfl
  · obtain ⟨i, rfl, k⟩ := h
    refine ⟨_, (pss_one (ps_if (pt_not (pt_val (pe_call c_is_day.ok (hr.mono (by decide)) (by rfl) c_is_day.mgx c_is_day.kp c_is_day.bd .nil pass0 (pa_cons (pv 0) pa_nil)))) (pss_one ps_never) pss_nil)), ?_⟩
    exact s_when (et_not (et_B (ev_call (ea_cons (ev_var rfl) ea_nil) spv_is_day))) (fun h => by cases h) fun _ H1 e => k H1 e
end
def Seq (K : PySem.W.Frag) (H : Hp) (p : Addr) (xs : List V) : Prop := SqL K H p xs ∨ SqT K H p xs
/-- a list or tuple that is tracked as itself (its type is known) -/
def SeqT (K : PySem.W.Frag) (H : Hp) (p : Addr) (xs : List V) : Prop := H p = some (.lst xs) ∨ H p = some (.tup xs)
theorem SeqT.seq {K : PySem.W.Frag} {H : Hp} {p : Addr} {xs : List V} (h : SeqT K H p xs) : Seq K H p xs := h.imp sq_of st_of
theorem SeqT.mono {K : PySem.W.Frag} {H H' : Hp} {p : Addr} {xs : List V} (e : Ex H H') (h : SeqT K H p xs) : SeqT K H' p xs := h.imp (e p _) (e p _)
def sp_is_list (K : PySem.W.Frag) : Sp := fun vs H Q _ => ∃ p xs, vs = [.ref p] ∧ SeqT K H p xs ∧ RetV (.bl true) H Q
theorem spv_is_list {K : PySem.W.Frag} {p : Addr} {xs : List V} {H : Hp} (h : SeqT K H p xs) : SpV (sp_is_list K) ([.ref p] ++ []) H (.bl true) := fun H1 e Q q E => ⟨p, xs, rfl, h.mono e, q⟩
def sp_is_table (K : PySem.W.Frag) : Sp := fun vs H Q _ => ∃ p ns, vs = [.ref p] ∧ SeqT K H p (ns.map V.int) ∧ Good ns ∧ RetV (.bl true) H Q
theorem spv_is_table {K : PySem.W.Frag} {p : Addr} {ns : List Int} {H : Hp} (h : SeqT K H p (ns.map V.int)) (g : Good ns) : SpV (sp_is_table K) ([.ref p] ++ []) H (.bl true) := fun H1 e Q q E => ⟨p, ns, rfl, h.mono e, g, q⟩
def sp_init (K : PySem.W.Frag) (C : Addr) : Sp := fun vs H Q _ => ∃ x dx p ns, vs = [.ref x, .ref p] ∧ H x = some (.ins C dx []) ∧ SeqT K H p (ns.map V.int) ∧ Good ns ∧
  ∀ l H', (∀ b o, H b = some o → b ≠ x → H' b = some o) → H' x = some (.ins C dx [("_days", .ref l)]) → H' l = some (.lst (ns.map V.int)) → H l = none → Q .non H'
structure Ini (P : Program) (w : World) (K : PySem.W.Frag) (mg : Str → Option Value) (base : Heap) (C : Addr) (f : Addr) (fd : FuncData) : Prop where
  ok : FnOk P w K mg base CX0 3 f fd ["self", "days"] (sp_init K C)
  bd : Binds K fd ["self", "days"] []
theorem getI {ns : List Int} {i : Nat} (h : i < ns.length) : (ns.map V.int)[i]? = some (.int (ns.getD i 0)) := by
  rw [List.getElem?_map, List.getElem?_eq_getElem h, List.getD_eq_getElem?_getD, List.getElem?_eq_getElem h] <;> rfl
theorem atI_get {xs : List V} {i : Nat} {v : V} (h : xs[i]? = some v) : atI xs (i : Int) = some v := atI_nat h
theorem atI_int {ns : List Int} {i : Int} (h0 : 0 ≤ i) (h : i < (ns.length : Int)) : atI (ns.map V.int) i = some (.int (ns.getD i.toNat 0)) := by
  obtain ⟨k, rfl⟩ : ∃ k : Nat, i = (k : Int) := ⟨i.toNat, by omega⟩
  rw [Int.toNat_natCast]
  exact atI_nat (getI (by omega))
theorem atI_m1 {ns : List Int} (h : 1 ≤ ns.length) : atI (ns.map V.int) (-1) = some (.int (ns.getD (ns.length - 1) 0)) := by
  have e : ns.map V.int = (ns.dropLast).map V.int ++ [.int (ns.getD (ns.length - 1) 0)] := by
    have hne : ns ≠ [] := by intro q; subst q; simp at h
    conv => lhs; rw [← List.dropLast_concat_getLast hne]
    rw [List.map_append, List.getLast_eq_getElem, List.getD_eq_getElem?_getD, List.getElem?_eq_getElem (by omega)] <;> rfl
  rw [e]
  exact atI_last _ _
section
variable {P : Program} {w : World} {K : PySem.W.Frag} {mg : Str → Option Value} {base : Heap} {C CT fT : Addr}
theorem ok_is_list {f : Addr} {fd : FuncData} (F : Fun K "is_list" "is_list" s_is_list f fd) (T : Txt K mg C CT fT) : FnOk P w K mg base CX0 1 f fd ["value"] (sp_is_list K) := by
  refine F.ok sc_is_list (fun vs H Q E h => ?_) (fun cdv A outer s H vs Q E hr h => ?_)
  · obtain ⟨p, xs, rfl, _⟩ := h
    rfl
  · obtain ⟨p, xs, rfl, hs, k⟩ := h
    refine ⟨_, (pss_one (ps_ret (pe_callB call_isiT (by rfl) T.b_isinstance (by decide +kernel) (pa_cons (pv 0) (pa_cons (pe_tup (pa_cons (pe_bltn (v := .ty "list") (u := .type "list") (by rfl) T.b_list (by decide +kernel) rfl) (pa_cons (pe_bltn (v := .ty "tuple") (u := .type "tuple") (by rfl) T.b_tuple (by decide +kernel) rfl) pa_nil))) pa_nil))))), ?_⟩
    rcases hs with hs | hs
    · refine ⟨_, rfl, by decide, fun t ht => ?_⟩
      refine ⟨.ref p, t, [.ty "list", .ty "tuple"], .type "list", [.type "list", .type "tuple"], true, rfl, upd_same, .cons (.ty _) (.cons (.ty _) .nil), .base (.lst (by rw [upd_ne (ne_of_none hs ht)]; exact hs)), kitAny_cons (b := true) (kit_ty (by decide +kernel)) (fun h => nomatch h) (fun _ => rfl), k _ (Ex.new ht)⟩
    · refine ⟨_, rfl, by decide, fun t ht => ?_⟩
      refine ⟨.ref p, t, [.ty "list", .ty "tuple"], .type "tuple", [.type "list", .type "tuple"], true, rfl, upd_same, .cons (.ty _) (.cons (.ty _) .nil), .base (.tup (by rw [upd_ne (ne_of_none hs ht)]; exact hs)), kitAny_cons (b := false) (kit_ty (by decide +kernel)) (fun _ => kitAny_cons (b := true) (kit_ty (by decide +kernel)) (fun h => nomatch h) (fun _ => rfl)) (fun h => nomatch h), k _ (Ex.new ht)⟩
/-- range(n) of a comprehension that keeps all -/
theorem given_all {n : Nat} {v : Nat → V} : given n (fun _ => true) v = (List.range n).map v := by
  unfold given
  rw [List.filter_eq_self.mpr (fun _ _ => rfl)]
theorem lc_true {σ : L2.St} {H : Hp} : EvT tYes σ H true := fun H1 _ _ q => q H1 (Ex.refl _)
theorem all_map_true {n : Nat} {f : Nat → Bool} (h : ∀ i, i < n → f i = true) : ((List.range n).map f).all id = true := by
  rw [List.all_map, List.all_eq_true]
  exact fun i hi => h i (List.mem_range.mp hi)
theorem rv_res {r : R2} {x y z z' : V} {H : Hp} (h : RV r x y H z) (e : z = z') : RV r x y H z' := e ▸ h
theorem ev_glob {σ : L2.St} {H : Hp} {v : V} : Ev (tC v) σ H v := ev_c
theorem ev_const {σ : L2.St} {H : Hp} {mc : Value} {f : Str} {v : V} {u : Value} {te : TE} (h : Ev te σ H (.ref C)) (r : ClX.CRead K C mc) (k : ClX.CVal K C mc f v u) : Ev (ClX.tCVal K te f) σ H v := fun H1 e Q q =>
  h H1 e _ fun H2 e2 => ⟨C, mc, v, u, rfl, r, k, q H2 e2⟩
theorem ok_is_table {f f1 f2 : Addr} {fd fd1 fd2 : FuncData} (F : Fun K "is_table" "is_table" s_is_table f fd) (T : Txt K mg C CT fT) (c_is_list : Cal P w K mg base "is_list" f1 fd1 ["value"] 1 (sp_is_list K)) (c_is_day : Cal P w K mg base "is_day" f2 fd2 ["value"] 1 sp_is_day) :
    FnOk P w K mg base CX0 2 f fd ["value"] (sp_is_table K) := by
  refine F.ok sc_is_table (fun vs H Q E h => ?_) (fun cdv A outer s H vs Q E hr h => ?_)
  · obtain ⟨p, ns, rfl, _⟩ := h
    rfl
  · obtain ⟨p, ns, rfl, hs, g, k⟩ := h
    obtain ⟨mc, tkq, rd, cv⟩ := T.cM
    have hgp := g.pos
    have hgm := g.most
    rcases hs with hs | hs
    · have hq := sq_of (K := K) hs
      refine ⟨_, (pss_cons (ps_if (PW.pt (pw_or (pt_not (pt_val (pe_call c_is_list.ok (hr.mono (by decide)) (by rfl) c_is_list.mgx c_is_list.kp c_is_list.bd .nil pass0 (pa_cons (pv 0) pa_nil)))) (pw_or1 (pt_not (pt_chain op_le op_le pe_int (pe_callB (lenS (K := K) rfl) (by rfl) T.b_len (by decide +kernel) (pa_cons (pv 0) pa_nil)) (ClX.pe_cval (pe_glob (v := .ref C) rfl T.mg_Table rfl))))))) (pss_one (ps_ret pe_bl)) pss_nil) (pss_cons (ps_if (pt_not (pt_val (pe_callB (allL (K := K) rfl rfl) (by rfl) T.b_all (by decide +kernel) (pa_cons (pe_lc (own := [("day", 2)]) (g := (gName 2)) (by rfl) sc_is_table.nd (piL (K := K) rfl (pv 0)) (blkOk_by (own := [("day", 2)]) (N := ["value", "rises", "day", "place"]) (sc := defScope s_is_table) (by decide +kernel)) (fun _ _ _ _ _ => (pg_name (i := 2) sc_is_table.nd rfl (Or.inl rfl))) (fun _ _ _ _ _ => pts_nil) (fun _ _ _ _ _ => (pe_call c_is_day.ok (hr.mono (by decide)) (by rfl) c_is_day.mgx c_is_day.kp c_is_day.bd .nil pass0 (pa_cons (pv 2) pa_nil)))) pa_nil)))) (pss_one (ps_ret pe_bl)) pss_nil) (pss_cons (ps_set (i := 1) sc_is_table.nd rfl (Or.inl rfl) (pe_callB (allL (K := K) rfl rfl) (by rfl) T.b_all (by decide +kernel) (pa_cons (pe_lc (own := [("place", 3)]) (g := (gName 3)) (by rfl) sc_is_table.nd (pi_range1 (by rfl) T.b_range (pa_cons (pe_op op_sub (pe_callB (lenS (K := K) rfl) (by rfl) T.b_len (by decide +kernel) (pa_cons (pv 0) pa_nil)) pe_int) pa_nil)) (blkOk_by (own := [("place", 3)]) (N := ["value", "rises", "day", "place"]) (sc := defScope s_is_table) (by decide +kernel)) (fun _ _ _ _ _ => (pg_name (i := 3) sc_is_table.nd rfl (Or.inl rfl))) (fun _ _ _ _ _ => pts_nil) (fun _ _ _ _ _ => (pe_cmpR op_le (pe_ix (ixL (K := K) rfl) (pv 0) (pv 3) (fun _ _ => rfl)) (pe_ix (ixL (K := K) rfl) (pv 0) (pe_op op_add (pv 3) pe_int) (fun _ _ => rfl)) (nomark _)))) pa_nil))) (pss_one (ps_ret (pe_and (pv 1) (pe_one (pe_cmpR op_le (pe_op op_sub (pe_ix (ixL (K := K) rfl) (pv 0) (pe_un un_neg pe_int) (fun _ _ => rfl)) (pe_ix (ixL (K := K) rfl) (pv 0) pe_int (fun _ _ => rfl))) (pe_callB (lenS (K := K) rfl) (by rfl) T.b_len (by decide +kernel) (pa_cons (pv 0) pa_nil)) (nomark _))))))))), ?_⟩
      refine q_when (b := false) (et_or (a := false) (b := false) (et_not (a := true) (et_B (ev_call (ea_cons (ev_var rfl) ea_nil) (spv_is_list (.inl hs))))) fun _ => et_not (a := true) (et_test (ev_chain (y := .int (ns.length : Int)) (ev_c (v := .int 1)) (ev_cb (ea_cons (ev_var rfl) ea_nil) (rc_len (.inl hq) (by rw [List.length_map]))) (rv_res rv_I0 (by simp; omega)) (ev_const ev_glob rd cv) (rv_res rv_I0 (by simp; omega))))) (fun q => nomatch q) fun _ H1 e1 => ?_
      refine q_when (b := false) (et_not (a := true) (et_B (ev_allT (n := ns.length) (by
        have e0 : (ns.map V.int).length = ns.length := List.length_map ..
        rw [← e0]
        refine el_lcL (fun _ => true) (fun _ => V.bl true) (ev_var rfl) (ex_l e1 hq) (by rw [e0]; omega) (fun _ => rfl) (fun _ _ _ _ _ => lc_yes) (fun i x H2 e2 hi _ => ?_)
        rw [List.getElem?_map] at hi
        obtain ⟨n, _, rfl⟩ := Option.map_eq_some_iff.mp hi
        exact ev_call (ea_cons (ev_var rfl) ea_nil) spv_is_day)))) (fun q => nomatch q) fun _ H2 e2 => ?_
      refine q_asg (v := .bl true) (ev_allT (n := ((ns.length : Int) - 1).toNat) (el_lcR1 (fun _ => true) (fun _ => V.bl true) (ea_cons (ev_op (ev_cb (ea_cons (ev_var rfl) ea_nil) (rc_len (.inl (ex_l (e1.trans e2) hq)) (by rw [List.length_map]))) ev_c rv_I0) ea_nil) (by omega) (fun _ => rfl) (fun _ _ _ _ => lc_yes) (fun i H3 e3 hi _ => ?_))) fun H3 e3 => ?_
      · have hi' : i + 1 < ns.length := by omega
        have hu := g.up i (i + 1) (by omega) hi'
        refine ev_is (ev_op (ev_op (ev_var rfl) (ev_var rfl) (rv_ixL (ex_l ((e1.trans e2).trans e3) hq) (atI_nat (getI (by omega : i < ns.length))))) (ev_op (ev_var rfl) (ev_is (ev_op (ev_var rfl) ev_c rv_I0) (by congr 1 : V.int ((i : Int) + 1) = V.int ((i + 1 : Nat) : Int))) (rv_ixL (ex_l ((e1.trans e2).trans e3) hq) (atI_nat (getI hi')))) rv_I0) (congrArg V.bl (decide_eq_true hu))
      · have hsp := g.span
        refine s_ret (ev_is (ev_andV (a := true) (ev_var rfl) fun _ => ev_op (ev_op (ev_op (ev_var rfl) (ev_un ev_c ru_neg) (rv_ixL (ex_l ((e1.trans e2).trans e3) hq) (atI_m1 hgp))) (ev_op (ev_var rfl) ev_c (rv_ixL (ex_l ((e1.trans e2).trans e3) hq) (atI_int (by decide) (by omega)))) rv_I0) (ev_cb (ea_cons (ev_var rfl) ea_nil) (rc_len (.inl (ex_l ((e1.trans e2).trans e3) hq)) (by rw [List.length_map]))) rv_I0) (congrArg V.bl (decide_eq_true hsp))) fun H4 e4 => k H4 (((e1.trans e2).trans e3).trans e4)
    · have hq := st_of (K := K) hs
      refine ⟨_, (pss_cons (ps_if (PW.pt (pw_or (pt_not (pt_val (pe_call c_is_list.ok (hr.mono (by decide)) (by rfl) c_is_list.mgx c_is_list.kp c_is_list.bd .nil pass0 (pa_cons (pv 0) pa_nil)))) (pw_or1 (pt_not (pt_chain op_le op_le pe_int (pe_callB (lenS (K := K) rfl) (by rfl) T.b_len (by decide +kernel) (pa_cons (pv 0) pa_nil)) (ClX.pe_cval (pe_glob (v := .ref C) rfl T.mg_Table rfl))))))) (pss_one (ps_ret pe_bl)) pss_nil) (pss_cons (ps_if (pt_not (pt_val (pe_callB (allL (K := K) rfl rfl) (by rfl) T.b_all (by decide +kernel) (pa_cons (pe_lc (own := [("day", 2)]) (g := (gName 2)) (by rfl) sc_is_table.nd (piT (K := K) rfl (pv 0)) (blkOk_by (own := [("day", 2)]) (N := ["value", "rises", "day", "place"]) (sc := defScope s_is_table) (by decide +kernel)) (fun _ _ _ _ _ => (pg_name (i := 2) sc_is_table.nd rfl (Or.inl rfl))) (fun _ _ _ _ _ => pts_nil) (fun _ _ _ _ _ => (pe_call c_is_day.ok (hr.mono (by decide)) (by rfl) c_is_day.mgx c_is_day.kp c_is_day.bd .nil pass0 (pa_cons (pv 2) pa_nil)))) pa_nil)))) (pss_one (ps_ret pe_bl)) pss_nil) (pss_cons (ps_set (i := 1) sc_is_table.nd rfl (Or.inl rfl) (pe_callB (allL (K := K) rfl rfl) (by rfl) T.b_all (by decide +kernel) (pa_cons (pe_lc (own := [("place", 3)]) (g := (gName 3)) (by rfl) sc_is_table.nd (pi_range1 (by rfl) T.b_range (pa_cons (pe_op op_sub (pe_callB (lenS (K := K) rfl) (by rfl) T.b_len (by decide +kernel) (pa_cons (pv 0) pa_nil)) pe_int) pa_nil)) (blkOk_by (own := [("place", 3)]) (N := ["value", "rises", "day", "place"]) (sc := defScope s_is_table) (by decide +kernel)) (fun _ _ _ _ _ => (pg_name (i := 3) sc_is_table.nd rfl (Or.inl rfl))) (fun _ _ _ _ _ => pts_nil) (fun _ _ _ _ _ => (pe_cmpR op_le (pe_ix (ixT (K := K) rfl) (pv 0) (pv 3) (fun _ _ => rfl)) (pe_ix (ixT (K := K) rfl) (pv 0) (pe_op op_add (pv 3) pe_int) (fun _ _ => rfl)) (nomark _)))) pa_nil))) (pss_one (ps_ret (pe_and (pv 1) (pe_one (pe_cmpR op_le (pe_op op_sub (pe_ix (ixT (K := K) rfl) (pv 0) (pe_un un_neg pe_int) (fun _ _ => rfl)) (pe_ix (ixT (K := K) rfl) (pv 0) pe_int (fun _ _ => rfl))) (pe_callB (lenS (K := K) rfl) (by rfl) T.b_len (by decide +kernel) (pa_cons (pv 0) pa_nil)) (nomark _))))))))), ?_⟩
      refine q_when (b := false) (et_or (a := false) (b := false) (et_not (a := true) (et_B (ev_call (ea_cons (ev_var rfl) ea_nil) (spv_is_list (.inr hs))))) fun _ => et_not (a := true) (et_test (ev_chain (y := .int (ns.length : Int)) (ev_c (v := .int 1)) (ev_cb (ea_cons (ev_var rfl) ea_nil) (rc_len (.inr hq) (by rw [List.length_map]))) (rv_res rv_I0 (by simp; omega)) (ev_const ev_glob rd cv) (rv_res rv_I0 (by simp; omega))))) (fun q => nomatch q) fun _ H1 e1 => ?_
      refine q_when (b := false) (et_not (a := true) (et_B (ev_allT (n := ns.length) (by
        have e0 : (ns.map V.int).length = ns.length := List.length_map ..
        rw [← e0]
        refine el_lcT (fun _ => true) (fun _ => V.bl true) (ev_var rfl) (ex_t e1 hq) (by rw [e0]; omega) (fun _ => rfl) (fun _ _ _ _ _ => lc_yes) (fun i x H2 e2 hi _ => ?_)
        rw [List.getElem?_map] at hi
        obtain ⟨n, _, rfl⟩ := Option.map_eq_some_iff.mp hi
        exact ev_call (ea_cons (ev_var rfl) ea_nil) spv_is_day)))) (fun q => nomatch q) fun _ H2 e2 => ?_
      refine q_asg (v := .bl true) (ev_allT (n := ((ns.length : Int) - 1).toNat) (el_lcR1 (fun _ => true) (fun _ => V.bl true) (ea_cons (ev_op (ev_cb (ea_cons (ev_var rfl) ea_nil) (rc_len (.inr (ex_t (e1.trans e2) hq)) (by rw [List.length_map]))) ev_c rv_I0) ea_nil) (by omega) (fun _ => rfl) (fun _ _ _ _ => lc_yes) (fun i H3 e3 hi _ => ?_))) fun H3 e3 => ?_
      · have hi' : i + 1 < ns.length := by omega
        have hu := g.up i (i + 1) (by omega) hi'
        refine ev_is (ev_op (ev_op (ev_var rfl) (ev_var rfl) (rv_ixT (ex_t ((e1.trans e2).trans e3) hq) (atI_nat (getI (by omega : i < ns.length))))) (ev_op (ev_var rfl) (ev_is (ev_op (ev_var rfl) ev_c rv_I0) (by congr 1 : V.int ((i : Int) + 1) = V.int ((i + 1 : Nat) : Int))) (rv_ixT (ex_t ((e1.trans e2).trans e3) hq) (atI_nat (getI hi')))) rv_I0) (congrArg V.bl (decide_eq_true hu))
      · have hsp := g.span
        refine s_ret (ev_is (ev_andV (a := true) (ev_var rfl) fun _ => ev_op (ev_op (ev_op (ev_var rfl) (ev_un ev_c ru_neg) (rv_ixT (ex_t ((e1.trans e2).trans e3) hq) (atI_m1 hgp))) (ev_op (ev_var rfl) ev_c (rv_ixT (ex_t ((e1.trans e2).trans e3) hq) (atI_int (by decide) (by omega)))) rv_I0) (ev_cb (ea_cons (ev_var rfl) ea_nil) (rc_len (.inr (ex_t ((e1.trans e2).trans e3) hq)) (by rw [List.length_map]))) rv_I0) (congrArg V.bl (decide_eq_true hsp))) fun H4 e4 => k H4 (((e1.trans e2).trans e3).trans e4)
end
def sp_many (K : PySem.W.Frag) : Sp := fun vs H Q _ => ∃ p ns d c, vs = [.ref p, .int d] ∧ SqL K H p (ns.map V.int) ∧ Good ns ∧ IsCnt ns d c ∧ RetV (.int (c : Int)) H Q
theorem spv_many {K : PySem.W.Frag} {p : Addr} {ns : List Int} {d : Int} {c : Nat} {H : Hp} (h : SqL K H p (ns.map V.int)) (g : Good ns) (hc : IsCnt ns d c) : SpV (sp_many K) ([.ref p, .int d] ++ []) H (.int (c : Int)) := fun H1 e Q q E => ⟨p, ns, d, c, rfl, ex_l e h, g, hc, q⟩
section
variable {P : Program} {w : World} {K : PySem.W.Frag} {mg : Str → Option Value} {base : Heap} {C CT fT : Addr}
theorem ok_many {f : Addr} {fd : FuncData} (F : Fun K "_many_ahead" "_many_ahead" s__many_ahead f fd) (T : Txt K mg C CT fT) : FnOk P w K mg base CX0 1 f fd ["days", "day"] (sp_many K) := by
  refine F.ok sc__many_ahead (fun vs H Q E h => ?_) (fun cdv A outer s H vs Q E hr h => ?_)
  · obtain ⟨p, ns, d, c, rfl, _⟩ := h
    rfl
  · obtain ⟨p, ns, d, c, rfl, hs, g, hc, k⟩ := h
    refine ⟨_, (pss_cons (ps_par (i := 2) (j := 3) (by rfl) sc__many_ahead.nd rfl rfl (by decide) rfl rfl (pa_cons pe_int (pa_cons (pe_callB (lenS (K := K) rfl) (by rfl) T.b_len (by decide +kernel) (pa_cons (pv 0) pa_nil)) pa_nil)) (by rfl)) (pss_cons (ps_while PassesOwn.never (pt_cmpR op_lt (pv 2) (pv 3) (nomark _)) (pss_cons (ps_set (i := 4) sc__many_ahead.nd rfl (Or.inl rfl) (pe_op op_fdivN (pe_op op_add (pv 2) (pv 3)) pe_int)) (pss_one (ps_if (pt_cmpR op_lt (pe_ix (ixL (K := K) rfl) (pv 0) (pv 4) (fun _ _ => rfl)) (pv 1) (nomark _)) (pss_one (ps_set (i := 2) sc__many_ahead.nd rfl (Or.inl rfl) (pe_op op_add (pv 4) pe_int))) (pss_one (ps_set (i := 3) sc__many_ahead.nd rfl (Or.inl rfl) (pv 4))))))) (pss_one (ps_ret (pv 2))))), ?_⟩
    refine q_par (v := .int 0) (w := .int (ns.length : Int)) (ea_cons ev_c (ea_cons (ev_cb (ea_cons (ev_var rfl) ea_nil) (rc_len (.inl hs) (by rw [List.length_map]))) ea_nil)) fun H1 e1 => ?_
    refine q_while (fun m σ' H' => ∃ lo hi : Nat, m = hi - lo ∧ lo ≤ hi ∧ hi ≤ ns.length ∧ Ex H H' ∧ lo ≤ c ∧ c ≤ hi ∧ ∃ mid : Option V, σ' = [some (.ref p), some (.int d), some (.int (lo : Int)), some (.int (hi : Int)), mid]) ns.length ⟨0, ns.length, by omega, by omega, Nat.le_refl _, e1, by omega, hc.1, none, rfl⟩ ?_
    rintro m σ' H' ⟨lo, hi, rfl, h1, h2, e, h3, h4, mid, rfl⟩
    refine ⟨decide ((lo : Int) < (hi : Int)), et_test (ev_op (ev_var rfl) (ev_var rfl) rv_I0), fun ht H2 e2 => ?_, fun ht H2 e2 => ?_⟩
    · have hlt : lo < hi := by have := of_decide_eq_true ht; omega
      have hmid : ((lo : Int) + (hi : Int)).fdiv 2 = (((lo + hi) / 2 : Nat) : Int) := by
        rw [Int.fdiv_eq_ediv_of_nonneg _ (by decide)]; omega
      refine ⟨fun σ2 H3 => ∃ lo' hi' : Nat, hi' - lo' < hi - lo ∧ lo' ≤ hi' ∧ hi' ≤ ns.length ∧ Ex H H3 ∧ lo' ≤ c ∧ c ≤ hi' ∧ ∃ mid : Option V, σ2 = [some (.ref p), some (.int d), some (.int (lo' : Int)), some (.int (hi' : Int)), mid],
        fun σ2 H3 ⟨lo', hi', q1, q2, q3, q4, q5, q6, q7⟩ => ⟨hi' - lo', q1, lo', hi', rfl, q2, q3, q4, q5, q6, q7⟩, ?_⟩
      refine q_asg (v := .int (((lo + hi) / 2 : Nat) : Int)) (ev_is (ev_op (ev_op (ev_var rfl) (ev_var rfl) rv_I0) ev_c (rv_I ⟨by decide, by decide⟩)) (by rw [hmid])) fun H3 e3 => ?_
      have hm1 : lo ≤ (lo + hi) / 2 := by omega
      have hm2 : (lo + hi) / 2 < hi := by omega
      have e4 : Ex H H3 := (e.trans e2).trans e3
      refine s_if (et_test (ev_op (ev_op (ev_var rfl) (ev_var rfl) (rv_ixL (ex_l e4 hs) (atI_nat (getI (by omega : (lo + hi) / 2 < ns.length))))) (ev_var rfl) rv_I0)) (fun hb H4 e5 => ?_) (fun hb H4 e5 => ?_)
      · have hlo : ns.getD ((lo + hi) / 2) 0 < d := of_decide_eq_true hb
        refine s_asg (v := .int (((lo + hi) / 2 + 1 : Nat) : Int)) (ev_is (ev_op (ev_var rfl) ev_c rv_I0) (by congr 1)) fun H5 e6 => ?_
        refine ⟨(lo + hi) / 2 + 1, hi, by omega, by omega, h2, (e4.trans e5).trans e6, ?_, h4, _, rfl⟩
        refine Classical.byContradiction fun q => ?_
        have := hc.2.2 ((lo + hi) / 2) (by omega) (by omega)
        omega
      · have hlo : ¬ ns.getD ((lo + hi) / 2) 0 < d := of_decide_eq_false hb
        refine s_asg (ev_var rfl) fun H5 e6 => ?_
        refine ⟨lo, (lo + hi) / 2, by omega, by omega, by omega, (e4.trans e5).trans e6, h3, ?_, _, rfl⟩
        refine Classical.byContradiction fun q => ?_
        have := hc.2.1 ((lo + hi) / 2) (by omega)
        omega
    · have hge : ¬ (lo : Int) < (hi : Int) := of_decide_eq_false ht
      have e0 : lo = c := by omega
      subst e0
      exact s_ret (ev_var rfl) fun H3 e3 => k H3 ((e.trans e2).trans e3)
end
end K13
end
section
set_option maxHeartbeats 4000000
namespace K13
open PySem L2 Evl G TM
def RetR (xs : List V) (H : Hp) (Q : VK) : Prop := ∀ (l : Addr) (ts : List Addr) (H2 : Hp), H l = none → Ex H H2 → H2 l = some (.lst (ts.map V.ref)) → ts.length = xs.length → (∀ (j : Nat) (T : Addr) (x : V), ts[j]? = some T → xs[j]? = some x → H2 T = some (.tup [.int (j : Int), x])) → Q (.ref l) H2
/-! ### the promises of a Table's methods -/
def sp_length (K : PySem.W.Frag) (C : Addr) : Sp := fun vs H Q _ => ∃ p ns, vs = [.ref p] ∧ Tab K C H p ns ∧ RetV (.int (ns.length : Int)) H Q
def sp_days (K : PySem.W.Frag) (C : Addr) : Sp := fun vs H Q _ => ∃ p ns, vs = [.ref p] ∧ Tab K C H p ns ∧ RetL (ns.map V.int) H Q
def sp_rows (K : PySem.W.Frag) (C : Addr) : Sp := fun vs H Q _ => ∃ p ns, vs = [.ref p] ∧ Tab K C H p ns ∧ RetR (ns.map V.int) H Q
def sp_on (K : PySem.W.Frag) (C : Addr) : Sp := fun vs H Q _ => ∃ p ns x, vs = [.ref p, .int x] ∧ Tab K C H p ns ∧ Good ns ∧ RetV (.int (onL ns x)) H Q
def sp_by (K : PySem.W.Frag) (C : Addr) : Sp := fun vs H Q _ => ∃ p ns x, vs = [.ref p, .int x] ∧ Tab K C H p ns ∧ Good ns ∧ RetV (.int (byL ns x)) H Q
def sp_til (K : PySem.W.Frag) (C : Addr) : Sp := fun vs H Q _ => ∃ p ns x, vs = [.ref p, .int x] ∧ Tab K C H p ns ∧ Good ns ∧ RetV (.int (byL ns (x + 1) - 1)) H Q
section
variable {K : PySem.W.Frag} {C p : Addr} {H : Hp} {ns : List Int} {x : Int}
theorem spv_length (t : Tab K C H p ns) : SpV (sp_length K C) [.ref p] H (.int (ns.length : Int)) := fun H1 e Q q E => ⟨p, ns, rfl, t.mono e, q⟩
theorem spl_days (t : Tab K C H p ns) : SpL (sp_days K C) [.ref p] H (ns.map V.int) := fun H1 e Q q E => ⟨p, ns, rfl, t.mono e, q⟩
theorem spr_rows (t : Tab K C H p ns) : SpR (sp_rows K C) [.ref p] H (ns.map V.int) := fun H1 e Q q E => ⟨p, ns, rfl, t.mono e, q⟩
theorem spv_on (t : Tab K C H p ns) (g : Good ns) : SpV (sp_on K C) [.ref p, .int x] H (.int (onL ns x)) := fun H1 e Q q E => ⟨p, ns, x, rfl, t.mono e, g, q⟩
theorem spv_by (t : Tab K C H p ns) (g : Good ns) : SpV (sp_by K C) [.ref p, .int x] H (.int (byL ns x)) := fun H1 e Q q E => ⟨p, ns, x, rfl, t.mono e, g, q⟩
theorem spv_til (t : Tab K C H p ns) (g : Good ns) : SpV (sp_til K C) [.ref p, .int x] H (.int (byL ns (x + 1) - 1)) := fun H1 e Q q E => ⟨p, ns, x, rfl, t.mono e, g, q⟩
end
section
variable {P : Program} {w : World} {K : PySem.W.Frag} {mg : Str → Option Value} {base : Heap} {C CT fT : Addr}
theorem lk_days {l : Addr} : List.lookup ("_days" : Str) [(("_days" : Str), V.ref l)] = some (V.ref l) := by
  rw [List.lookup_cons_self]
theorem ok_init {f f1 : Addr} {fd fd1 : FuncData} (F : Fun K "__init__" "Table.__init__" s_Table___init__ f fd) (T : Txt K mg C CT fT) (c_is_table : Cal P w K mg base "is_table" f1 fd1 ["value"] 2 (sp_is_table K)) : FnOk P w K mg base CX0 3 f fd ["self", "days"] (sp_init K C) := by
  refine F.ok sc_Table___init__ (fun vs H Q E h => ?_) (fun cdv A outer s H vs Q E hr h => ?_)
  · obtain ⟨x, dx, p, ns, rfl, _⟩ := h
    rfl
  · obtain ⟨x, dx, p, ns, rfl, hx, hs, g, k⟩ := h
    refine ⟨_, (pss_cons (ps_if (pt_not (pt_val (pe_call c_is_table.ok (hr.mono (by decide)) (by rfl) c_is_table.mgx c_is_table.kp c_is_table.bd .nil pass0 (pa_cons (pv 1) pa_nil)))) (pss_one ps_never) pss_nil) (pss_one (ps_fld (pv 0) (pe_callTy call_list_of (by rfl) T.b_list (by decide +kernel) (pa_cons (pv 1) pa_nil)) rfl))), ?_⟩
    refine q_when (b := false) (et_not (a := true) (et_B (ev_call (ea_cons (ev_var rfl) ea_nil) (spv_is_table hs g)))) (fun q => nomatch q) fun _ H1 e1 => ?_
    refine (el_cb (ea_cons (ev_var rfl) ea_nil) (rc_list (hs.mono e1).seq)) H1 (Ex.refl H1) _ fun l H2 hl e2 h2 => ?_
    have hx2 := e2 x _ (e1 x _ hx)
    refine ⟨_, rfl, x, C, dx, [], rfl, hx2, T.cl, T.nD, by decide, ?_⟩
    have hne : l ≠ x := (ne_of hx2 h2 (fun q => by cases q)).symm
    exact k l _ (fun b o hb hbx => by rw [upd_ne hbx]; exact e2 b _ (e1 b _ hb)) upd_same (by rw [upd_ne hne]; exact h2) (fresh_back e1 hl)
theorem ok_length {f : Addr} {fd : FuncData} (F : Fun K "length" "Table.length" s_Table_length f fd) (T : Txt K mg C CT fT) : FnOk P w K mg base CX0 1 f fd ["self"] (sp_length K C) := by
  refine F.ok sc_Table_length (fun vs H Q E h => ?_) (fun cdv A outer s H vs Q E hr h => ?_)
  · obtain ⟨p, ns, rfl, _⟩ := h
    rfl
  · obtain ⟨p, ns, rfl, ⟨dx, l, h1, h2⟩, k⟩ := h
    refine ⟨_, (pss_one (ps_ret (pe_callB (lenS (K := K) rfl) (by rfl) T.b_len (by decide +kernel) (pa_cons (pe_fldK (K := K) rfl (pv 0) rfl) pa_nil)))), ?_⟩
    exact s_ret (ev_cb (ea_cons (ev_fld (ev_var rfl) h1 T.cl T.nD lk_days) ea_nil) (rc_len (.inl h2) (by rw [List.length_map]))) k
theorem ok_days {f : Addr} {fd : FuncData} (F : Fun K "days" "Table.days" s_Table_days f fd) (T : Txt K mg C CT fT) : FnOk P w K mg base CX0 1 f fd ["self"] (sp_days K C) := by
  refine F.ok sc_Table_days (fun vs H Q E h => ?_) (fun cdv A outer s H vs Q E hr h => ?_)
  · obtain ⟨p, ns, rfl, _⟩ := h
    rfl
  · obtain ⟨p, ns, rfl, ⟨dx, l, h1, h2⟩, k⟩ := h
    refine ⟨_, (pss_one (ps_ret (pe_callTy call_list_of (by rfl) T.b_list (by decide +kernel) (pa_cons (pe_fldK (K := K) rfl (pv 0) rfl) pa_nil)))), ?_⟩
    exact s_retL (el_cb (ea_cons (ev_fld (ev_var rfl) h1 T.cl T.nD lk_days) ea_nil) (rc_list (.inl h2))) k
theorem ok_rows {f : Addr} {fd : FuncData} (F : Fun K "asked_rows" "Table.asked_rows" s_Table_asked_rows f fd) (T : Txt K mg C CT fT) : FnOk P w K mg base CX0 1 f fd ["self"] (sp_rows K C) := by
  refine F.ok sc_Table_asked_rows (fun vs H Q E h => ?_) (fun cdv A outer s H vs Q E hr h => ?_)
  · obtain ⟨p, ns, rfl, _⟩ := h
    rfl
  · obtain ⟨p, ns, rfl, ⟨dx, l, h1, h2⟩, k⟩ := h
    refine ⟨_, (pss_one (ps_ret (pe_listEn rfl (by rfl) T.b_list (by rfl) T.b_enumerate (pe_fldK (K := K) rfl (pv 0) rfl)))), ?_⟩
    exact (evr_en (ev_fld (ev_var rfl) h1 T.cl T.nD lk_days) h2) H (Ex.refl H) _ k
theorem ok_on {f f1 f2 p2 : Addr} {fd fd1 fd2 : FuncData} (F : Fun K "on" "Table.on" s_Table_on f fd) (T : Txt K mg C CT fT) (c_need_day : Cal P w K mg base "need_day" f1 fd1 ["value"] 2 sp_need_day)
    (m_length : Prp P w K mg base C "length" p2 f2 fd2 ["self"] 1 (sp_length K C)) : FnOk P w K mg base CX0 3 f fd ["self", "day"] (sp_on K C) := by
  refine F.ok sc_Table_on (fun vs H Q E h => ?_) (fun cdv A outer s H vs Q E hr h => ?_)
  · obtain ⟨p, ns, x, rfl, _⟩ := h
    rfl
  · obtain ⟨p, ns, x, rfl, t, g, k⟩ := h
    obtain ⟨dx, l, h1, h2⟩ := id t
    have hp := g.posI
    have hm := g.most
    refine ⟨_, (pss_cons (ps_expr (pe_call c_need_day.ok (hr.mono (by decide)) (by rfl) c_need_day.mgx c_need_day.kp c_need_day.bd .nil pass0 (pa_cons (pv 1) pa_nil))) (pss_cons (ps_asg (pe_callB call_divmod (by rfl) T.b_divmod (by decide +kernel) (pa_cons (pv 1) (pa_cons (pe_prop (pv 0) T.cl m_length.pr m_length.ok (hr.mono (by decide)) m_length.bd .nil pass0 (by rfl)) pa_nil))) (pg_tup (by rfl) (pgs_cons (pg_name (i := 2) sc_Table_on.nd rfl (Or.inl rfl)) (pgs_cons (pg_name (i := 3) sc_Table_on.nd rfl (Or.inl rfl)) pgs_nil)))) (pss_one (ps_ret (pe_op op_add (pe_ix (ixL (K := K) rfl) (pe_fldK (K := K) rfl (pv 0) rfl) (pv 3) (fun _ _ => rfl)) (pe_op op_mul (pv 2) (pe_prop (pv 0) T.cl m_length.pr m_length.ok (hr.mono (by decide)) m_length.bd .nil pass0 (by rfl)))))))), ?_⟩
    refine q_drop (ev_call (ea_cons (ev_var rfl) ea_nil) spv_need_day) fun H1 e1 => ?_
    refine q_asgT2 (eu_divmod (ev_var rfl) (ev_prop (ev_var rfl) (e1 p _ h1) (spv_length (t.mono e1))) hp (by omega)) fun H2 e2 => ?_
    have e3 := e1.trans e2
    have i0 := Int.emod_nonneg x (show (ns.length : Int) ≠ 0 by omega)
    have i1 := Int.emod_lt_of_pos x hp
    exact s_ret (ev_op (ev_op (ev_fld (ev_var rfl) (e3 p _ h1) T.cl T.nD lk_days) (ev_var rfl) (rv_ixL (ex_l e3 h2) (atI_int i0 i1))) (ev_op (ev_var rfl) (ev_prop (ev_var rfl) (e3 p _ h1) (spv_length (t.mono e3))) (rv_I (.inr ⟨by omega, by omega⟩))) rv_I0) fun H3 e4 => k H3 (e3.trans e4)
theorem ok_by {f f1 f2 f3 p2 : Addr} {fd fd1 fd2 fd3 : FuncData} (F : Fun K "by" "Table.by" s_Table_by f fd) (T : Txt K mg C CT fT) (c_need_day : Cal P w K mg base "need_day" f1 fd1 ["value"] 2 sp_need_day)
    (m_length : Prp P w K mg base C "length" p2 f2 fd2 ["self"] 1 (sp_length K C)) (c__many_ahead : Cal P w K mg base "_many_ahead" f3 fd3 ["days", "day"] 1 (sp_many K)) : FnOk P w K mg base CX0 3 f fd ["self", "day"] (sp_by K C) := by
  refine F.ok sc_Table_by (fun vs H Q E h => ?_) (fun cdv A outer s H vs Q E hr h => ?_)
  · obtain ⟨p, ns, x, rfl, _⟩ := h
    rfl
  · obtain ⟨p, ns, x, rfl, t, g, k⟩ := h
    obtain ⟨dx, l, h1, h2⟩ := id t
    have hp := g.posI
    have hm := g.most
    refine ⟨_, (pss_cons (ps_expr (pe_call c_need_day.ok (hr.mono (by decide)) (by rfl) c_need_day.mgx c_need_day.kp c_need_day.bd .nil pass0 (pa_cons (pv 1) pa_nil))) (pss_cons (ps_set (i := 2) sc_Table_by.nd rfl (Or.inl rfl) (pe_op op_fdivN (pe_op op_sub (pe_op op_sub (pv 1) (pe_ix (ixL (K := K) rfl) (pe_fldK (K := K) rfl (pv 0) rfl) pe_int (fun _ _ => rfl))) pe_int) (pe_prop (pv 0) T.cl m_length.pr m_length.ok (hr.mono (by decide)) m_length.bd .nil pass0 (by rfl)))) (pss_one (ps_ret (pe_op op_add (pe_call c__many_ahead.ok (hr.mono (by decide)) (by rfl) c__many_ahead.mgx c__many_ahead.kp c__many_ahead.bd .nil pass0 (pa_cons (pe_fldK (K := K) rfl (pv 0) rfl) (pa_cons (pe_op op_sub (pv 1) (pe_op op_mul (pv 2) (pe_prop (pv 0) T.cl m_length.pr m_length.ok (hr.mono (by decide)) m_length.bd .nil pass0 (by rfl)))) pa_nil))) (pe_op op_mul (pv 2) (pe_prop (pv 0) T.cl m_length.pr m_length.ok (hr.mono (by decide)) m_length.bd .nil pass0 (by rfl)))))))), ?_⟩
    refine q_drop (ev_call (ea_cons (ev_var rfl) ea_nil) spv_need_day) fun H1 e1 => ?_
    refine q_asg (v := .int ((x - ns.getD 0 0 - 1) / (ns.length : Int))) (ev_is (ev_op (ev_op (ev_op (ev_var rfl) (ev_op (ev_fld (ev_var rfl) (e1 p _ h1) T.cl T.nD lk_days) ev_c (rv_ixL (ex_l e1 h2) (atI_int (by decide) (by omega)))) rv_I0) ev_c rv_I0)
      (ev_prop (ev_var rfl) (e1 p _ h1) (spv_length (t.mono e1))) (rv_I ⟨by omega, by omega⟩)) (by rw [Int.fdiv_eq_ediv_of_nonneg _ (by omega)] <;> rfl)) fun H2 e2 => ?_
    have e3 := e1.trans e2
    obtain ⟨c, hc⟩ := cnt_ex g (x - (x - ns.getD 0 0 - 1) / (ns.length : Int) * (ns.length : Int))
    have eb : byL ns x = _ := byL_eq g (isBy_of_cnt g hc)
    rw [eb] at k
    exact s_ret (ev_op (ev_call (ea_cons (ev_fld (ev_var rfl) (e3 p _ h1) T.cl T.nD lk_days) (ea_cons (ev_op (ev_var rfl) (ev_op (ev_var rfl) (ev_prop (ev_var rfl) (e3 p _ h1) (spv_length (t.mono e3))) (rv_I (.inr ⟨by omega, by omega⟩))) rv_I0) ea_nil)) (spv_many (ex_l e3 h2) g hc))
      (ev_op (ev_var rfl) (ev_prop (ev_var rfl) (e3 p _ h1) (spv_length (t.mono e3))) (rv_I (.inr ⟨by omega, by omega⟩))) rv_I0) fun H3 e4 => k H3 (e3.trans e4)
theorem ok_til {f f1 f2 : Addr} {fd fd1 fd2 : FuncData} (F : Fun K "til" "Table.til" s_Table_til f fd) (T : Txt K mg C CT fT) (c_need_day : Cal P w K mg base "need_day" f1 fd1 ["value"] 2 sp_need_day)
    (m_by : Met P w K mg base C "by" f2 fd2 ["self", "day"] 3 (sp_by K C)) : FnOk P w K mg base CX0 4 f fd ["self", "day"] (sp_til K C) := by
  refine F.ok sc_Table_til (fun vs H Q E h => ?_) (fun cdv A outer s H vs Q E hr h => ?_)
  · obtain ⟨p, ns, x, rfl, _⟩ := h
    rfl
  · obtain ⟨p, ns, x, rfl, t, g, k⟩ := h
    obtain ⟨dx, l, h1, h2⟩ := id t
    refine ⟨_, (pss_cons (ps_expr (pe_call c_need_day.ok (hr.mono (by decide)) (by rfl) c_need_day.mgx c_need_day.kp c_need_day.bd .nil pass0 (pa_cons (pv 1) pa_nil))) (pss_one (ps_ret (pe_op op_sub (pe_meth (pv 0) T.cl m_by.me m_by.ok (hr.mono (by decide)) m_by.bd .nil pass0 (pa_cons (pe_op op_add (pv 1) pe_int) pa_nil)) pe_int)))), ?_⟩
    refine q_drop (ev_call (ea_cons (ev_var rfl) ea_nil) spv_need_day) fun H1 e1 => ?_
    exact s_ret (ev_op (ev_meth (ev_var rfl) (e1 p _ h1) rfl (ea_cons (ev_op (ev_var rfl) ev_c rv_I0) ea_nil) (spv_by (t.mono e1) g)) ev_c rv_I0) fun H2 e2 => k H2 (e1.trans e2)
end
/-! ### the pot -/
def wo (H : Hp) (p : Addr) : Hp := fun b => if b = p then none else H b
theorem wo_ne {H : Hp} {p b : Addr} (h : b ≠ p) : wo H p b = H b := by unfold wo; rw [if_neg h]
theorem wo_at {H : Hp} {p : Addr} : wo H p p = none := by unfold wo; rw [if_pos rfl]
theorem wo_ex {H : Hp} {p : Addr} : Ex (wo H p) H := fun b o h => by
  by_cases hb : b = p
  · subst hb; rw [wo_at] at h; cases h
  · rwa [wo_ne hb] at h
theorem wo_mono {H H' : Hp} {p : Addr} (e : Ex H H') : Ex (wo H p) (wo H' p) := fun b o h => by
  by_cases hb : b = p
  · subst hb; rw [wo_at] at h; cases h
  · rw [wo_ne hb] at h ⊢; exact e b o h
theorem wo_sub {H H' : Hp} {p : Addr} (e : Ex (wo H p) H') : Ex (wo H p) (wo H' p) := fun b o h => by
  by_cases hb : b = p
  · subst hb; rw [wo_at] at h; cases h
  · have := e b o h
    rwa [wo_ne hb]
theorem wo_upd {H : Hp} {p : Addr} {o : HO} : Ex (wo H p) (upd H p o) := fun b u h => by
  by_cases hb : b = p
  · subst hb; rw [wo_at] at h; cases h
  · rw [upd_ne hb]; rwa [wo_ne hb] at h
theorem wo_fresh {H H' : Hp} {p q : Addr} {o : HO} (hp : H p = some o) (e : Ex (wo H p) H') (h : H' q = none) (hp' : ∃ o, H' p = some o) : H q = none := by
  by_cases hq : q = p
  · subst hq; obtain ⟨o, ho⟩ := hp'; rw [ho] at h; cases h
  · cases hh : H q with
    | none => rfl
    | some u => have := e q u (by rw [wo_ne hq]; exact hh); rw [h] at this; cases this
def PotOk (a b : Int) : Prop := 0 ≤ a ∧ 0 ≤ b ∧ b < 4294967296
def PotAt (H : Hp) (p : Addr) : Prop := ∃ a b, PotOk a b ∧ H p = some (.lst [.int a, .int b])
def sp_pot (K : PySem.W.Frag) : Sp := fun vs H Q _ => ∃ (s : Addr) (ns : List Int) (k : Int), vs = [.ref s, .int k] ∧ SqL K H s (ns.map V.int) ∧ 0 ≤ k ∧ k ≤ 100 ∧ ∀ p H2, H p = none → Ex H H2 → PotAt H2 p → Q (.ref p) H2
def sp_draw : Sp := fun vs H Q _ => ∃ p n, vs = [.ref p, .int n] ∧ PotAt H p ∧ 0 < n ∧ n < 1073741824 ∧ ∀ d H2, 0 ≤ d → d < n → Ex (wo H p) H2 → PotAt H2 p → Q (.int d) H2
def sp_pick (K : PySem.W.Frag) : Sp := fun vs H Q _ => ∃ (p s : Addr) (xs : List V), vs = [.ref p, .ref s] ∧ PotAt H p ∧ SqL K (wo H p) s xs ∧ 0 < xs.length ∧ xs.length ≤ 1000 ∧ ∀ (i : Nat) (v : V) (H2 : Hp), xs[i]? = some v → Ex (wo H p) H2 → PotAt H2 p → Q v H2
theorem fmod_pos {a b : Int} (h : 0 < b) : 0 ≤ a.fmod b ∧ a.fmod b < b := by
  rw [Int.fmod_eq_emod_of_nonneg _ (by omega)]
  exact ⟨Int.emod_nonneg _ (by omega), Int.emod_lt_of_pos _ h⟩
section
variable {P : Program} {w : World} {K : PySem.W.Frag} {mg : Str → Option Value} {base : Heap} {C CT fT : Addr}
theorem ok_pot {f : Addr} {fd : FuncData} (F : Fun K "_law_pot" "_law_pot" s__law_pot f fd) (T : Txt K mg C CT fT) : FnOk P w K mg base CX0 1 f fd ["_law_script", "_law_k"] (sp_pot K) := by
  refine F.ok sc__law_pot (fun vs H Q E h => ?_) (fun cdv A outer s H vs Q E hr h => ?_)
  · obtain ⟨s, ns, k, rfl, _⟩ := h
    rfl
  · obtain ⟨s, ns, k, rfl, hs, hk0, hk1, kq⟩ := h
    refine ⟨_, (pss_cons (ps_set (i := 2) sc__law_pot.nd rfl (Or.inl rfl) (pe_ifExp (pt_cmpR op_lt (pv 1) (pe_callB (lenS (K := K) rfl) (by rfl) T.b_len (by decide +kernel) (pa_cons (pv 0) pa_nil)) (nomark _)) (pe_callB call_abs (by rfl) T.b_abs (by decide +kernel) (pa_cons (pe_ix (ixL (K := K) rfl) (pv 0) (pv 1) (fun _ _ => rfl)) pa_nil)) (pe_op op_add (pe_op op_mul pe_int (pv 1)) pe_int))) (pss_one (ps_ret (pe_lst (pa_cons (pe_callB (call_max2 rfl) (by rfl) T.b_max (by decide +kernel) (pa_cons pe_int (pa_cons (pe_op op_sub (pv 2) (pe_op op_pow pe_int pe_int)) pa_nil))) (pa_cons (pe_op op_add (pe_op op_modN (pe_callTy call_int1 (by rfl) T.b_int (by decide +kernel) (pa_cons (pe_op op_add (pe_op op_add (pe_op op_mul (pe_op op_modN (pe_callTy call_int1 (by rfl) T.b_int (by decide +kernel) (pa_cons (pv 2) pa_nil)) pe_int) pe_int) (pe_op op_mul pe_int (pv 1))) pe_int) pa_nil)) pe_int) pe_int) pa_nil)))))), ?_⟩
    have hcell : ∃ c : Int, 0 ≤ c ∧ Ev (tIf (tTest (tOp (rI0 fun i j => .bl (decide (i < j))) (tVar 1) (tCB (fun xs H Q => ∃ p ys, xs = [.ref p] ∧ (SqL K H p ys ∨ SqT K H p ys) ∧ Q (.int (ys.length : Int)) H) (tCons (tVar 0) tNil))))
        (tCB (fun xs H Q => ∃ i, xs = [.int i] ∧ Q (.int (if i < 0 then -i else i)) H) (tCons (tOp (rIxL K) (tVar 0) (tVar 1)) tNil)) (tOp (rI0 fun i j => .int (i + j)) (tOp (rI CMul fun i j => .int (i * j)) (tC (.int 181)) (tVar 1)) (tC (.int 79)))) (start ["_law_script", "_law_k", "_law_cell"] [.ref s, .int k]) H (.int c) := by
      by_cases hlt : k < (ns.length : Int)
      · refine ⟨if ns.getD k.toNat 0 < 0 then - ns.getD k.toNat 0 else ns.getD k.toNat 0, by split <;> omega, ?_⟩
        exact ev_if (b := true) (et_test (ev_op (ev_var rfl) (ev_cb (ea_cons (ev_var rfl) ea_nil) (rc_len (.inl hs) (by rw [List.length_map]))) (rv_res rv_I0 (congrArg V.bl (decide_eq_true hlt))))) (fun _ => ev_cb (ea_cons (ev_op (ev_var rfl) (ev_var rfl) (rv_ixL hs (atI_int hk0 hlt))) ea_nil) rc_abs) (fun q => nomatch q)
      · refine ⟨181 * k + 79, by omega, ?_⟩
        exact ev_if (b := false) (et_test (ev_op (ev_var rfl) (ev_cb (ea_cons (ev_var rfl) ea_nil) (rc_len (.inl hs) (by rw [List.length_map]))) (rv_res rv_I0 (congrArg V.bl (decide_eq_false hlt))))) (fun q => nomatch q) (fun _ => ev_op (ev_op ev_c (ev_var rfl) (rv_I (.inl ⟨by decide, by decide⟩))) ev_c rv_I0)
    obtain ⟨c, hc, ec⟩ := hcell
    refine q_asg ec fun H1 e1 => ?_
    have m1 := fmod_pos (a := c) (show (0 : Int) < 2147483587 by decide)
    refine s_retL (el_lst (ea_cons (ev_cb (ea_cons ev_c (ea_cons (ev_op (ev_var rfl) (ev_op ev_c ev_c (rv_I ⟨by decide, by decide, by decide⟩)) rv_I0) ea_nil)) rc_max2) (ea_cons (ev_op (ev_op (ev_cb (ea_cons (ev_op (ev_op (ev_op (ev_op (ev_cb (ea_cons (ev_var rfl) ea_nil) rc_int1) ev_c (rv_I (by decide))) ev_c (rv_I (.inr ⟨by decide, by decide⟩))) (ev_op ev_c (ev_var rfl) (rv_I (.inl ⟨by decide, by decide⟩))) rv_I0) ev_c rv_I0) ea_nil) rc_int1) ev_c (rv_I (by decide))) ev_c rv_I0) ea_nil)) (by show 2 ≤ 100000; decide)) fun p H2 hp e2 h2 => ?_
    refine kq p H2 (fresh_back e1 hp) (e1.trans e2) ⟨_, _, ⟨?_, ?_, ?_⟩, h2⟩
    · split <;> omega
    · have := fmod_pos (a := c.fmod 2147483587 * 40031 + 6037 * k + 43) (show (0 : Int) < 2147483563 by decide)
      omega
    · have := fmod_pos (a := c.fmod 2147483587 * 40031 + 6037 * k + 43) (show (0 : Int) < 2147483563 by decide)
      omega
theorem ok_draw {f : Addr} {fd : FuncData} (F : Fun K "_law_draw" "_law_draw" s__law_draw f fd) (T : Txt K mg C CT fT) : FnOk P w K mg base CX0 1 f fd ["_law_pot_here", "_law_size"] sp_draw := by
  refine F.ok sc__law_draw (fun vs H Q E h => ?_) (fun cdv A outer s H vs Q E hr h => ?_)
  · obtain ⟨p, n, rfl, _⟩ := h
    rfl
  · obtain ⟨p, n, rfl, ⟨a, b, ⟨a0, b0, b1⟩, hp⟩, n0, n1, k⟩ := h
    have hq : SqL K H p [.int a, .int b] := sq_of hp
    refine ⟨_, (pss_cons (ps_if (pt_cmpR op_gt (pe_ix (ixL (K := K) rfl) (pv 0) pe_int (fun _ _ => rfl)) pe_int (nomark _)) (pss_cons (ps_asg (pe_callB call_divmod (by rfl) T.b_divmod (by decide +kernel) (pa_cons (pe_ix (ixL (K := K) rfl) (pv 0) pe_int (fun _ _ => rfl)) (pa_cons (pv 1) pa_nil))) (pg_tup (by rfl) (pgs_cons (pg_sub (pv 0) pe_int set_list) (pgs_cons (pg_name (i := 2) sc__law_draw.nd rfl (Or.inl rfl)) pgs_nil)))) (pss_one (ps_ret (pv 2)))) pss_nil) (pss_cons (ps_asg (pe_op op_modN (pe_callTy call_int1 (by rfl) T.b_int (by decide +kernel) (pa_cons (pe_op op_add (pe_op op_mul (pe_ix (ixL (K := K) rfl) (pv 0) pe_int (fun _ _ => rfl)) pe_int) pe_int) pa_nil)) pe_int) (pg_sub (pv 0) pe_int set_list)) (pss_one (ps_ret (pe_op op_modN (pe_callTy call_int1 (by rfl) T.b_int (by decide +kernel) (pa_cons (pe_op op_fdivN (pe_op op_modN (pe_callTy call_int1 (by rfl) T.b_int (by decide +kernel) (pa_cons (pe_op op_mul (pe_ix (ixL (K := K) rfl) (pv 0) pe_int (fun _ _ => rfl)) (pe_ix (ixL (K := K) rfl) (pv 0) pe_int (fun _ _ => rfl))) pa_nil)) pe_int) pe_int) pa_nil)) (pv 1)))))), ?_⟩
    refine q_when (et_test (ev_op (ev_op (ev_var rfl) ev_c (rv_ixL (v := .int a) hq rfl)) ev_c rv_I0)) (fun hb H1 e1 => ?_) (fun hb H1 e1 => ?_)
    · have ha : 0 < a := of_decide_eq_true hb
      refine q_asgG (eu_divmod (ev_op (ev_var rfl) ev_c (rv_ixL (v := .int a) (ex_l e1 hq) rfl)) (ev_var rfl) n0 n1) fun u H2 hu e2 h2 => ?_
      have e3 := e1.trans e2
      have hp2 := e3 p _ hp
      refine ⟨u, _, rfl, st_of h2, rfl, _, _, rfl, .ref p, rfl, ⟨p, [.int a, .int b], 0, 0, rfl, rfl, hp2, rfl, ?_⟩⟩
      refine ⟨_, _, rfl, rfl, ?_⟩
      refine s_ret (ev_var rfl) fun H3 e4 => ?_
      refine k _ H3 (Int.emod_nonneg _ (by omega)) (Int.emod_lt_of_pos _ n0) ((wo_mono e3).trans (wo_upd.trans e4)) ⟨a / n, b, ⟨Int.ediv_nonneg a0 (by omega), b0, b1⟩, e4 p _ upd_same⟩
    · have hq1 := ex_l e1 hq
      have m1 := fmod_pos (a := b * 39397 + 30029) (show (0 : Int) < 2147483563 by decide)
      refine q_setL (xs := [.int a, .int b]) (j := 1) (v := .int ((b * 39397 + 30029).fmod 2147483563)) (e1 p _ hp) (ev_op (ev_cb (ea_cons (ev_op (ev_op (ev_op (ev_var rfl) ev_c (rv_ixL (v := .int b) hq1 rfl)) ev_c (rv_I (.inr ⟨by decide, by decide⟩))) ev_c rv_I0) ea_nil) rc_int1) ev_c (rv_I (by decide))) (ev_var rfl) ev_c (by show 1 < 2; decide) fun H2 e2 => ?_
      generalize hb' : (b * 39397 + 30029).fmod 2147483563 = b' at m1 ⊢
      have hp3 : SqL K (upd H2 p (.lst ([.int a, .int b].set 1 (.int b')))) p [.int a, .int b'] := sq_of upd_same
      have m2 := fmod_pos (a := ((b' * b').fmod 2147483587).fdiv 23) n0
      refine s_ret (ev_op (ev_cb (ea_cons (ev_op (ev_op (ev_cb (ea_cons (ev_op (ev_op (ev_var rfl) ev_c (rv_ixL (v := .int b') hp3 rfl)) (ev_op (ev_var rfl) ev_c (rv_ixL (v := .int b') hp3 rfl)) (rv_I (.inl ⟨by omega, by omega⟩))) ea_nil) rc_int1) ev_c (rv_I (by decide))) ev_c (rv_I ⟨by decide, by decide⟩)) ea_nil) rc_int1) (ev_var rfl) (rv_I (by omega))) fun H3 e3 => ?_
      exact k _ H3 m2.1 m2.2 ((wo_mono (e1.trans e2)).trans (wo_upd.trans e3)) ⟨a, b', ⟨a0, m1.1, by omega⟩, e3 p _ upd_same⟩
theorem ok_pick {f f1 : Addr} {fd fd1 : FuncData} (F : Fun K "_law_pick" "_law_pick" s__law_pick f fd) (T : Txt K mg C CT fT) (c__law_draw : Cal P w K mg base "_law_draw" f1 fd1 ["_law_pot_here", "_law_size"] 1 sp_draw) : FnOk P w K mg base CX0 2 f fd ["_law_pot_here", "_law_some"] (sp_pick K) := by
  refine F.ok sc__law_pick (fun vs H Q E h => ?_) (fun cdv A outer s H vs Q E hr h => ?_)
  · obtain ⟨p, s, xs, rfl, _⟩ := h
    rfl
  · obtain ⟨p, l, xs, rfl, hp, hs, h0, h1, k⟩ := h
    refine ⟨_, (pss_one (ps_ret (pe_ix (ixL (K := K) rfl) (pv 1) (pe_call c__law_draw.ok (hr.mono (by decide)) (by rfl) c__law_draw.mgx c__law_draw.kp c__law_draw.bd .nil pass0 (pa_cons (pv 0) (pa_cons (pe_callB (lenS (K := K) rfl) (by rfl) T.b_len (by decide +kernel) (pa_cons (pv 1) pa_nil)) pa_nil))) (fun _ _ => rfl)))), ?_⟩
    refine ⟨_, rfl, (ea_cons (ev_var rfl) (ea_cons (ev_cb (ea_cons (ev_var rfl) ea_nil) (rc_len (.inl (ex_l wo_ex hs)) rfl)) ea_nil)) H (Ex.refl H) _ fun H1 e1 => ?_⟩
    have hp1 : PotAt H1 p := by obtain ⟨a, b, h, q⟩ := hp; exact ⟨a, b, h, e1 p _ q⟩
    refine ⟨p, (xs.length : Int), rfl, hp1, by omega, by omega, fun d H2 d0 d1 e2 hp2 => ?_⟩
    obtain ⟨i, rfl⟩ : ∃ i : Nat, d = (i : Int) := ⟨d.toNat, by omega⟩
    have hi : i < xs.length := by omega
    have e3 : Ex (wo H p) H2 := (wo_mono e1).trans e2
    exact ⟨l, xs, (i : Int), xs[i], rfl, rfl, ex_l e3 hs, atI_nat (List.getElem?_eq_getElem hi), k i _ H2 (List.getElem?_eq_getElem hi) e3 hp2⟩
end
section
variable {K : PySem.W.Frag} {σ : L2.St} {H : Hp} {p : Addr} {i : Nat} {tA : TA} {tn : TE} {Q : VK} {E : XK}
theorem PotAt.mono {H' : Hp} (h : PotAt H p) (e : Ex H H') : PotAt H' p := by obtain ⟨a, b, q, r⟩ := h; exact ⟨a, b, q, e p _ r⟩
theorem PotAt.some (h : PotAt H p) : ∃ o, H p = some o := by obtain ⟨a, b, q, r⟩ := h; exact ⟨_, r⟩
theorem pickC {xs : List V} (hp : PotAt H p) (hv : σ[i]? = some (some (.ref p))) (ha : EvA tA σ (wo H p) xs) (h0 : 0 < xs.length) (h1 : xs.length ≤ 1000) (k : ∀ (j : Nat) (v : V) (H2 : Hp), xs[j]? = some v → Ex (wo H p) H2 → PotAt H2 p → Q v H2) :
    tCall (sp_pick K) [] E (tCons (tVar i) (tCons (tLst tA) tNil)) σ H Q := ⟨.ref p, hv, ha H wo_ex _ fun H1 e1 => ⟨sz_of (by omega), fun s hs => by
      have hp1 := hp.mono e1
      obtain ⟨o, ho⟩ := hp1.some
      have hne : s ≠ p := (ne_of_none ho hs).symm
      exact ⟨p, s, xs, rfl, hp1.mono (Ex.new hs), sq_of (by rw [wo_ne hne]; exact upd_same), h0, h1, fun j v H2 hj e2 h2 => k j v H2 hj ((wo_mono (e1.trans (Ex.new hs))).trans e2) h2⟩⟩⟩
theorem drawC {n : Int} (hp : PotAt H p) (hv : σ[i]? = some (some (.ref p))) (hn : Ev tn σ (wo H p) (.int n)) (h0 : 0 < n) (h1 : n < 1073741824) (k : ∀ d H2, 0 ≤ d → d < n → Ex (wo H p) H2 → PotAt H2 p → Q (.int d) H2) :
    tCall sp_draw [] E (tCons (tVar i) (tCons tn tNil)) σ H Q := ⟨.ref p, hv, hn H wo_ex _ fun H1 e1 => ⟨p, n, rfl, hp.mono e1, h0, h1, fun d H2 d0 d1 e2 h2 => k d H2 d0 d1 ((wo_mono e1).trans e2) h2⟩⟩
theorem q_parL {D : Ends} {tz : TS} {i j : Nat} {ta tb : TE} {xs : List V} {w : V} (h : EvL ta σ H xs) (hb : ∀ H1, Ex H H1 → Ev tb σ H1 w) (k : ∀ p H1, H p = none → Ex H H1 → H1 p = some (.lst xs) → tz D ((σ.set i (some (.ref p))).set j (some w)) H1) :
    tSeq (tPar i j (tCons ta (tCons tb tNil))) tz D σ H := h H (Ex.refl H) _ fun p H1 hp e1 h1 => (hb H1 e1) H1 (Ex.refl _) _ fun H2 e2 => ⟨_, _, rfl, k p H2 hp (e1.trans e2) (e2 p _ h1)⟩
end
/-- rising days, from first on, at most so many days later -/
structure Rise (ns : List Int) (f : Int) (d : Int) : Prop where
  pos : 1 ≤ ns.length
  fst : ns.getD 0 0 = f
  up : ∀ i j : Nat, i ≤ j → j < ns.length → ns.getD i 0 ≤ ns.getD j 0
  last : ns.getD (ns.length - 1) 0 - f = d
theorem rise_one (f : Int) : Rise [f] f 0 := ⟨by simp, by simp, fun i j h1 h2 => by
  have : j = 0 := by simpa using h2
  subst this
  have : i = 0 := by omega
  subst this
  exact Int.le_refl _, by simp⟩
theorem getD_app1 {ns : List Int} {v : Int} {i : Nat} (h : i < ns.length) : (ns ++ [v]).getD i 0 = ns.getD i 0 := by
  rw [List.getD_eq_getElem?_getD, List.getElem?_append_left h, ← List.getD_eq_getElem?_getD]
theorem getD_app2 {ns : List Int} {v : Int} : (ns ++ [v]).getD ns.length 0 = v := by
  rw [List.getD_eq_getElem?_getD, List.getElem?_append_right (Nat.le_refl _)]
  simp
theorem rise_app {ns : List Int} {f d s : Int} (r : Rise ns f d) (hs : 0 ≤ s) : Rise (ns ++ [ns.getD (ns.length - 1) 0 + s]) f (d + s) := by
  have hp := r.pos
  refine ⟨by simp, by rw [getD_app1 (by omega)]; exact r.fst, fun i j h1 h2 => ?_, ?_⟩
  · rw [List.length_append, List.length_singleton] at h2
    by_cases hj : j < ns.length
    · rw [getD_app1 hj, getD_app1 (by omega)]
      exact r.up i j h1 hj
    · have e : j = ns.length := by omega
      subst e
      rw [getD_app2]
      by_cases hi : i < ns.length
      · rw [getD_app1 hi]
        have := r.up i (ns.length - 1) (by omega) (by omega)
        omega
      · have e : i = ns.length := by omega
        subst e
        rw [getD_app2]
        omega
  · rw [List.length_append, List.length_singleton, Nat.add_sub_cancel, getD_app2]
    have := r.last
    omega
theorem rise_good {ns : List Int} {f d : Int} (r : Rise ns f d) (h : ns.length ≤ 600) (hd : d ≤ (ns.length : Int)) : Good ns := ⟨r.pos, h, r.up, by have := r.last; have := r.fst; omega⟩
theorem rise_bd {ns : List Int} {f d : Int} (r : Rise ns f d) {i : Nat} (h : i < ns.length) : f ≤ ns.getD i 0 ∧ ns.getD i 0 ≤ f + d := by
  have h1 := r.up 0 i (by omega) h
  have h2 := r.up i (ns.length - 1) (by omega) (by have := r.pos; omega)
  have := r.fst
  have := r.last
  omega
def sp_ldays : Sp := fun vs H Q _ => ∃ (p : Addr) (n : Nat) (f : Int), vs = [.ref p, .int (n : Int), .int f] ∧ PotAt H p ∧ 1 ≤ n ∧ n ≤ 600 ∧ ∀ (l : Addr) (ns : List Int) (H2 : Hp), ns.length = n → Good ns → ns.getD 0 0 = f → (∀ i, i < n → f ≤ ns.getD i 0 ∧ ns.getD i 0 ≤ f + (n : Int)) → H l = none → Ex (wo H p) H2 → H2 l = some (.lst (ns.map V.int)) → PotAt H2 p → Q (.ref l) H2
def sp_lon (K : PySem.W.Frag) : Sp := fun vs H Q _ => ∃ (l : Addr) (ns : List Int) (x : Int), vs = [.ref l, .int x] ∧ SqL K H l (ns.map V.int) ∧ Good ns ∧ RetV (.int (onL ns x)) H Q
section
variable {K : PySem.W.Frag} {l : Addr} {H : Hp} {ns : List Int} {x : Int}
theorem spv_lon (h : SqL K H l (ns.map V.int)) (g : Good ns) : SpV (sp_lon K) ([.ref l, .int x] ++ []) H (.int (onL ns x)) := fun H1 e Q q E => ⟨l, ns, x, rfl, ex_l e h, g, q⟩
end
section
variable {P : Program} {w : World} {K : PySem.W.Frag} {mg : Str → Option Value} {base : Heap} {C CT fT : Addr}
theorem ok_ldays {f f1 : Addr} {fd fd1 : FuncData} (F : Fun K "_law_days" "_law_days" s__law_days f fd) (T : Txt K mg C CT fT) (c__law_pick : Cal P w K mg base "_law_pick" f1 fd1 ["_law_pot_here", "_law_some"] 2 (sp_pick K)) : FnOk P w K mg base CX0 3 f fd ["_law_pot_here", "_law_length", "_law_first"] sp_ldays := by
  refine F.ok sc__law_days (fun vs H Q E h => ?_) (fun cdv A outer s H vs Q E hr h => ?_)
  · obtain ⟨p, n, x, rfl, _⟩ := h
    rfl
  · obtain ⟨p, n, x, rfl, hp, n0, n1, k⟩ := h
    refine ⟨_, (pss_cons (ps_par (i := 3) (j := 4) (by rfl) sc__law_days.nd rfl rfl (by decide) rfl rfl (pa_cons (pe_lst (pa_cons (pv 2) pa_nil)) (pa_cons (pv 1) pa_nil)) (by rfl)) (pss_cons (ps_for PassesOwn.never rfl (pi_range1 (by rfl) T.b_range (pa_cons (pe_op op_sub (pv 1) pe_int) pa_nil)) (pg_name (i := 5) sc__law_days.nd rfl (Or.inl rfl)) (pss_cons (ps_set (i := 6) sc__law_days.nd rfl (Or.inl rfl) (pe_callB (call_min2 rfl) (by rfl) T.b_min (by decide +kernel) (pa_cons (pv 4) (pa_cons (pe_call c__law_pick.ok (hr.mono (by decide)) (by rfl) c__law_pick.mgx c__law_pick.kp c__law_pick.bd .nil pass0 (pa_cons (pv 0) (pa_cons (pe_lst (pa_cons pe_int (pa_cons pe_int (pa_cons pe_int (pa_cons pe_int (pa_cons pe_int (pa_cons pe_int (pa_cons (pv 1) pa_nil)))))))) pa_nil))) pa_nil)))) (pss_cons (ps_expr (pe_bm PySem.F.plainAttrs_list PySem.F.slot_list_append PySem.F.type_list_append mt_append (pv 3) (pa_cons (pe_op op_add (pe_ix (ixL (K := K) rfl) (pv 3) (pe_un un_neg pe_int) (fun _ _ => rfl)) (pv 6)) pa_nil))) (pss_one (ps_set (i := 4) sc__law_days.nd rfl (Or.inl rfl) (pe_op op_sub (pv 4) (pv 6))))))) (pss_one (ps_ret (pv 3))))), ?_⟩
    refine q_parL (xs := [.int x]) (w := .int (n : Int)) (el_lst (ea_cons (ev_var rfl) ea_nil) (by show 1 ≤ 100000; decide)) (fun _ _ => ev_var rfl) fun l H1 hl e1 h1 => ?_
    refine q_forR1 (n := (n : Int) - 1) (ea_cons (ev_op (ev_var rfl) ev_c rv_I0) ea_nil) (by omega) (fun i σ' H' => ∃ (ns : List Int) (d : Int) (o1 o2 : Option V), σ' = [some (.ref p), some (.int (n : Int)), some (.int x), some (.ref l), some (.int ((n : Int) - d)), o1, o2] ∧
      ns.length = i + 1 ∧ Rise ns x d ∧ 0 ≤ d ∧ d ≤ (n : Int) ∧ Ex (wo H p) H' ∧ H' l = some (.lst (ns.map V.int)) ∧ PotAt H' p) (fun H2 e2 => ?_) (fun i σ' H' hi hpv => ?_) (fun σ' H' hpv => ?_)
    · refine ⟨[x], 0, none, none, ?_, rfl, rise_one x, by omega, by omega, wo_ex.trans (e1.trans e2), e2 l _ h1, hp.mono (e1.trans e2)⟩
      rw [Int.sub_zero] <;> rfl
    · obtain ⟨ns, d, o1, o2, rfl, hlen, r, d0, dn, e3, h3, hp3⟩ := hpv
      obtain ⟨o, ho⟩ := hp.some
      have hlp : l ≠ p := (ne_of_none ho hl).symm
      have hwl : wo H p l = none := by rw [wo_ne hlp]; exact hl
      refine ⟨_, rfl, pickC (xs := ([0, 0, 1, 1, 2, 3, (n : Int)] : List Int).map V.int) hp3 rfl (ea_cons ev_c (ea_cons ev_c (ea_cons ev_c (ea_cons ev_c (ea_cons ev_c (ea_cons ev_c (ea_cons (ev_var rfl) ea_nil))))))) (by show 0 < 7; decide) (by show 7 ≤ 1000; decide) fun j v H4 hj e4 hp4 => ?_⟩
      obtain ⟨s, hs0, rfl⟩ : ∃ s : Int, 0 ≤ s ∧ v = .int s := by
        rw [List.getElem?_map] at hj
        obtain ⟨s, hs, rfl⟩ := Option.map_eq_some_iff.mp hj
        have hm := List.mem_of_getElem? hs
        refine ⟨s, ?_, rfl⟩
        simp only [List.mem_cons, List.mem_nil_iff, or_false] at hm
        omega
      refine ⟨_, _, rfl, ?_⟩
      have hst : 0 ≤ (if s < (n : Int) - d then s else (n : Int) - d) ∧ (if s < (n : Int) - d then s else (n : Int) - d) ≤ (n : Int) - d := by split <;> omega
      generalize (if s < (n : Int) - d then s else (n : Int) - d) = st at hst
      have h4 : H4 l = some (.lst (ns.map V.int)) := e4 l _ (by rw [wo_ne hlp]; exact h3)
      refine q_app (v := .int (ns.getD (ns.length - 1) 0 + st)) h4 (ev_var rfl) (ev_op (ev_op (ev_var rfl) (ev_un ev_c ru_neg) (rv_ixL (sq_of h4) (atI_m1 r.pos))) (ev_var rfl) rv_I0) (by rw [List.length_map]; omega) fun H5 e5 => ?_
      refine s_asg (ev_op (ev_var rfl) (ev_var rfl) rv_I0) fun H6 e6 => ?_
      refine ⟨ns ++ [ns.getD (ns.length - 1) 0 + st], d + st, some (.int (i : Int)), some (.int st), ?_, by rw [List.length_append, hlen] <;> rfl, rise_app r hst.1, by omega, by omega, ?_, ?_, ?_⟩
      · have e9 : (n : Int) - (d + st) = (n : Int) - d - st := by omega
        rw [e9] <;> rfl
      · refine (Ex.mut (o := .lst (ns.map V.int ++ [.int (ns.getD (ns.length - 1) 0 + st)])) (fun b o hb => e5 b o (e4 b o ?_)) hwl).trans e6
        have hbp : b ≠ p := fun q => by subst q; rw [wo_at] at hb; cases hb
        rw [wo_ne hbp]
        exact e3 b o hb
      · rw [List.map_append]
        exact e6 l _ upd_same
      · obtain ⟨a, b, q1, q2⟩ := hp4
        exact ⟨a, b, q1, e6 p _ (by rw [upd_ne hlp.symm]; exact e5 p _ q2)⟩
    · obtain ⟨ns, d, o1, o2, rfl, hlen, r, d0, dn, e3, h3, hp3⟩ := hpv
      have hl2 : ns.length = n := by omega
      refine s_ret (ev_var rfl) fun H4 e4 => ?_
      exact k l ns H4 hl2 (rise_good r (by omega) (by omega)) r.fst (fun i hi => by have := rise_bd r (i := i) (by omega); omega) hl (e3.trans e4) (e4 l _ h3) (hp3.mono e4)
theorem ok_lon {f : Addr} {fd : FuncData} (F : Fun K "_law_on" "_law_on" s__law_on f fd) (T : Txt K mg C CT fT) : FnOk P w K mg base CX0 1 f fd ["_law_days_here", "_law_day"] (sp_lon K) := by
  refine F.ok sc__law_on (fun vs H Q E h => ?_) (fun cdv A outer s H vs Q E hr h => ?_)
  · obtain ⟨l, ns, x, rfl, _⟩ := h
    rfl
  · obtain ⟨l, ns, x, rfl, hs, g, k⟩ := h
    have hp := g.posI
    have hm := g.most
    refine ⟨_, (pss_cons (ps_set (i := 2) sc__law_on.nd rfl (Or.inl rfl) (pe_op op_mul (pe_op op_fdivN (pv 1) (pe_callB (lenS (K := K) rfl) (by rfl) T.b_len (by decide +kernel) (pa_cons (pv 0) pa_nil))) (pe_callB (lenS (K := K) rfl) (by rfl) T.b_len (by decide +kernel) (pa_cons (pv 0) pa_nil)))) (pss_one (ps_ret (pe_op op_add (pe_ix (ixL (K := K) rfl) (pv 0) (pe_op op_sub (pv 1) (pv 2)) (fun _ _ => rfl)) (pv 2))))), ?_⟩
    have len : ∀ H1, Ex H H1 → RC (fun xs H Q => ∃ p ys, xs = [.ref p] ∧ (SqL K H p ys ∨ SqT K H p ys) ∧ Q (.int (ys.length : Int)) H) [.ref l] H1 (.int (ns.length : Int)) := fun H1 e => rc_len (.inl (ex_l e hs)) (by rw [List.length_map])
    refine q_asg (v := .int (x / (ns.length : Int) * (ns.length : Int))) (ev_is (ev_op (ev_op (ev_var rfl) (ev_cb (ea_cons (ev_var rfl) ea_nil) (len H (Ex.refl _))) (rv_I ⟨by omega, by omega⟩)) (ev_cb (ea_cons (ev_var rfl) ea_nil) (len H (Ex.refl _))) (rv_I (.inr ⟨by omega, by omega⟩))) (by rw [Int.fdiv_eq_ediv_of_nonneg _ (by omega)])) fun H1 e1 => ?_
    have i0 := Int.emod_nonneg x (show (ns.length : Int) ≠ 0 by omega)
    have i1 := Int.emod_lt_of_pos x hp
    have i2 : x - x / (ns.length : Int) * (ns.length : Int) = x % (ns.length : Int) := by
      have := Int.emod_add_mul_ediv x (ns.length : Int)
      rw [Int.mul_comm] at this
      omega
    exact s_ret (ev_op (ev_op (ev_var rfl) (ev_is (ev_op (ev_var rfl) (ev_var rfl) rv_I0) (congrArg V.int i2)) (rv_ixL (ex_l e1 hs) (atI_int i0 i1))) (ev_var rfl) rv_I0) fun H2 e2 => k H2 (e1.trans e2)
end
end K13
end
section
set_option maxHeartbeats 4000000
namespace K13
open PySem L2 Evl G TM
def RetU (xs : List V) (H : Hp) (Q : VK) : Prop := ∀ p H2, H p = none → Ex H H2 → H2 p = some (.tup xs) → Q (.ref p) H2
def SpU (sp : Sp) (vs : List V) (H : Hp) (xs : List V) : Prop := ∀ H1, Ex H H1 → ∀ Q : VK, (∀ p H2, H1 p = none → Ex H1 H2 → H2 p = some (.tup xs) → Q (.ref p) H2) → ∀ E : XK, sp vs H1 Q E
def RetD (K : PySem.W.Frag) (d : PyData) (H : Hp) (Q : VK) : Prop := ∀ v H2, Ex H H2 → Dp K H2 v d → Q v H2
section
variable {K : PySem.W.Frag} {σ : L2.St} {H : Hp} {p : Addr} {i j : Nat} {ta tb te : TE} {tA tr : TA} {D : Ends} {tz : TS} {QA : List V → Hp → Prop} {v w : V} {xs : List V} {vs : List Nat}
theorem ac_v (h : Ev te σ H v) (k : ∀ H1, Ex H H1 → tr σ H1 fun xs H2 => QA (v :: xs) H2) : tCons te tr σ H QA := h H (Ex.refl H) _ k
theorem ac_u (h : EvU te σ H xs) (k : ∀ p H1, H p = none → Ex H H1 → H1 p = some (.tup xs) → tr σ H1 fun xs H2 => QA (.ref p :: xs) H2) : tCons te tr σ H QA := h H (Ex.refl H) _ fun p H1 a b c => k p H1 a b c
theorem ac_nil (k : QA [] H) : tNil σ H QA := k
theorem q_lst (h : tA σ H fun vs H1 => vs.length ≤ sizeLine ∧ ∀ p, H1 p = none → tz D (σ.set i (some (.ref p))) (upd H1 p (.lst vs))) : tSeq (tAsg (tLst tA) (gName i)) tz D σ H := h
theorem eu_call {sp : Sp} {dvs ws : List V} {E : XK} (ha : EvA tA σ H ws) (hs : SpU sp (ws ++ dvs) H xs) : EvU (tCall sp dvs E tA) σ H xs := fun H1 e Q q =>
  ha H1 e _ fun H2 e2 => hs H2 (e.trans e2) Q (fun p H3 n3 e3 h3 => q p H3 (fresh_back e2 n3) (e2.trans e3) h3) E
theorem eu_meth {C dx : Addr} {m : Str} {fs : List (Str × V)} {sp : Sp} {dvs ws : List V} {E : XK} (h : Ev ta σ H (.ref p)) (ho : H p = some (.ins C dx fs)) (hl : fs.lookup m = none) (ha : EvA tA σ H ws) (hs : SpU sp (.ref p :: (ws ++ dvs)) H xs) : EvU (tMeth C m sp dvs E ta tA) σ H xs := fun H1 e Q q =>
  h H1 e _ fun H2 e2 => ⟨p, dx, fs, rfl, (e.trans e2) p _ ho, hl, ha H2 (e.trans e2) _ fun H3 e3 => hs H3 ((e.trans e2).trans e3) Q (fun q' H4 n4 e4 h4 => q q' H4 (fresh_back (e2.trans e3) n4) ((e2.trans e3).trans e4) h4) E⟩
end
def Bd (ns : List Int) : Prop := ∀ n, n ∈ ns → -1000000000000 ≤ n ∧ n ≤ 1000000000000
theorem small_int {i : Int} (h1 : -99999999999999999999 ≤ i) (h2 : i ≤ 99999999999999999999) : smallD (.int i) = true := by
  simp only [smallD, decide_eq_true_eq]
  omega
theorem smallAll_ints {ns : List Int} (h : Bd ns) : smallAll (ns.map PyData.int) = true := small_ints fun n hn => by have := h n hn; omega
theorem depth_all {ds : List PyData} {k : Nat} (h : ∀ d, d ∈ ds → d.depth ≤ k) : PyData.depthAll ds ≤ k := by
  induction ds with
  | nil => simp [PyData.depthAll]
  | cons d ds ih =>
    have h1 := h d (List.mem_cons_self ..)
    have h2 := ih fun x hx => h x (List.mem_cons_of_mem _ hx)
    simp only [PyData.depthAll]
    omega
theorem depth_ints (ns : List Int) : (dInts ns).depth ≤ 1 := by
  unfold dInts
  simp only [PyData.depth]
  have := depth_all (ds := ns.map PyData.int) (k := 0) fun d hd => by
    obtain ⟨n, _, rfl⟩ := List.mem_map.mp hd
    simp [PyData.depth]
  omega
section
variable {K : PySem.W.Frag} {σ : L2.St} {H : Hp} {p C : Addr} {tf : TE} {tA : TA} {vs : List V} {z : V} {X : Cx} {sp : Sp} {E : XK} {ta tb : TE} {d : PyData}
/-- data that are alike -/
theorem ev_neD (ha : EvD K ta σ H d) (hb : EvD K tb σ H d) (hs : SeqAt.shaped d = true) (hc : d.canLay0 = true) : Ev (tOp (rNeD K) ta tb) σ H (.bl false) := fun H1 e Q q =>
  ha H1 e _ fun v H2 e2 hv => hb H2 (e.trans e2) _ fun u H3 e3 hu => ⟨d, d, dp_mono e3 hv, hu, hs, hs, by rw [SeqAt.eqv_refl d hc]; exact q H3 (e2.trans e3)⟩
end
/-! ### bounds -/
theorem bd_get {ns : List Int} (b : Bd ns) {i : Nat} (hi : i < ns.length) : -1000000000000 ≤ ns.getD i 0 ∧ ns.getD i 0 ≤ 1000000000000 := b _ (by rw [List.getD_eq_getElem?_getD, List.getElem?_eq_getElem hi]; exact List.getElem_mem hi)
theorem on_bd {ns : List Int} (g : Good ns) (b : Bd ns) (x : Int) : x - 1000000001000 ≤ onL ns x ∧ onL ns x ≤ x + 1000000001000 := by
  obtain ⟨i, t, hi, rfl⟩ := split_at g x
  rw [on_at g hi]
  have := bd_get b hi
  have := g.most
  omega
def Far (x : Int) : Prop := -1000000000000 ≤ x ∧ x ≤ 1000000000000
section
variable {K : PySem.W.Frag} {σ : L2.St} {H : Hp} {p C : Addr} {i j i0 : Nat} {tA tr : TA} {tn ta tl te : TE} {Q : VK} {E : XK} {D : Ends} {tz : TS} {xs : List V} {vs : List Nat} {QA : List V → Hp → Prop} {ns : List Int}
theorem q_pick (hp : PotAt H p) (hv : σ[i]? = some (some (.ref p))) (ha : EvA tA σ (wo H p) xs) (h0 : 0 < xs.length) (h1 : xs.length ≤ 1000) (k : ∀ (j : Nat) (v : V) (H2 : Hp), xs[j]? = some v → Ex (wo H p) H2 → PotAt H2 p → tz D (σ.set i0 (some v)) H2) :
    tSeq (tAsg (tCall (sp_pick K) [] E (tCons (tVar i) (tCons (tLst tA) tNil))) (gName i0)) tz D σ H := pickC hp hv ha h0 h1 k
theorem ac_l (h : EvL te σ H xs) (k : ∀ p H1, H p = none → Ex H H1 → H1 p = some (.lst xs) → tr σ H1 fun xs H2 => QA (.ref p :: xs) H2) : tCons te tr σ H QA := h H (Ex.refl H) _ fun p H1 a b c => k p H1 a b c
/-- the same, nothing changed by the turns -/
theorem all_ev (h : tl σ H fun x H1 => ∃ a xs, x = .ref a ∧ H1 a = some (.lst xs) ∧ xs.length ≤ 1000 ∧ (∀ (i : Nat) (y : V) (H2 : Hp), Ex H1 H2 → xs[i]? = some y → Ev te ((wipe σ vs).set j (some y)) H2 (.bl true)) ∧ ∀ H2, Ex H1 H2 → Q (.bl true) H2) (hw : ∀ x, wipe ((wipe σ vs).set j (some x)) vs = wipe σ vs)
    (hm : ∀ {Q1 Q2 : VK}, (∀ x H1, Q1 x H1 → Q2 x H1) → tl σ H Q1 → tl σ H Q2) : tCB (rAll K) (tCons (tLc (iList K tl) (gName j) tYes te vs) tNil) σ H Q := by
  refine hm (fun x H1 h => ?_) h
  obtain ⟨a, xs, rfl, ha, hz, he, k⟩ := h
  refine ⟨a, rfl, ⟨xs, sq_of ha⟩, fun Dl hD => ?_⟩
  refine lc_list (xs := xs) (Cw H1 (fun _ => true) (fun _ => V.bl true) Dl) ⟨hD, Ex.new hD, upd_same⟩ (fun i H' _ p => sq_of (p.2.1 a _ ha)) (fun i x H' hi p => ⟨hw x, cw_turn p (by have := (List.getElem?_eq_some_iff.mp hi).1; omega) lc_yes (fun _ => he i x H1 (Ex.refl _) hi)⟩) (fun H' p => ?_)
  have e1 : given xs.length (fun _ => true) (fun _ => V.bl true) = (List.replicate xs.length true).map V.bl := by
    unfold given
    rw [List.filter_eq_self.mpr (fun _ _ => rfl)]
    apply List.ext_getElem <;> simp
  refine ⟨Dl, List.replicate xs.length true, rfl, sq_of (by rw [← e1]; exact p.2.2), ?_⟩
  have : (List.replicate xs.length true).all id = true := by simp
  rw [this]
  exact k H' p.2.1
/-- Table(s) -/
theorem make_tab {s : Addr} (ha : Ev ta σ H (.ref s)) (hs : SeqT K H s (ns.map V.int)) (g : Good ns) (k : ∀ (x l dx : Addr) (H2 : Hp), H x = none → H l = none → Ex H H2 → H2 x = some (.ins C dx [("_days", .ref l)]) → H2 l = some (.lst (ns.map V.int)) → Q (.ref x) H2) :
    tMake C (sp_init K C) [] E (tCons ta tNil) σ H Q := ha H (Ex.refl H) _ fun H1 e1 => fun x dx hx hdx hne => by
  have hsx : s ≠ x := by rcases hs with h | h <;> exact ne_of_none (e1 s _ h) hx
  have hsd : s ≠ dx := by rcases hs with h | h <;> exact ne_of_none (e1 s _ h) hdx
  refine ⟨x, dx, s, ns, rfl, upd_same, (hs.mono e1).imp (fun h => by rw [upd_ne hsx, upd_ne hsd]; exact h) (fun h => by rw [upd_ne hsx, upd_ne hsd]; exact h), g, fun l H' hk h1 h2 hl => ⟨rfl, ?_⟩⟩
  have hlx : l ≠ x := (ne_of h1 h2 (fun z => by cases z)).symm
  refine k x l dx H' (fresh_back e1 hx) ?_ (fun b o hb => ?_) h1 h2
  · rw [upd_ne hlx] at hl
    by_cases q : l = dx
    · subst q; rw [upd_same] at hl; cases hl
    · rw [upd_ne q] at hl; exact fresh_back e1 hl
  · have hb1 := e1 b _ hb
    have hbx : b ≠ x := ne_of_none hb1 hx
    exact hk b o (by rw [upd_ne hbx, upd_ne (ne_of_none hb1 hdx)]; exact hb1) hbx
end
section
variable {K : PySem.W.Frag} {σ : L2.St} {H : Hp} {p C : Addr} {i j i0 : Nat} {tA tr : TA} {tn ta tb tl te : TE} {Q : VK} {E : XK} {D : Ends} {tz : TS} {xs : List V} {vs : List Nat} {QA : List V → Hp → Prop} {ns : List Int} {r : R2}
theorem ac_k (h : te σ H fun v H1 => tr σ H1 fun xs H2 => QA (v :: xs) H2) : tCons te tr σ H QA := h
theorem op_k (h : ta σ H fun x H1 => tb σ H1 fun y H2 => r x y H2 Q) : tOp r ta tb σ H Q := h
theorem lst_k (h : tA σ H fun vs H1 => vs.length ≤ sizeLine ∧ ∀ p, H1 p = none → Q (.ref p) (upd H1 p (.lst vs))) : tLst tA σ H Q := h
theorem ret_k (h : te σ H D.rt) : tRet te D σ H := h
theorem asg_k (h : te σ H fun v H1 => tz D (σ.set i (some v)) H1) : tSeq (tAsg te (gName i)) tz D σ H := h
theorem v_k {v : V} (h : Ev te σ H v) (k : ∀ H1, Ex H H1 → Q v H1) : te σ H Q := h H (Ex.refl H) _ k
theorem all_k (h : tl σ H fun x H1 => tCB (rAll K) (tCons (tLc (iList K (tC x)) (gName j) tYes te vs) tNil) σ H1 Q) : tCB (rAll K) (tCons (tLc (iList K tl) (gName j) tYes te vs) tNil) σ H Q := h
/-- each turn says True; what the turns may change is told by W -/
theorem all_at {a : Addr} (W : Hp → Prop) (ha : H a = some (.lst xs)) (hz : xs.length ≤ 1000) (hw : ∀ x, wipe ((wipe σ vs).set j (some x)) vs = wipe σ vs)
    (hW : ∀ H2, W H2 → H2 a = some (.lst xs)) (hD : ∀ H2 l o, W H2 → H l = none → W (upd H2 l o))
    (he : ∀ (i : Nat) (x : V) (H' : Hp), xs[i]? = some x → W H' → ∀ Q : VK, (∀ H2, W H2 → (∀ l o, H l = none → H' l = some o → H2 l = some o) → Q (.bl true) H2) → te ((wipe σ vs).set j (some x)) H' Q)
    (h0 : W H) (k : ∀ H2, W H2 → Q (.bl true) H2) : tCB (rAll K) (tCons (tLc (iList K (tC (.ref a))) (gName j) tYes te vs) tNil) σ H Q := by
  refine ⟨a, rfl, ⟨xs, sq_of ha⟩, fun Dl hDl => ?_⟩
  refine lc_list (xs := xs) (fun i H' => W H' ∧ H' Dl = some (.lst (List.replicate i (V.bl true)))) ⟨hD _ _ _ h0 hDl, upd_same⟩ (fun i H' _ h => sq_of (hW _ h.1)) (fun i x H' hi h => ?_) (fun H' h => ?_)
  · obtain ⟨g1, g3⟩ := h
    refine ⟨hw x, ?_⟩
    unfold tYes
    refine iteT ?_
    refine he i x H' hi g1 _ fun H3 w3 e3 => ?_
    have hlt : i < xs.length := (List.getElem?_eq_some_iff.mp hi).1
    refine ⟨_, e3 Dl _ hDl g3, by rw [List.length_replicate]; exact sz_lt (by omega), hD _ _ _ w3 hDl, ?_⟩
    rw [upd_same, List.replicate_succ']
  · obtain ⟨g1, g3⟩ := h
    refine ⟨Dl, List.replicate xs.length true, rfl, sq_of (by rw [List.map_replicate]; exact g3), ?_⟩
    have : (List.replicate xs.length true).all id = true := by simp
    rw [this]
    exact k H' g1
/-- each turn says True and changes nothing -/
theorem all_calm {a : Addr} (ha : H a = some (.lst xs)) (hz : xs.length ≤ 1000) (hw : ∀ x, wipe ((wipe σ vs).set j (some x)) vs = wipe σ vs)
    (he : ∀ (i : Nat) (x : V), xs[i]? = some x → Ev te ((wipe σ vs).set j (some x)) H (.bl true)) (k : ∀ H2, Ex H H2 → Q (.bl true) H2) : tCB (rAll K) (tCons (tLc (iList K (tC (.ref a))) (gName j) tYes te vs) tNil) σ H Q :=
  all_ev (tl := tC (.ref a)) ⟨a, xs, rfl, ha, hz, fun i y H2 e2 hi => (he i y hi).mono e2, k⟩ hw (fun f h => f _ _ h)
theorem bd_of {ns : List Int} (h : ∀ i, i < ns.length → -1000000000000 ≤ ns.getD i 0 ∧ ns.getD i 0 ≤ 1000000000000) : Bd ns := fun n hn => by
  obtain ⟨i, hi, rfl⟩ := List.mem_iff_getElem.mp hn
  have := h i hi
  rw [List.getD_eq_getElem?_getD, List.getElem?_eq_getElem hi] at this
  exact this
end
section
variable {K : PySem.W.Frag} {σ : L2.St} {H H' : Hp} {p q C x dx l2 l : Addr} {i j i0 : Nat} {tA tr : TA} {tn ta tb tl te : TE} {tt : TT} {tu : TS} {Q : VK} {E : XK} {D : Ends} {tz : TS} {xs ys : List V} {vs : List Nat} {QA : List V → Hp → Prop} {ns : List Int} {r : R2} {o : HO}
theorem pot_off (h : PotAt H p) (hq : p ≠ q) : PotAt (upd H q o) p := by obtain ⟨a, b, h1, h2⟩ := h; exact ⟨a, b, h1, by rw [upd_ne hq]; exact h2⟩
theorem el_rg {a b : Int} (ha : Ev ta σ H (.int a)) (hb : Ev tb σ H (.int b)) (hr : RgOk a b) : EvL (tLstRg (tRg2 ta tb)) σ H (rgV a b) := fun H1 e Q q =>
  ha H1 e _ fun H2 e2 => hb H2 (e.trans e2) _ fun H3 e3 => ⟨a, b, rfl, rfl, hr, fun p hp => q p _ (fresh_back (e2.trans e3) hp) ((e2.trans e3).trans (Ex.new hp)) upd_same⟩
theorem el_cat (ha : EvL ta σ H xs) (hb : EvL tb σ H ys) (hz : xs.length + ys.length ≤ 100000) : EvL (tOp rCat ta tb) σ H (xs ++ ys) := fun H1 e Q q =>
  ha H1 e _ fun a H2 na e2 h2 => hb H2 (e.trans e2) _ fun b H3 nb e3 h3 => ⟨a, b, xs, ys, rfl, rfl, e3 a _ h2, h3, sz_of hz, fun p hp => q p _ (fresh_back (e2.trans e3) hp) ((e2.trans e3).trans (Ex.new hp)) upd_same⟩
theorem if_k {c : TT} (h : c σ H fun b H1 => if b = true then ta σ H1 Q else tb σ H1 Q) : tIf c ta tb σ H Q := h
theorem test_k {R : Bool → Hp → Prop} (h : te σ H fun x H1 => ∃ k, x = .bl k ∧ R k H1) : tTest te σ H R := h
theorem notall_k (h : te σ H fun x H1 => ∃ k, x = .bl k ∧ if (!k) = true then tu { D with nx := tz D } σ H1 else tz D σ H1) : tSeq (tIfS (tNot (tB te)) tu tNext) tz D σ H := h
theorem and_k (h : te σ H fun x H1 => ∃ k, x = .bl k ∧ if k = true then tt σ H1 (fun b H2 => if b = true then tu { D with nx := tz D } σ H2 else tz D σ H2) else tz D σ H1) : tSeq (tIfS (tAnd (tTest te) tt) tu tNext) tz D σ H := h
theorem eu_tuple_of {a : Addr} (h : Ev ta σ H (.ref a)) (hs : SqL K H a xs) : EvU (tCB (fun xs H Q => ∃ p ys, xs = [.ref p] ∧ ((SqL K H p ys ∧ ∀ l, H l = none → Q (.ref l) (upd H l (.tup ys))) ∨ (SqT K H p ys ∧ Q (.ref p) H))) (tCons ta tNil)) σ H xs := fun H1 e Q q =>
  h H1 e _ fun H2 e2 => ⟨a, xs, rfl, .inl ⟨ex_l (e.trans e2) hs, fun l hl => q l _ (fresh_back e2 hl) (e2.trans (Ex.new hl)) upd_same⟩⟩
theorem ite_both {c : Bool} (Z : V → Hp → Prop) (hA : (∀ v H2, Z v H2 → Q v H2) → ta σ H Q) (hB : (∀ v H2, Z v H2 → Q v H2) → tb σ H Q) (k : ∀ v H2, Z v H2 → Q v H2) : if c = true then ta σ H Q else tb σ H Q := by
  split
  · exact hA k
  · exact hB k
theorem far_rg {a b : Int} {i : Nat} {y : V} (h : (rgV a b)[i]? = some y) : ∃ c : Int, a ≤ c ∧ c < b ∧ y = .int c := by
  unfold rgV at h
  rw [List.getElem?_map] at h
  obtain ⟨c, hc, rfl⟩ := Option.map_eq_some_iff.mp h
  have := List.mem_range.mp (List.mem_of_getElem? hc)
  exact ⟨_, by omega, by omega, rfl⟩
end
theorem ex_pot {H H2 : Hp} {p : Addr} (e : Ex H H2) (hp : H p = none) : Ex H (wo H2 p) := fun b o h => by rw [wo_ne (ne_of_none h hp)]; exact e b o h
def sp_law (K : PySem.W.Frag) : Sp := fun vs H Q _ => ∃ (a : Addr) (ns : List Int), vs = [.ref a] ∧ SqL K H a (ns.map V.int) ∧ ns.length ≤ 63 ∧ RetV (.bl true) H Q
mutual
def plainD : PyData → Bool
  | .none => true
  | .bool _ => true
  | .int _ => true
  | .str _ => false
  | .list xs => plainAll xs
  | .tuple xs => plainAll xs
  | .dict _ => false
def plainAll : List PyData → Bool
  | [] => true
  | x :: xs => plainD x && plainAll xs
end
mutual
theorem plain_can : ∀ {d : PyData}, plainD d = true → d.canLay0 = true
  | .none, _ => by simp [PyData.canLay0]
  | .bool _, _ => by simp [PyData.canLay0]
  | .int _, _ => by simp [PyData.canLay0]
  | .str _, h => by simp [plainD] at h
  | .list xs, h => by simp only [plainD] at h; simpa [PyData.canLay0] using plain_canAll h
  | .tuple xs, h => by simp only [plainD] at h; simpa [PyData.canLay0] using plain_canAll h
  | .dict _, h => by simp [plainD] at h
theorem plain_canAll : ∀ {ds : List PyData}, plainAll ds = true → PyData.canLayAll0 ds = true
  | [], _ => by simp [PyData.canLayAll0]
  | d :: ds, h => by
    simp only [plainAll, Bool.and_eq_true] at h
    simp [PyData.canLayAll0, plain_can h.1, plain_canAll h.2]
end
theorem shaped_small {d : PyData} (h : plainD d = true) (hd : d.depth ≤ 64) : SeqAt.shaped d = true := by
  unfold SeqAt.shaped
  rw [plain_can h, decide_eq_true hd] <;> rfl
theorem plainAll_map {α : Type} {f : α → PyData} (h : ∀ x, plainD (f x) = true) : ∀ l : List α, plainAll (l.map f) = true
  | [] => rfl
  | x :: l => by simp only [List.map_cons, plainAll, h x, plainAll_map h l, Bool.and_self]
theorem smallD_of (ns : List Int) : plainD (dInts ns) = true := by unfold dInts; simp only [plainD]; exact plainAll_map (fun _ => rfl) ns
theorem call_k {sp : Sp} {dvs : List V} {E : XK} {tA : TA} {σ : L2.St} {H : Hp} {Q : VK} (h : tA σ H fun vs H1 => sp (vs ++ dvs) H1 Q E) : tCall sp dvs E tA σ H Q := h
/-- a new Table, or none -/
def TabN (C : Addr) (H H2 : Hp) (p : Addr) (ns : List Int) : Prop := ∃ dx l, H l = none ∧ H2 p = some (.ins C dx [("_days", .ref l)]) ∧ H2 l = some (.lst (ns.map V.int))
theorem TabN.tab {K : PySem.W.Frag} {C p : Addr} {H H2 : Hp} {ns : List Int} (t : TabN C H H2 p ns) : Tab K C H2 p ns := let ⟨dx, l, _, h1, h2⟩ := t; ⟨dx, l, h1, sq_of h2⟩
theorem TabN.back {C p : Addr} {H0 H H2 : Hp} {ns : List Int} (t : TabN C H H2 p ns) (e : Ex H0 H) : TabN C H0 H2 p ns := let ⟨dx, l, h, h1, h2⟩ := t; ⟨dx, l, fresh_back e h, h1, h2⟩
theorem TabN.mono {C p : Addr} {H H2 H3 : Hp} {ns : List Int} (t : TabN C H H2 p ns) (e : Ex H2 H3) : TabN C H H3 p ns := let ⟨dx, l, h, h1, h2⟩ := t; ⟨dx, l, h, e p _ h1, e l _ h2⟩
section
variable {K : PySem.W.Frag} {σ : L2.St} {H : Hp} {a C p q : Addr} {r : Row} {d : Int} {n : Nat} {rs : List Row} {ta tb te : TE} {tt : TT} {x : V} {dd : PyData} {tA tk : TA} {E E' : XK}
theorem evd_if {b : Bool} (h : EvT tt σ H b) (h1 : b = true → EvD K ta σ H dd) (h2 : b = false → EvD K tb σ H dd) : EvD K (tIf tt ta tb) σ H dd := fun H1 e Q q => h H1 e _ fun H2 e2 => by
  cases b with
  | true => rw [if_pos rfl]; exact h1 rfl H2 (e.trans e2) Q fun v H3 e3 hv => q v H3 (e2.trans e3) hv
  | false => rw [if_neg (by decide)]; exact h2 rfl H2 (e.trans e2) Q fun v H3 e3 hv => q v H3 (e2.trans e3) hv
end
theorem given_F {n : Nat} {f : Int → Int} : given ((n : Int).toNat) (fun _ => true) (fun i => V.int (f (i : Int))) = (listF n f).map V.int := by
  rw [given_all, Int.toNat_natCast]
  unfold listF
  rw [List.map_map] <;> rfl
/-- a Table that stands apart from the pot -/
def Tw (C : Addr) (H : Hp) (p x : Addr) (ns : List Int) : Prop := ∃ dx l, x ≠ p ∧ l ≠ p ∧ H x = some (.ins C dx [("_days", .ref l)]) ∧ H l = some (.lst (ns.map V.int))
theorem Tw.ex {C p x : Addr} {H H' : Hp} {ns : List Int} (t : Tw C H p x ns) (e : Ex H H') : Tw C H' p x ns := let ⟨dx, l, h1, h2, h3, h4⟩ := t; ⟨dx, l, h1, h2, e x _ h3, e l _ h4⟩
theorem Tw.exw {C p x : Addr} {H H' : Hp} {ns : List Int} (t : Tw C H p x ns) (e : Ex (wo H p) H') : Tw C H' p x ns := let ⟨dx, l, h1, h2, h3, h4⟩ := t; ⟨dx, l, h1, h2, e x _ (by rw [wo_ne h1]; exact h3), e l _ (by rw [wo_ne h2]; exact h4)⟩
theorem Tw.tab {K : PySem.W.Frag} {C p x : Addr} {H : Hp} {ns : List Int} (t : Tw C H p x ns) : Tab K C H x ns := let ⟨dx, l, _, _, h3, h4⟩ := t; ⟨dx, l, h3, sq_of h4⟩
theorem Tw.of {C p x : Addr} {H H2 : Hp} {ns : List Int} (hp : PotAt H p) (hx : H x = none) (t : TabN C H H2 x ns) : Tw C H2 p x ns := by
  obtain ⟨o, ho⟩ := hp.some
  obtain ⟨dx, l, h, h1, h2⟩ := t
  exact ⟨dx, l, (ne_of_none ho hx).symm, (ne_of_none ho h).symm, h1, h2⟩
section
variable {K : PySem.W.Frag} {σ : L2.St} {H : Hp} {a b C p q s : Addr} {n : Nat} {rs : List Row} {ta tb te : TE} {tA tr tk : TA} {E : XK} {ns ms : List Int} {D : Ends} {tz : TS} {i j : Nat} {QA : List V → Hp → Prop} {M : Hp → Addr → Prop} {t : TT} {tu : TS}
theorem par2_k (h : tA σ H fun vs H1 => ∃ v w, vs = [v, w] ∧ tz D ((σ.set i (some v)).set j (some w)) H1) : tSeq (tPar i j tA) tz D σ H := h
theorem ac_m (h : EvM te σ H M) (k : ∀ p H1, H p = none → Ex H H1 → M H1 p → tr σ H1 fun xs H2 => QA (.ref p :: xs) H2) : tCons te tr σ H QA := h H (Ex.refl H) _ k
theorem evm_make (ha : Ev ta σ H (.ref s)) (hs : H s = some (.lst (ns.map V.int))) (g : Good ns) : EvM (tMake C (sp_init K C) [] E (tCons ta tNil)) σ H (fun H2 p => TabN C H H2 p ns) := fun H1 e Q q =>
  make_tab (ha.mono e) (.inl (e s _ hs)) g fun x l dx H2 hx hl e2 h1 h2 => q x H2 hx e2 ⟨dx, l, fresh_back e hl, h1, h2⟩
theorem q_when2 {b : Bool} (h : EvT t σ H b) (h1 : b = true → ∀ H1, Ex H H1 → (∀ H2, Ex H1 H2 → tz D σ H2) → tu { D with nx := tz D } σ H1) (k : ∀ H1, Ex H H1 → tz D σ H1) : tSeq (tIfS t tu tNext) tz D σ H := q_when h (fun hb H1 e1 => h1 hb H1 e1 fun H2 e2 => k H2 (e1.trans e2)) (fun _ H1 e1 => k H1 e1)
end
section
variable {K : PySem.W.Frag} {σ : L2.St} {H : Hp} {a b C p q s : Addr} {n : Nat} {rs : List Row} {ta tb te : TE} {tA tr tk : TA} {E : XK} {ns ms : List Int} {D : Ends} {tz : TS} {i j : Nat} {QA : List V → Hp → Prop} {t tt : TT} {tu : TS} {vs : List Nat} {Q : VK} {g : TG}
theorem andV_k (h : ta σ H fun x H1 => ∃ c, x = .bl c ∧ if c = true then tb σ H1 Q else Q (.bl false) H1) : tAndV ta tb σ H Q := h
end
section
variable {K : PySem.W.Frag} {σ : L2.St} {H : Hp} {a b C p q s : Addr} {n : Nat} {rs : List Row} {ta tb te to ti : TE} {tA tr tk : TA} {E : XK} {ns ms : List Int} {D : Ends} {tz : TS} {i j : Nat} {QA : List V → Hp → Prop} {t tt : TT} {tu : TS} {vs : List Nat} {Q : VK} {g : TG}
theorem ornot_k (h : te σ H fun x H1 => ∃ c, x = .bl c ∧ if (!c) = true then tu { D with nx := tz D } σ H1 else tSeq (tIfS tt tu tNext) tz D σ H1) : tSeq (tIfS (tOr (tNot (tB te)) tt) tu tNext) tz D σ H := h
theorem rng_k (h : tA σ H fun ws H1 => tLc (iRng1 (fun _ H' Q' => Q' ws H')) g tt te vs σ H1 Q) : tLc (iRng1 tA) g tt te vs σ H Q := h
theorem tup_k (h : tA σ H fun vs H1 => vs.length ≤ sizeLine ∧ ∀ p, H1 p = none → Q (.ref p) (upd H1 p (.tup vs))) : tTup tA σ H Q := h
theorem asgS_k (h : te σ H fun v H1 => to σ H1 fun o H2 => ti σ H2 fun i H3 => rSetL o i v H3 fun H4 => tz D σ H4) : tSeq (tAsg te (gSub to ti rSetL)) tz D σ H := h
end
section
variable {K : PySem.W.Frag} {σ : L2.St} {H : Hp} {l : Addr} {ta te : TE} {D : Ends} {xs : List V}
/-- l.append(e), e read by hand -/
theorem app_k (ha : Ev ta σ H (.ref l)) (hl : H l = some (.lst xs)) (h : ∀ H1, Ex H H1 → te σ H1 fun v H2 => ∃ (l' : Addr) (xs' : List V) (v' : V), V.ref l = .ref l' ∧ [v] = [v'] ∧ H2 l' = some (.lst xs') ∧ xs'.length < sizeLine ∧ D.nx σ (upd H2 l' (.lst (xs' ++ [v'])))) : tDrop (tBM K "list" rAppend ta (tCons te tNil)) D σ H := ha H (Ex.refl H) _ fun H1 e1 =>
  ⟨Or.inl ⟨rfl, xs, sq_of (e1 l _ hl)⟩, h H1 e1⟩
end
section
variable {K : PySem.W.Frag} {σ : L2.St} {H : Hp} {tt : TT} {ta tb : TE} {x y : V}
theorem ev_if2 {b : Bool} (h : EvT tt σ H b) (h1 : b = true → Ev ta σ H x) (h2 : b = false → Ev tb σ H y) : Ev (tIf tt ta tb) σ H (if b = true then x else y) := ev_if h (fun q => by rw [if_pos q]; exact h1 q) (fun q => by rw [if_neg (by rw [q]; decide)]; exact h2 q)
end
theorem eqv_nil (fs : List Int) : PyData.eqv (dInts fs) (.list []) = fs.isEmpty := by
  cases fs with
  | nil => rfl
  | cons a fs => rfl
end K13
end
section
set_option maxHeartbeats 4000000
namespace K13
open PySem L2 Evl G TM
theorem eqvAll_ints : ∀ ns ms : List Int, PyData.eqvAll (ns.map PyData.int) (ms.map PyData.int) = decide (ns = ms)
  | [], [] => by simp [PyData.eqvAll]
  | [], m :: ms => by simp [PyData.eqvAll]
  | n :: ns, [] => by simp [PyData.eqvAll]
  | n :: ns, m :: ms => by
    simp only [List.map_cons, PyData.eqvAll, PyData.eqv, eqvAll_ints ns ms]
    by_cases h : n = m <;> by_cases h2 : ns = ms <;> simp [h, h2]
theorem eqv_dInts (ns ms : List Int) : PyData.eqv (dInts ns) (dInts ms) = decide (ns = ms) := by unfold dInts; simp only [PyData.eqv]; exact eqvAll_ints ns ms
abbrev lcm2 (ns ms : List Int) : Nat := Nat.lcm ns.length ms.length
def RetX (CT : Addr) (H : Hp) (E : XK) : Prop := ∀ (d : Addr) (H2 : Hp), Ex H H2 → H2 d = some (.xd [(("limit" : Str), V.int 600), (("what" : Str), V.str "length")]) → E (.ref CT) (some d) H2
def RetT (C : Addr) (ns : List Int) (H : Hp) (Q : VK) : Prop := ∀ p H2, H p = none → Ex H H2 → TabN C H H2 p ns → Q (.ref p) H2
def repB (ns : List Int) (n : Int) : Bool := ((List.range ns.length).map fun (i : Nat) => decide (onL ns ((i : Int) + n) = ns.getD i 0 + n)).all id
theorem repB_iff {ns : List Int} (g : Good ns) {n : Int} : repB ns n = true ↔ Per (onL ns) n := by
  unfold repB
  rw [List.all_map, List.all_eq_true]
  constructor
  · exact fun h => per_of_first g fun i hi => of_decide_eq_true (h i (List.mem_range.mpr hi))
  · exact fun h i hi => decide_eq_true (first_of_per g h (List.mem_range.mp hi))
def firstN (L : Nat) (p : Nat → Bool) : Option Nat := ((List.range L).filter p).head?
theorem firstN_is {L i : Nat} {p : Nat → Bool} (hi : i < L) (h : p i = true) (hb : ∀ j, j < i → p j = false) : firstN L p = some i := by
  unfold firstN
  obtain ⟨m, rfl⟩ : ∃ m, L = i + (m + 1) := ⟨L - i - 1, by omega⟩
  have e : (List.range i).filter p = [] := by rw [List.filter_eq_nil_iff]; intro j hj; rw [hb j (List.mem_range.mp hj)]; decide
  rw [List.range_add, List.filter_append, e, List.nil_append, List.range_succ_eq_map, List.map_cons, List.filter_cons, if_pos (by simpa using h)]
  simp
theorem firstN_no {L : Nat} {p : Nat → Bool} (hb : ∀ j, j < L → p j = false) : firstN L p = none := by
  unfold firstN
  have e : (List.range L).filter p = [] := by rw [List.filter_eq_nil_iff]; intro j hj; rw [hb j (List.mem_range.mp hj)]; decide
  rw [e] <;> rfl
def optV : Option Nat → V
  | none => .non
  | some n => .int (n : Int)
def optD : Option Nat → PyData
  | none => .none
  | some n => .int (n : Int)
theorem dp_opt {K : PySem.W.Frag} {H : Hp} : ∀ o : Option Nat, Dp K H (optV o) (optD o)
  | none => .non
  | some n => .int _
/-! ### the promises -/
def sp_eq (K : PySem.W.Frag) (C : Addr) : Sp := fun vs H Q _ => ∃ (a b : Addr) (ns ms : List Int), vs = [.ref a, .ref b] ∧ Tab K C H a ns ∧ Tab K C H b ms ∧ RetV (.bl (decide (ns = ms))) H Q
def sp_tm (CT : Addr) : Sp := fun vs H Q _ => ∃ (a : Addr) (x y : V), vs = [.ref a, x, y] ∧ H a = some (exo a CT none) ∧ ∀ d H2, H d = none → d ≠ a → (∀ b o, H b = some o → b ≠ a → H2 b = some o) → H2 a = some (exo a CT (some d)) → H2 d = some (exd d [(("limit" : Str), y), (("what" : Str), x)]) → Q .non H2
structure CalX (P : Program) (w : World) (K : PySem.W.Frag) (mg : Str → Option Value) (base : Heap) (x : Str) (f : Addr) (fd : FuncData) (ps : List Str) (k : Nat) (sp : Sp) : Prop where
  ok : FnOk P w K mg base (L2.CX P w) k f fd ps sp
  mgx : mg x = some (.ref f)
  kp : PySem.W.keepIn K (.ref f) = true
  bd : Binds K fd ps []
structure IniX (P : Program) (w : World) (K : PySem.W.Frag) (mg : Str → Option Value) (base : Heap) (CT : Addr) (f : Addr) (fd : FuncData) : Prop where
  ok : FnOk P w K mg base CX0 1 f fd ["self", "what", "limit"] (sp_tm CT)
  bd : Binds K fd ["self", "what", "limit"] []
def sp_common (K : PySem.W.Frag) (C CT : Addr) : Sp := fun vs H Q E => ∃ (a b : Addr) (ns ms : List Int), vs = [.ref a, .ref b] ∧ Tab K C H a ns ∧ Tab K C H b ms ∧ Good ns ∧ Good ms ∧ (lcm2 ns ms ≤ 600 → RetV (.int (lcm2 ns ms : Int)) H Q) ∧ (600 < lcm2 ns ms → RetX CT H E)
def sp_joined (K : PySem.W.Frag) (C CT : Addr) (M : List Int → List Int → Int → Int) : Sp := fun vs H Q E => ∃ (a b : Addr) (ns ms : List Int), vs = [.ref a, .ref b] ∧ Tab K C H a ns ∧ Tab K C H b ms ∧ Good ns ∧ Good ms ∧ (lcm2 ns ms ≤ 600 → RetT C (listF (lcm2 ns ms) (M ns ms)) H Q) ∧ (600 < lcm2 ns ms → RetX CT H E)
def sp_first (K : PySem.W.Frag) (C CT : Addr) (M : List Int → List Int → Nat → Bool) : Sp := fun vs H Q E => ∃ (a b : Addr) (ns ms : List Int), vs = [.ref a, .ref b] ∧ Tab K C H a ns ∧ Tab K C H b ms ∧ Good ns ∧ Good ms ∧ (lcm2 ns ms ≤ 600 → RetV (optV (firstN (lcm2 ns ms) (M ns ms))) H Q) ∧ (600 < lcm2 ns ms → RetX CT H E)
def sp_most (K : PySem.W.Frag) (C CT : Addr) : Sp := fun vs H Q E => ∃ (a b : Addr) (ns ms : List Int), vs = [.ref a, .ref b] ∧ Tab K C H a ns ∧ Tab K C H b ms ∧ Good ns ∧ Good ms ∧ (lcm2 ns ms ≤ 600 → RetV (.int (mxI (listF (lcm2 ns ms) fun x => onL ns x - onL ms x))) H Q) ∧ (600 < lcm2 ns ms → RetX CT H E)
abbrev mBe : List Int → List Int → Int → Int := fun ns ms x => onL ns (onL ms x)
abbrev mLa : List Int → List Int → Int → Int := fun ns ms x => if onL ms x > onL ns x then onL ms x else onL ns x
abbrev mSo : List Int → List Int → Int → Int := fun ns ms x => if onL ms x < onL ns x then onL ms x else onL ns x
abbrev mAb : List Int → List Int → Nat → Bool := fun ns ms i => decide (onL ns (i : Int) > onL ms (i : Int))
abbrev mPa : List Int → List Int → Nat → Bool := fun ns ms i => !decide (V.int (onL ns (i : Int)) = V.int (onL ms (i : Int)))
def sp_repeats (K : PySem.W.Frag) (C : Addr) : Sp := fun vs H Q _ => ∃ (a : Addr) (ns : List Int) (n : Int), vs = [.ref a, .int n] ∧ Tab K C H a ns ∧ Good ns ∧ RetV (.bl (repB ns n)) H Q
def sp_shortest (K : PySem.W.Frag) (C : Addr) : Sp := fun vs H Q _ => ∃ (a : Addr) (ns : List Int) (d : Nat), vs = [.ref a] ∧ Tab K C H a ns ∧ Good ns ∧ Least ns d ∧ RetT C (listF d (onL ns)) H Q
def sp_byT (K : PySem.W.Frag) (C : Addr) (M : List Int → Int → Int) : Sp := fun vs H Q _ => ∃ (a : Addr) (ns : List Int), vs = [.ref a] ∧ Tab K C H a ns ∧ Good ns ∧ RetT C (listF ns.length (M ns)) H Q
def sp_same (K : PySem.W.Frag) (C : Addr) : Sp := fun vs H Q _ => ∃ (a b : Addr) (ns ms : List Int) (c : Bool), vs = [.ref a, .ref b] ∧ Tab K C H a ns ∧ Tab K C H b ms ∧ Good ns ∧ Good ms ∧ (c = true ↔ ∀ x, onL ns x = onL ms x) ∧ RetV (.bl c) H Q
section
variable {K : PySem.W.Frag} {σ : L2.St} {H : Hp} {a b C CT p : Addr} {i j n : Nat} {tA : TA} {te tl ta tb : TE} {tu : TS} {Q : VK} {E E' : XK} {D : Ends} {tz : TS} {ns ms : List Int} {g : TG} {vs : List Nat} {t : TT} {m : Int} {M : List Int → List Int → Int → Int} {Mf : List Int → List Int → Nat → Bool} {c : Bool}
theorem spv_eq (h1 : Tab K C H a ns) (h2 : Tab K C H b ms) : SpV (sp_eq K C) ([.ref a, .ref b] ++ []) H (.bl (decide (ns = ms))) := fun H1 e Q q E => ⟨a, b, ns, ms, rfl, h1.mono e, h2.mono e, q⟩
theorem spv_repeats (h : Tab K C H a ns) (g : Good ns) : SpV (sp_repeats K C) ([.ref a, .int m] ++ []) H (.bl (repB ns m)) := fun H1 e Q q E => ⟨a, ns, m, rfl, h.mono e, g, q⟩
theorem spv_same (h1 : Tab K C H a ns) (h2 : Tab K C H b ms) (g : Good ns) (g2 : Good ms) (hc : c = true ↔ ∀ x, onL ns x = onL ms x) : SpV (sp_same K C) [.ref a, .ref b] H (.bl c) := fun H1 e Q q E => ⟨a, b, ns, ms, c, rfl, h1.mono e, h2.mono e, g, g2, hc, q⟩
theorem spm_joined (h1 : Tab K C H a ns) (h2 : Tab K C H b ms) (g : Good ns) (g2 : Good ms) (hl : lcm2 ns ms ≤ 600) : SpM (sp_joined K C CT M) [.ref a, .ref b] H (fun H2 p => TabN C H H2 p (listF (lcm2 ns ms) (M ns ms))) := fun H1 e Q q E =>
  ⟨a, b, ns, ms, rfl, h1.mono e, h2.mono e, g, g2, fun _ p H2 hp e2 t => q p H2 hp e2 (t.back e), fun z => by omega⟩
theorem spv_first (h1 : Tab K C H a ns) (h2 : Tab K C H b ms) (g : Good ns) (g2 : Good ms) (hl : lcm2 ns ms ≤ 600) : SpV (sp_first K C CT Mf) [.ref a, .ref b] H (optV (firstN (lcm2 ns ms) (Mf ns ms))) := fun H1 e Q q E =>
  ⟨a, b, ns, ms, rfl, h1.mono e, h2.mono e, g, g2, fun _ => q, fun z => by omega⟩
theorem spv_most (h1 : Tab K C H a ns) (h2 : Tab K C H b ms) (g : Good ns) (g2 : Good ms) (hl : lcm2 ns ms ≤ 600) : SpV (sp_most K C CT) [.ref a, .ref b] H (.int (mxI (listF (lcm2 ns ms) fun x => onL ns x - onL ms x))) := fun H1 e Q q E =>
  ⟨a, b, ns, ms, rfl, h1.mono e, h2.mono e, g, g2, fun _ => q, fun z => by omega⟩
theorem spm_shortest {d : Nat} (h1 : Tab K C H a ns) (g : Good ns) (hd : Least ns d) : SpM (sp_shortest K C) [.ref a] H (fun H2 p => TabN C H H2 p (listF d (onL ns))) := fun H1 e Q q E => ⟨a, ns, d, rfl, h1.mono e, g, hd, fun p H2 hp e2 t => q p H2 hp e2 (t.back e)⟩
theorem spm_byT {Mb : List Int → Int → Int} (h1 : Tab K C H a ns) (g : Good ns) : SpM (sp_byT K C Mb) [.ref a] H (fun H2 p => TabN C H H2 p (listF ns.length (Mb ns))) := fun H1 e Q q E => ⟨a, ns, rfl, h1.mono e, g, fun p H2 hp e2 t => q p H2 hp e2 (t.back e)⟩
theorem evm_meth {m : Str} {sp : Sp} {dx : Addr} {fs : List (Str × V)} {dvs ws : List V} {MM : Hp → Addr → Prop} (h : Ev ta σ H (.ref p)) (ho : H p = some (.ins C dx fs)) (hl : fs.lookup m = none) (ha : EvA tA σ H ws) (hs : SpM sp (.ref p :: (ws ++ dvs)) H MM) : EvM (tMeth C m sp dvs E ta tA) σ H MM := fun H1 e Q q =>
  h H1 e _ fun H2 e2 => ⟨p, dx, fs, rfl, (e.trans e2) p _ ho, hl, ha H2 (e.trans e2) _ fun H3 e3 => hs H3 ((e.trans e2).trans e3) Q (fun q' H4 n4 e4 h4 => q q' H4 (fresh_back (e2.trans e3) n4) ((e2.trans e3).trans e4) h4) E⟩
theorem q_common (h1 : σ[0]? = some (some (.ref a))) (h2 : σ[1]? = some (some (.ref b))) (ta : Tab K C H a ns) (tb : Tab K C H b ms) (g : Good ns) (g2 : Good ms) (kx : 600 < lcm2 ns ms → RetX CT H E)
    (k : lcm2 ns ms ≤ 600 → ∀ p H1, H p = none → Ex H H1 → H1 p = some (.rng 0 (lcm2 ns ms : Int)) → tz D (σ.set i (some (.ref p))) H1) :
    tSeq (tAsg (tCB (fun vs H Q => ∃ j, vs = [V.int j] ∧ ∀ p, H p = none → Q (.ref p) (upd H p (.rng 0 j))) (tCons (tCall (sp_common K C CT) [] E (tCons (tVar 0) (tCons (tVar 1) tNil))) tNil)) (gName i)) tz D σ H :=
  ⟨.ref a, h1, .ref b, h2, a, b, ns, ms, rfl, ta, tb, g, g2, fun hle H1 e1 => ⟨_, rfl, fun p hp => k hle p _ (fresh_back e1 hp) (e1.trans (Ex.new hp)) upd_same⟩, kx⟩
theorem for_common (h1 : σ[0]? = some (some (.ref a))) (h2 : σ[1]? = some (some (.ref b))) (ta : Tab K C H a ns) (tb : Tab K C H b ms) (gn : Good ns) (gm : Good ms) (kx : 600 < lcm2 ns ms → RetX CT H E)
    (k : lcm2 ns ms ≤ 600 → ∀ H1, Ex H H1 → tSeq (tFor (iRng1 (tCons (tC (.int (lcm2 ns ms : Int))) tNil)) g tu) tz D σ H1) :
    tSeq (tFor (iRng1 (tCons (tCall (sp_common K C CT) [] E (tCons (tVar 0) (tCons (tVar 1) tNil))) tNil)) g tu) tz D σ H :=
  ⟨.ref a, h1, .ref b, h2, a, b, ns, ms, rfl, ta, tb, gn, gm, fun hle H1 e1 => k hle H1 e1, kx⟩
theorem listF_map {n : Nat} {f : Int → Int} : (listF n f).map V.int = (List.range n).map fun (i : Nat) => V.int (f (i : Int)) := by unfold listF; rw [List.map_map]; rfl
theorem evm_makeL (ha : EvL ta σ H (ns.map V.int)) (g : Good ns) : EvM (tMake C (sp_init K C) [] E (tCons ta tNil)) σ H (fun H2 p => TabN C H H2 p ns) := fun H1 e Q q =>
  ha H1 e _ fun s H2 hs e2 h2 => make_tab (σ := σ) (ta := tC (.ref s)) ev_c (.inl h2) g fun x l dx H3 hx hl e3 h3 h4 => q x H3 (fresh_back e2 hx) (e2.trans e3) ⟨dx, l, fresh_back (e.trans e2) hl, h3, h4⟩
theorem el_lcR2 {lo hi : Int} (f : Nat → Bool) (v : Nat → V) (h : EvA tA σ H [.int lo, .int hi]) (hn : -100000 ≤ lo ∧ lo ≤ hi ∧ hi ≤ 40000 ∧ hi - lo ≤ 40000) (hw : ∀ x, wipe ((wipe σ vs).set j (some x)) vs = wipe σ vs)
    (ht : ∀ (i : Nat) H1, Ex H H1 → lo + (i : Int) < hi → EvT t ((wipe σ vs).set j (some (.int (lo + (i : Int))))) H1 (f i)) (he : ∀ (i : Nat) H1, Ex H H1 → lo + (i : Int) < hi → f i = true → Ev te ((wipe σ vs).set j (some (.int (lo + (i : Int))))) H1 (v i)) :
    EvL (tLc (iRng2 tA) (gName j) t te vs) σ H (given (hi - lo).toNat f v) := fun H0 e Q q => h H0 e _ fun H1 e1 => ⟨lo, hi, rfl, ⟨by omega, by omega, by omega, by omega⟩, fun Dl hD =>
  lc_range (lo := lo) (n := (hi - lo).toNat) (Cw H1 f v Dl) ⟨hD, Ex.new hD, upd_same⟩ (fun i H' hi p => ⟨hw _, cw_turn p (by omega) (ht i H1 (e.trans e1) (by omega)) (fun hf => he i H1 (e.trans e1) (by omega) hf)⟩) (fun H' p => q Dl H' (fresh_back e1 p.1) (e1.trans p.2.1) p.2.2)⟩
end
section
variable {P : Program} {w : World} {K : PySem.W.Frag} {mg : Str → Option Value} {base : Heap} {C CT fT : Addr}
theorem ok_eq {f : Addr} {fd : FuncData} (F : Fun K "__eq__" "Table.__eq__" s_Table___eq__ f fd) (T : Txt K mg C CT fT) : FnOk P w K mg base CX0 1 f fd ["self", "other"] (sp_eq K C) := by
  refine F.ok sc_Table___eq__ (fun vs H Q E h => ?_) (fun cdv A outer s H vs Q E hr h => ?_)
  · obtain ⟨a, b, ns, ms, rfl, _⟩ := h
    rfl
  · obtain ⟨a, b, ns, ms, rfl, ⟨dx, l, a1, a2⟩, ⟨dy, m, b1, b2⟩, k⟩ := h
    refine ⟨_, (pss_one (ps_ret (pe_and (pe_callB call_isi (by rfl) T.b_isinstance (by decide +kernel) (pa_cons (pv 1) (pa_cons (pe_glob (v := .ref C) rfl T.mg_Table rfl) pa_nil))) (pe_one (pe_cmpR (eqD (K := K) rfl hr.units) (pe_fldK (K := K) rfl (pv 0) rfl) (pe_fldK (K := K) rfl (pv 1) rfl) (nomark _)))))), ?_⟩
    have sh : ∀ ns : List Int, SeqAt.shaped (dInts ns) = true := fun ns => shaped_small (smallD_of ns) (by have := depth_ints ns; omega)
    refine s_ret (ev_is (ev_andV (a := true) (ev_cb (ea_cons (ev_var rfl) (ea_cons ev_c ea_nil)) (rc_isi (.own C) (fun H1 e => .base (T.tyC H1 b dy _ (e b _ b1))) (by unfold PySem.W.kitOne; rw [if_pos (by simp)]))) fun _ => evd_eqD (evd_ref (ev_fld (ev_var rfl) a1 T.cl T.nD lk_days) (dp_ints a2)) (evd_ref (ev_fld (ev_var rfl) b1 T.cl T.nD lk_days) (dp_ints b2)) (sh ns) (sh ms)) (by rw [eqv_dInts]; rfl)) k
theorem ok_tm {f : Addr} {fd : FuncData} (F : Fun K "__init__" "TooMany.__init__" s_TooMany___init__ f fd) (T : Txt K mg C CT fT) : FnOk P w K mg base CX0 1 f fd ["self", "what", "limit"] (sp_tm CT) := by
  refine F.ok sc_TooMany___init__ (fun vs H Q E h => ?_) (fun cdv A outer s H vs Q E hr h => ?_)
  · obtain ⟨a, x, y, rfl, _⟩ := h
    rfl
  · obtain ⟨a, x, y, rfl, ha, k⟩ := h
    refine ⟨_, (pss_cons (ps_own (pv 0) (pv 1)) (pss_one (ps_own (pv 0) (pv 2)))), ?_⟩
    refine ⟨_, rfl, _, rfl, a, CT, _, _, _, _, rfl, T.own_TooMany, T.no_what, .inl ⟨ha, fun d hd hda => ?_⟩⟩
    refine ⟨_, rfl, _, rfl, a, CT, _, _, _, _, rfl, T.own_TooMany, T.no_limit, .inr ⟨d, _, upd_same, by rw [upd_ne hda]; exact upd_same, by show 1 ≤ 900; decide, ?_⟩⟩
    refine k d _ hd hda (fun b o hb hba => ?_) (by rw [upd_ne (Ne.symm hda)]; exact upd_same) upd_same
    have hbd : b ≠ d := ne_of_none hb hd
    rw [upd_ne hbd, upd_ne hba, upd_ne hbd]
    exact hb
theorem ok_common {f f2 p2 : Addr} {fd fd2 fd3 : FuncData} (F : Fun K "_common_length" "_common_length" s__common_length f fd) (T : Txt K mg C CT fT) (m_length : Prp P w K mg base C "length" p2 f2 fd2 ["self"] 1 (sp_length K C)) (i_TooMany : IniX P w K mg base CT fT fd3) : FnOk P w K mg base (L2.CX P w) 3 f fd ["table", "other_table"] (sp_common K C CT) := by
  refine F.okX sc__common_length (fun vs H Q E h => ?_) (fun cdv A outer s H vs Q E hr h => ?_)
  · obtain ⟨a, b, ns, ms, rfl, _⟩ := h
    rfl
  · obtain ⟨a, b, ns, ms, rfl, ta, tb, g, g2, k, kx⟩ := h
    obtain ⟨mc, tkq, rd, cv⟩ := T.cM
    obtain ⟨dx, l, a1, a2⟩ := id ta
    obtain ⟨dy, m, b1, b2⟩ := id tb
    have hgm := g.most
    have hgm2 := g2.most
    refine ⟨_, (pss_cons (ps_set (i := 2) sc__common_length.nd rfl (Or.inl rfl) (pe_callBfun cr_lcm (by rfl) T.b_lcm (pa_cons (pe_prop (pv 0) T.cl m_length.pr m_length.ok (hr.mono (by decide)) m_length.bd .nil pass0 (by rfl)) (pa_cons (pe_prop (pv 1) T.cl m_length.pr m_length.ok (hr.mono (by decide)) m_length.bd .nil pass0 (by rfl)) pa_nil)))) (pss_cons (ps_if (pt_cmpR op_gt (pv 2) (ClX.pe_cval (pe_glob (v := .ref C) rfl T.mg_Table rfl)) (nomark _)) (pss_one (ps_raise rfl (takes_of rfl rfl rfl rfl) (pmk_own2 T.own_TooMany T.iC_TooMany T.tI_TooMany i_TooMany.ok (hr.mono (by decide)) i_TooMany.bd .nil pass0 (by rfl) T.mg_TooMany (pa_cons pe_str (pa_cons (ClX.pe_cval (pe_glob (v := .ref C) rfl T.mg_Table rfl)) pa_nil))))) pss_nil) (pss_one (ps_ret (pv 2))))), ?_⟩
    refine q_asg (v := .int (lcm2 ns ms : Int)) (ev_is (ev_cb (ea_cons (ev_prop (ev_var rfl) a1 (spv_length ta)) (ea_cons (ev_prop (ev_var rfl) b1 (spv_length tb)) ea_nil)) (rc_lcm (by omega) (by omega))) (by rw [Int.natAbs_natCast, Int.natAbs_natCast])) fun H1 e1 => ?_
    refine q_when (et_test (ev_op (ev_var rfl) (ev_const ev_glob rd cv) rv_I0)) (fun hb H2 e2 => ?_) (fun hb H2 e2 => ?_)
    · have hgt : (lcm2 ns ms : Int) > 600 := of_decide_eq_true hb
      have e12 := e1.trans e2
      refine (ea_cons ev_c (ea_cons (ev_const ev_glob rd cv) ea_nil)) H2 (Ex.refl _) _ fun H3 e3 => ⟨by show 2 ≤ 1000; decide, fun x hx => ?_⟩
      refine ⟨x, _, _, rfl, upd_same, fun d H4 hd hdx hk h1 h2 => ⟨rfl, d, _, h1, h2, ?_, ?_⟩⟩
      · rwa [upd_ne hdx] at hd
      · rw [upd_ne hdx] at hd
        refine kx (by omega) d _ (fun b o hb => ?_) upd_same
        have hb3 := (e12.trans e3) b o hb
        have hbx : b ≠ x := ne_of_none hb3 hx
        rw [upd_ne (ne_of_none hb3 hd), del_ne hbx]
        exact hk b o (by rw [upd_ne hbx]; exact hb3) hbx
    · have hle : ¬ (lcm2 ns ms : Int) > 600 := of_decide_eq_false hb
      exact s_ret (ev_var rfl) fun H3 e3 => k (by omega) H3 ((e1.trans e2).trans e3)
end
end K13
end
section
set_option maxHeartbeats 4000000
namespace K13
open PySem L2 Evl G TM
theorem list_map_on {ns : List Int} (g : Good ns) : ns = listF ns.length (onL ns) := (list_on g).symm
theorem mxI_eq {l : List Int} (h : l ≠ []) {m : Int} (h1 : m ∈ l) (h2 : ∀ y, y ∈ l → y ≤ m) : mxI l = m := by
  have := mxI_is h
  exact Int.le_antisymm (h2 _ this.1) (this.2 _ h1)
theorem cut_take {xs : List V} {d : Nat} (h : d ≤ xs.length) : cutV xs none (some (d : Int)) = xs.take d := by
  unfold cutV
  simp [HT.sIx, h]
  rw [if_neg (by omega)]
  omega
theorem given_if {n : Nat} {f : Nat → Bool} {v : Nat → Int} : given n f (fun i => V.int (v i)) = (((List.range n).filter f).map v).map V.int := by unfold given; rw [List.map_map]; rfl
/-- the lengths that divide -/
def lens (L : Nat) : List Int := ((List.range L).filter fun (i : Nat) => decide (V.int (((L : Int)).fmod (1 + (i : Int))) = V.int 0)).map fun (i : Nat) => 1 + (i : Int)
theorem lens_given (L : Nat) : (lens L).map V.int = given ((L : Int) + 1 - 1).toNat (fun i => decide (V.int (((L : Int)).fmod (1 + (i : Int))) = V.int 0)) (fun i => V.int (1 + (i : Int))) := by
  rw [show ((L : Int) + 1 - 1).toNat = L by omega, given_if]; rfl
theorem mem_lens {L : Nat} {y : Int} : y ∈ lens L ↔ ∃ e : Nat, 1 ≤ e ∧ e ≤ L ∧ e ∣ L ∧ y = (e : Int) := by
  unfold lens
  rw [List.mem_map]
  constructor
  · rintro ⟨i, hi, rfl⟩
    rw [List.mem_filter, List.mem_range] at hi
    refine ⟨1 + i, by omega, by omega, ?_, by omega⟩
    have h := of_decide_eq_true hi.2
    injection h with h
    rw [Int.fmod_eq_emod_of_nonneg _ (by omega)] at h
    exact Nat.dvd_of_mod_eq_zero (by exact_mod_cast h)
  · rintro ⟨e, h1, h2, h3, rfl⟩
    refine ⟨e - 1, ?_, by omega⟩
    rw [List.mem_filter, List.mem_range]
    refine ⟨by omega, decide_eq_true ?_⟩
    congr 1
    rw [Int.fmod_eq_emod_of_nonneg _ (by omega), show 1 + ((e - 1 : Nat) : Int) = (e : Int) by omega]
    have := Nat.mod_eq_zero_of_dvd h3
    omega
section
variable {K : PySem.W.Frag} {σ : L2.St} {H : Hp} {te : TE} {D : Ends} {M : Hp → Addr → Prop} {xs ys : List V}
theorem s_retM (h : EvM te σ H M) (k : ∀ p H1, H p = none → Ex H H1 → M H1 p → D.rt (.ref p) H1) : tRet te D σ H := h H (Ex.refl H) _ k
theorem el_is (h : EvL te σ H xs) (e : xs = ys) : EvL te σ H ys := e ▸ h
end
section
variable {P : Program} {w : World} {K : PySem.W.Frag} {mg : Str → Option Value} {base : Heap} {C CT fT : Addr}
theorem ok_repeats {f f1 f2 : Addr} {fd fd1 fd2 : FuncData} (F : Fun K "_repeats" "_repeats" s__repeats f fd) (T : Txt K mg C CT fT) (m_on : Met P w K mg base C "on" f1 fd1 ["self", "day"] 3 (sp_on K C)) (m_asked_rows : Met P w K mg base C "asked_rows" f2 fd2 ["self"] 1 (sp_rows K C)) :
    FnOk P w K mg base CX0 4 f fd ["table", "length"] (sp_repeats K C) := by
  refine F.ok sc__repeats (fun vs H Q E h => ?_) (fun cdv A outer s H vs Q E hr h => ?_)
  · obtain ⟨a, ns, n, rfl, _⟩ := h
    rfl
  · obtain ⟨a, ns, n, rfl, t, g, k⟩ := h
    obtain ⟨dx, l, h1, h2⟩ := id t
    have hgm := g.most
    have e0 : (ns.map V.int).length = ns.length := List.length_map ..
    refine ⟨_, (pss_one (ps_ret (pe_callB (allL (K := K) rfl rfl) (by rfl) T.b_all (by decide +kernel) (pa_cons (pe_lc (own := [("asked", 2), ("served", 3)]) (g := (gTup K 2 (gCons (gName 2) (gCons (gName 3) gNil)))) (by rfl) sc__repeats.nd (piL (K := K) rfl (pe_meth0 (pv 0) T.cl m_asked_rows.me m_asked_rows.ok (hr.mono (by decide)) m_asked_rows.bd .nil pass0)) (blkOk_by (own := [("asked", 2), ("served", 3)]) (N := ["table", "length", "asked", "served"]) (sc := defScope s__repeats) (by decide +kernel)) (fun _ _ _ _ _ => (pg_tup (by rfl) (pgs_cons (pg_name (i := 2) sc__repeats.nd rfl (Or.inl rfl)) (pgs_cons (pg_name (i := 3) sc__repeats.nd rfl (Or.inl rfl)) pgs_nil)))) (fun _ _ _ _ _ => pts_nil) (fun _ _ _ _ _ => (pe_cmpR op_eq (pe_meth (pv 0) T.cl m_on.me m_on.ok (hr.mono (by decide)) m_on.bd .nil pass0 (pa_cons (pe_op op_add (pv 2) (pv 1)) pa_nil)) (pe_op op_add (pv 3) (pv 1)) (nomark _)))) pa_nil)))), ?_⟩
    refine s_ret (ev_cbL (el_lcR (fun _ => true) (fun i => V.bl (decide (onL ns ((i : Int) + n) = ns.getD i 0 + n))) (evr_meth (ev_var rfl) h1 rfl ea_nil (spr_rows t)) (by omega) (fun _ _ => rfl) (fun _ _ _ _ _ => lc_yes) (fun i x H1 e1 hx _ => ?_)) fun p H1 e1 hp => ?_) k
    · have hi : i < ns.length := by have := (List.getElem?_eq_some_iff.mp hx).1; omega
      have e2 : x = .int (ns.getD i 0) := by have := getI hi; rw [hx] at this; exact Option.some.inj this
      subst e2
      exact ev_is (ev_op (ev_meth (ev_var rfl) (e1 a _ h1) rfl (ea_cons (ev_op (ev_var rfl) (ev_var rfl) rv_I0) ea_nil) (spv_on (t.mono e1) g)) (ev_op (ev_var rfl) (ev_var rfl) rv_I0) (rv_eq rfl)) (congrArg V.bl (by simp))
    · have := rc_all (K := K) (H := H1) (p := p) (bs := (List.range ns.length).map fun (i : Nat) => decide (onL ns ((i : Int) + n) = ns.getD i 0 + n)) (sq_of (by rw [hp, given_all, e0, List.map_map]; rfl))
      exact this
theorem ok_shortest {f f1 f2 f3 p1 : Addr} {fd fd1 fd2 fd3 : FuncData} (F : Fun K "shortest" "Table.shortest" s_Table_shortest f fd) (T : Txt K mg C CT fT) (mkI : Mk K C f3) (m_length : Prp P w K mg base C "length" p1 f1 fd1 ["self"] 1 (sp_length K C)) (c__repeats : Cal P w K mg base "_repeats" f2 fd2 ["table", "length"] 4 (sp_repeats K C)) (m_init : Ini P w K mg base C f3 fd3) :
    FnOk P w K mg base CX0 5 f fd ["self"] (sp_shortest K C) := by
  refine F.ok sc_Table_shortest (fun vs H Q E h => ?_) (fun cdv A outer s H vs Q E hr h => ?_)
  · obtain ⟨a, ns, d, rfl, _⟩ := h
    rfl
  · obtain ⟨a, ns, d, rfl, t, g, hd, k⟩ := h
    obtain ⟨dx, l, h1, h2⟩ := id t
    have hgm := g.most
    have hgp := g.pos
    have hdr := hd.rule g
    have hdL : d ≤ ns.length := Nat.le_of_dvd (by omega) hd.dvd
    refine ⟨_, (pss_cons (ps_setLc (i := 1) (own := [("length", 2)]) (g := (gName 2)) (by rfl) sc_Table_shortest.nd rfl rfl (sw_true rfl rfl rfl (by decide +kernel)) (pi_range2 (by rfl) T.b_range (pa_cons pe_int (pa_cons (pe_op op_add (pe_prop (pv 0) T.cl m_length.pr m_length.ok (hr.mono (by decide)) m_length.bd .nil pass0 (by rfl)) pe_int) pa_nil))) (blkOk_by (own := [("length", 2)]) (N := ["self", "lengths", "length"]) (sc := defScope s_Table_shortest) (by decide +kernel)) (fun _ _ _ _ _ => (pg_name (i := 2) sc_Table_shortest.nd rfl (Or.inl rfl))) (fun _ _ _ _ _ => (pts_one (pt_cmpR op_eq (pe_op op_modN (pe_prop (pv 0) T.cl m_length.pr m_length.ok (hr.mono (by decide)) m_length.bd .nil pass0 (by rfl)) (pv 2)) pe_int (nomark _)))) (fun _ _ _ _ _ => (pv 2))) (pss_one (ps_ret (pe_make mkI m_init.ok (hr.mono (by decide)) (by rfl) T.mg_Table m_init.bd .nil pass0 (pa_cons (pe_slice sl_list (pe_fldK (K := K) rfl (pv 0) rfl) po_none (po_some (pe_callB (minL (K := K) rfl rfl) (by rfl) T.b_min (by decide +kernel) (pa_cons (pe_lc (own := [("length", 2)]) (g := (gName 2)) (by rfl) sc_Table_shortest.nd (piL (K := K) rfl (pv 1)) (blkOk_by (own := [("length", 2)]) (N := ["self", "lengths", "length"]) (sc := defScope s_Table_shortest) (by decide +kernel)) (fun _ _ _ _ _ => (pg_name (i := 2) sc_Table_shortest.nd rfl (Or.inl rfl))) (fun _ _ _ _ _ => (pts_one (pt_val (pe_call c__repeats.ok (hr.mono (by decide)) (by rfl) c__repeats.mgx c__repeats.kp c__repeats.bd .nil pass0 (pa_cons (pv 0) (pa_cons (pv 2) pa_nil)))))) (fun _ _ _ _ _ => (pv 2))) pa_nil)))) pa_nil))))), ?_⟩
    refine q_asgL (xs := (lens ns.length).map V.int) (by
      rw [lens_given]
      exact el_lcR2 (fun i => decide (V.int (((ns.length : Int)).fmod (1 + (i : Int))) = V.int 0)) (fun i => V.int (1 + (i : Int))) (ea_cons ev_c (ea_cons (ev_op (ev_prop (ev_var rfl) h1 (spv_length t)) ev_c rv_I0) ea_nil)) (by omega) (fun _ => rfl)
        (fun i H1 e1 hi => et_test (ev_op (ev_op (ev_prop (ev_var rfl) (e1 a _ h1) (spv_length (t.mono e1))) (ev_var rfl) (rv_I (by omega))) ev_c (rv_eq rfl))) (fun i H1 e1 hi _ => ev_var rfl)) fun q H1 hq e1 hql => ?_
    have e0 : ((lens ns.length).map V.int).length = (lens ns.length).length := List.length_map ..
    have hl600 : (lens ns.length).length ≤ 600 := by
      unfold lens
      rw [List.length_map]
      have := List.length_filter_le (fun (i : Nat) => decide (V.int (((ns.length : Int)).fmod (1 + (i : Int))) = V.int 0)) (List.range ns.length)
      rw [List.length_range] at this
      omega
    have t1 := t.mono e1
    have hcut : cutV (ns.map V.int) none (some (d : Int)) = (listF d (onL ns)).map V.int := by
      rw [cut_take (by rw [List.length_map]; exact hdL), ← List.map_take]
      conv => lhs; rw [list_map_on g]
      rw [listF_take hdL]
    refine s_retM (evm_makeL (el_is (el_sl (ev_fld (ev_var rfl) (e1 a _ h1) T.cl T.nD lk_days) eo_none (eo_some (ev_cbL (el_lcL (fun i => repB ns ((lens ns.length).getD i 0)) (fun i => V.int ((lens ns.length).getD i 0)) (ev_var rfl) (sq_of hql) (by omega) (fun _ => rfl) (fun i x H2 e2 hx => ?_) (fun i x H2 e2 hx _ => ?_)) (fun p H2 e2 hp => ?_))) (ex_l e1 h2)) hcut) hdr.good) fun p H2 hp e2 t2 => k p H2 (fresh_back e1 hp) (e1.trans e2) (t2.back e1)
    · have hi : i < (lens ns.length).length := by have := (List.getElem?_eq_some_iff.mp hx).1; omega
      have e3 : x = .int ((lens ns.length).getD i 0) := by have := getI hi; rw [hx] at this; exact Option.some.inj this
      subst e3
      exact et_test (ev_call (ea_cons (ev_var rfl) (ea_cons (ev_var rfl) ea_nil)) (spv_repeats (t1.mono e2) g))
    · have hi : i < (lens ns.length).length := by have := (List.getElem?_eq_some_iff.mp hx).1; omega
      have e3 : x = .int ((lens ns.length).getD i 0) := by have := getI hi; rw [hx] at this; exact Option.some.inj this
      subst e3
      exact ev_var rfl
    · rw [e0, given_if] at hp
      refine rc_min (sq_of hp) ?_ ?_
      · obtain ⟨i, hi, hv⟩ := List.mem_iff_getElem.mp (mem_lens.mpr ⟨d, hd.pos, hdL, hd.dvd, rfl⟩)
        have hv2 : (lens ns.length).getD i 0 = (d : Int) := by rw [List.getD_eq_getElem?_getD, List.getElem?_eq_getElem hi]; exact hv
        exact List.mem_map.mpr ⟨i, List.mem_filter.mpr ⟨List.mem_range.mpr hi, by rw [hv2]; exact (repB_iff g).mpr hd.per⟩, hv2⟩
      · intro y hy
        obtain ⟨i, hi, rfl⟩ := List.mem_map.mp hy
        rw [List.mem_filter, List.mem_range] at hi
        have hm : (lens ns.length).getD i 0 ∈ lens ns.length := by rw [List.getD_eq_getElem?_getD, List.getElem?_eq_getElem hi.1]; exact List.getElem_mem hi.1
        obtain ⟨e, p1, p2, p3, p4⟩ := mem_lens.mp hm
        have := hi.2
        rw [p4] at this ⊢
        have := hd.min e p1 p3 ((repB_iff g).mp this)
        omega
theorem ok_byT {f f1 f2 f3 p1 : Addr} {fd fd1 fd2 fd3 : FuncData} (F : Fun K "by_table" "Table.by_table" s_Table_by_table f fd) (T : Txt K mg C CT fT) (mkI : Mk K C f3) (m_length : Prp P w K mg base C "length" p1 f1 fd1 ["self"] 1 (sp_length K C)) (m_by : Met P w K mg base C "by" f2 fd2 ["self", "day"] 3 (sp_by K C)) (m_init : Ini P w K mg base C f3 fd3) :
    FnOk P w K mg base CX0 5 f fd ["self"] (sp_byT K C byL) := by
  refine F.ok sc_Table_by_table (fun vs H Q E h => ?_) (fun cdv A outer s H vs Q E hr h => ?_)
  · obtain ⟨a, ns, rfl, _⟩ := h
    rfl
  · obtain ⟨a, ns, rfl, t, g, k⟩ := h
    obtain ⟨dx, l, h1, h2⟩ := id t
    have hgm := g.most
    refine ⟨_, (pss_one (ps_ret (pe_make mkI m_init.ok (hr.mono (by decide)) (by rfl) T.mg_Table m_init.bd .nil pass0 (pa_cons (pe_lc (own := [("day", 1)]) (g := (gName 1)) (by rfl) sc_Table_by_table.nd (pi_range1 (by rfl) T.b_range (pa_cons (pe_prop (pv 0) T.cl m_length.pr m_length.ok (hr.mono (by decide)) m_length.bd .nil pass0 (by rfl)) pa_nil)) (blkOk_by (own := [("day", 1)]) (N := ["self", "day"]) (sc := defScope s_Table_by_table) (by decide +kernel)) (fun _ _ _ _ _ => (pg_name (i := 1) sc_Table_by_table.nd rfl (Or.inl rfl))) (fun _ _ _ _ _ => pts_nil) (fun _ _ _ _ _ => (pe_meth (pv 0) T.cl m_by.me m_by.ok (hr.mono (by decide)) m_by.bd .nil pass0 (pa_cons (pv 1) pa_nil)))) pa_nil)))), ?_⟩
    exact (evm_makeL (K := K) (C := C) (by rw [← given_F]; exact el_lcR1 (fun _ => true) (fun i => V.int (byL ns (i : Int))) (ea_cons (ev_prop (ev_var rfl) h1 (spv_length t)) ea_nil) (by omega) (fun _ => rfl) (fun _ _ _ _ => lc_yes) (fun i H1 e1 _ _ => ev_meth (ev_var rfl) (e1 a _ h1) rfl (ea_cons (ev_var rfl) ea_nil) (spv_by (t.mono e1) g))) (by_rule g).good) H (Ex.refl _) _ k
theorem ok_tilT {f f1 f2 f3 p1 : Addr} {fd fd1 fd2 fd3 : FuncData} (F : Fun K "til_table" "Table.til_table" s_Table_til_table f fd) (T : Txt K mg C CT fT) (mkI : Mk K C f3) (m_length : Prp P w K mg base C "length" p1 f1 fd1 ["self"] 1 (sp_length K C)) (m_til : Met P w K mg base C "til" f2 fd2 ["self", "day"] 4 (sp_til K C)) (m_init : Ini P w K mg base C f3 fd3) :
    FnOk P w K mg base CX0 5 f fd ["self"] (sp_byT K C tilL) := by
  refine F.ok sc_Table_til_table (fun vs H Q E h => ?_) (fun cdv A outer s H vs Q E hr h => ?_)
  · obtain ⟨a, ns, rfl, _⟩ := h
    rfl
  · obtain ⟨a, ns, rfl, t, g, k⟩ := h
    obtain ⟨dx, l, h1, h2⟩ := id t
    have hgm := g.most
    refine ⟨_, (pss_one (ps_ret (pe_make mkI m_init.ok (hr.mono (by decide)) (by rfl) T.mg_Table m_init.bd .nil pass0 (pa_cons (pe_lc (own := [("day", 1)]) (g := (gName 1)) (by rfl) sc_Table_til_table.nd (pi_range1 (by rfl) T.b_range (pa_cons (pe_prop (pv 0) T.cl m_length.pr m_length.ok (hr.mono (by decide)) m_length.bd .nil pass0 (by rfl)) pa_nil)) (blkOk_by (own := [("day", 1)]) (N := ["self", "day"]) (sc := defScope s_Table_til_table) (by decide +kernel)) (fun _ _ _ _ _ => (pg_name (i := 1) sc_Table_til_table.nd rfl (Or.inl rfl))) (fun _ _ _ _ _ => pts_nil) (fun _ _ _ _ _ => (pe_meth (pv 0) T.cl m_til.me m_til.ok (hr.mono (by decide)) m_til.bd .nil pass0 (pa_cons (pv 1) pa_nil)))) pa_nil)))), ?_⟩
    exact (evm_makeL (K := K) (C := C) (by rw [← given_F]; exact el_lcR1 (fun _ => true) (fun i => V.int (tilL ns (i : Int))) (ea_cons (ev_prop (ev_var rfl) h1 (spv_length t)) ea_nil) (by omega) (fun _ => rfl) (fun _ _ _ _ => lc_yes) (fun i H1 e1 _ _ => ev_meth (ev_var rfl) (e1 a _ h1) rfl (ea_cons (ev_var rfl) ea_nil) (spv_til (t.mono e1) g))) (til_rule g).good) H (Ex.refl _) _ k
theorem ok_same {f f1 f2 : Addr} {fd fd1 fd2 : FuncData} (F : Fun K "is_same" "Table.is_same" s_Table_is_same f fd) (T : Txt K mg C CT fT) (m_shortest : Met P w K mg base C "shortest" f1 fd1 ["self"] 5 (sp_shortest K C)) (m_eq : Met P w K mg base C "__eq__" f2 fd2 ["self", "other"] 1 (sp_eq K C)) :
    FnOk P w K mg base CX0 6 f fd ["self", "other_table"] (sp_same K C) := by
  refine F.ok sc_Table_is_same (fun vs H Q E h => ?_) (fun cdv A outer s H vs Q E hr h => ?_)
  · obtain ⟨a, b, ns, ms, c, rfl, _⟩ := h
    rfl
  · obtain ⟨a, b, ns, ms, c, rfl, t, t', g, g', hc, k⟩ := h
    obtain ⟨dx, l, h1, h2⟩ := id t
    obtain ⟨dy, m, b1, b2⟩ := id t'
    obtain ⟨d, hd⟩ := least_ex g
    obtain ⟨e, he⟩ := least_ex g'
    have hce : decide (listF d (onL ns) = listF e (onL ms)) = c := by
      cases c with
      | true => exact decide_eq_true ((least_same g g' hd he).mpr (hc.mp rfl))
      | false => exact decide_eq_false fun z => by have := hc.mpr ((least_same g g' hd he).mp z); cases this
    refine ⟨_, (pss_one (ps_ret (pe_cmpR (op_eqO m_eq.ok m_eq.me.at_ m_eq.me.fn m_eq.bd pass0 (hr.mono (by decide))) (pe_meth0 (pv 0) T.cl m_shortest.me m_shortest.ok (hr.mono (by decide)) m_shortest.bd .nil pass0) (pe_meth0 (pv 1) T.cl m_shortest.me m_shortest.ok (hr.mono (by decide)) m_shortest.bd .nil pass0) (nomark _)))), ?_⟩
    refine (evm_meth (ev_var rfl) h1 rfl ea_nil (spm_shortest t g hd)) H (Ex.refl _) _ fun p H1 hp e1 tp => ?_
    refine (evm_meth (ev_var rfl) (e1 b _ b1) rfl ea_nil (spm_shortest (t'.mono e1) g' he)) H1 (Ex.refl _) _ fun q H2 hq e2 tq => ?_
    obtain ⟨dp, lp, _, p1, p2⟩ := id (tp.mono e2)
    obtain ⟨dq, lq, _, q1, q2⟩ := id tq
    refine ⟨p, q, dp, dq, _, _, rfl, rfl, p1, q1, p, q, _, _, rfl, (tp.mono e2).tab, tq.tab, fun H3 e3 => ⟨⟨_, rfl⟩, ?_⟩⟩
    rw [hce]
    exact k H3 ((e1.trans e2).trans e3)
theorem ok_behind {f f1 f2 f3 : Addr} {fd fd1 fd2 fd3 : FuncData} (F : Fun K "behind" "behind" s_behind f fd) (T : Txt K mg C CT fT) (mkI : Mk K C f3) (c__common_length : CalX P w K mg base "_common_length" f1 fd1 ["table", "other_table"] 3 (sp_common K C CT)) (m_on : Met P w K mg base C "on" f2 fd2 ["self", "day"] 3 (sp_on K C)) (m_init : Ini P w K mg base C f3 fd3) :
    FnOk P w K mg base (L2.CX P w) 6 f fd ["table", "other_table"] (sp_joined K C CT mBe) := by
  refine F.okX sc_behind (fun vs H Q E h => ?_) (fun cdv A outer s H vs Q E hr h => ?_)
  · obtain ⟨a, b, ns, ms, rfl, _⟩ := h
    rfl
  · obtain ⟨a, b, ns, ms, rfl, ta, tb, g, g2, k, kx⟩ := h
    refine ⟨_, (pss_cons (ps_set (i := 2) sc_behind.nd rfl (Or.inl rfl) (pe_callTy cr_range1 (by rfl) T.b_range (by decide +kernel) (pa_cons (pe_call c__common_length.ok (hr.mono (by decide)) (by rfl) c__common_length.mgx c__common_length.kp c__common_length.bd .nil (passF (takes_of rfl rfl rfl rfl)) (pa_cons (pv 0) (pa_cons (pv 1) pa_nil))) pa_nil))) (pss_one (ps_ret (pe_make mkI m_init.ok (hr.mono (by decide)) (by rfl) T.mg_Table m_init.bd .nil pass0 (pa_cons (pe_lc (own := [("day", 3)]) (g := (gName 3)) (by rfl) sc_behind.nd (pi_rgV (pv 2)) (blkOk_by (own := [("day", 3)]) (N := ["table", "other_table", "days", "day"]) (sc := defScope s_behind) (by decide +kernel)) (fun _ _ _ _ _ => (pg_name (i := 3) sc_behind.nd rfl (Or.inl rfl))) (fun _ _ _ _ _ => pts_nil) (fun _ _ _ _ _ => (pe_meth (pv 0) T.cl m_on.me m_on.ok (hr.mono (by decide)) m_on.bd .nil pass0 (pa_cons (pe_meth (pv 1) T.cl m_on.me m_on.ok (hr.mono (by decide)) m_on.bd .nil pass0 (pa_cons (pv 3) pa_nil)) pa_nil)))) pa_nil))))), ?_⟩
    refine q_common rfl rfl ta tb g g2 kx fun hle q H1 hq e1 hr1 => ?_
    have t1 := ta.mono e1
    have t2 := tb.mono e1
    obtain ⟨dx, l, a1, a2⟩ := id t1
    obtain ⟨dy, m, b1, b2⟩ := id t2
    have hpos : 1 ≤ lcm2 ns ms := Nat.lcm_pos g.pos g2.pos
    exact (evm_makeL (K := K) (C := C) (by rw [listF_map]; exact el_lcRV _ (ev_var rfl) hr1 (by omega) (fun _ => rfl) (fun i H2 e2 hi => ev_meth (ev_var rfl) (e2 a _ a1) rfl (ea_cons (ev_meth (ev_var rfl) (e2 b _ b1) rfl (ea_cons (ev_var rfl) ea_nil) (spv_on (t2.mono e2) g2)) ea_nil) (spv_on (t1.mono e2) g))) (behind_rule g g2 hpos hle (Nat.dvd_lcm_left _ _) (Nat.dvd_lcm_right _ _)).good) H1 (Ex.refl _) _ fun p H2 hp e2 t => k hle p H2 (fresh_back e1 hp) (e1.trans e2) (t.back e1)
theorem ok_later {f f1 f2 f3 : Addr} {fd fd1 fd2 fd3 : FuncData} (F : Fun K "later" "later" s_later f fd) (T : Txt K mg C CT fT) (mkI : Mk K C f3) (c__common_length : CalX P w K mg base "_common_length" f1 fd1 ["table", "other_table"] 3 (sp_common K C CT)) (m_on : Met P w K mg base C "on" f2 fd2 ["self", "day"] 3 (sp_on K C)) (m_init : Ini P w K mg base C f3 fd3) :
    FnOk P w K mg base (L2.CX P w) 6 f fd ["table", "other_table"] (sp_joined K C CT mLa) := by
  refine F.okX sc_later (fun vs H Q E h => ?_) (fun cdv A outer s H vs Q E hr h => ?_)
  · obtain ⟨a, b, ns, ms, rfl, _⟩ := h
    rfl
  · obtain ⟨a, b, ns, ms, rfl, ta, tb, g, g2, k, kx⟩ := h
    refine ⟨_, (pss_cons (ps_set (i := 2) sc_later.nd rfl (Or.inl rfl) (pe_callTy cr_range1 (by rfl) T.b_range (by decide +kernel) (pa_cons (pe_call c__common_length.ok (hr.mono (by decide)) (by rfl) c__common_length.mgx c__common_length.kp c__common_length.bd .nil (passF (takes_of rfl rfl rfl rfl)) (pa_cons (pv 0) (pa_cons (pv 1) pa_nil))) pa_nil))) (pss_one (ps_ret (pe_make mkI m_init.ok (hr.mono (by decide)) (by rfl) T.mg_Table m_init.bd .nil pass0 (pa_cons (pe_lc (own := [("day", 3)]) (g := (gName 3)) (by rfl) sc_later.nd (pi_rgV (pv 2)) (blkOk_by (own := [("day", 3)]) (N := ["table", "other_table", "days", "day"]) (sc := defScope s_later) (by decide +kernel)) (fun _ _ _ _ _ => (pg_name (i := 3) sc_later.nd rfl (Or.inl rfl))) (fun _ _ _ _ _ => pts_nil) (fun _ _ _ _ _ => (pe_callB (call_max2 rfl) (by rfl) T.b_max (by decide +kernel) (pa_cons (pe_meth (pv 0) T.cl m_on.me m_on.ok (hr.mono (by decide)) m_on.bd .nil pass0 (pa_cons (pv 3) pa_nil)) (pa_cons (pe_meth (pv 1) T.cl m_on.me m_on.ok (hr.mono (by decide)) m_on.bd .nil pass0 (pa_cons (pv 3) pa_nil)) pa_nil))))) pa_nil))))), ?_⟩
    refine q_common rfl rfl ta tb g g2 kx fun hle q H1 hq e1 hr1 => ?_
    have t1 := ta.mono e1
    have t2 := tb.mono e1
    obtain ⟨dx, l, a1, a2⟩ := id t1
    obtain ⟨dy, m, b1, b2⟩ := id t2
    have hpos : 1 ≤ lcm2 ns ms := Nat.lcm_pos g.pos g2.pos
    exact (evm_makeL (K := K) (C := C) (by rw [listF_map]; exact el_lcRV _ (ev_var rfl) hr1 (by omega) (fun _ => rfl) (fun i H2 e2 hi => ev_cb (ea_cons (ev_meth (ev_var rfl) (e2 a _ a1) rfl (ea_cons (ev_var rfl) ea_nil) (spv_on (t1.mono e2) g)) (ea_cons (ev_meth (ev_var rfl) (e2 b _ b1) rfl (ea_cons (ev_var rfl) ea_nil) (spv_on (t2.mono e2) g2)) ea_nil)) rc_max2)) (later_rule g g2 hpos hle (Nat.dvd_lcm_left _ _) (Nat.dvd_lcm_right _ _)).good) H1 (Ex.refl _) _ fun p H2 hp e2 t => k hle p H2 (fresh_back e1 hp) (e1.trans e2) (t.back e1)
theorem ok_sooner {f f1 f2 f3 : Addr} {fd fd1 fd2 fd3 : FuncData} (F : Fun K "sooner" "sooner" s_sooner f fd) (T : Txt K mg C CT fT) (mkI : Mk K C f3) (c__common_length : CalX P w K mg base "_common_length" f1 fd1 ["table", "other_table"] 3 (sp_common K C CT)) (m_on : Met P w K mg base C "on" f2 fd2 ["self", "day"] 3 (sp_on K C)) (m_init : Ini P w K mg base C f3 fd3) :
    FnOk P w K mg base (L2.CX P w) 6 f fd ["table", "other_table"] (sp_joined K C CT mSo) := by
  refine F.okX sc_sooner (fun vs H Q E h => ?_) (fun cdv A outer s H vs Q E hr h => ?_)
  · obtain ⟨a, b, ns, ms, rfl, _⟩ := h
    rfl
  · obtain ⟨a, b, ns, ms, rfl, ta, tb, g, g2, k, kx⟩ := h
    refine ⟨_, (pss_cons (ps_set (i := 2) sc_sooner.nd rfl (Or.inl rfl) (pe_callTy cr_range1 (by rfl) T.b_range (by decide +kernel) (pa_cons (pe_call c__common_length.ok (hr.mono (by decide)) (by rfl) c__common_length.mgx c__common_length.kp c__common_length.bd .nil (passF (takes_of rfl rfl rfl rfl)) (pa_cons (pv 0) (pa_cons (pv 1) pa_nil))) pa_nil))) (pss_one (ps_ret (pe_make mkI m_init.ok (hr.mono (by decide)) (by rfl) T.mg_Table m_init.bd .nil pass0 (pa_cons (pe_lc (own := [("day", 3)]) (g := (gName 3)) (by rfl) sc_sooner.nd (pi_rgV (pv 2)) (blkOk_by (own := [("day", 3)]) (N := ["table", "other_table", "days", "day"]) (sc := defScope s_sooner) (by decide +kernel)) (fun _ _ _ _ _ => (pg_name (i := 3) sc_sooner.nd rfl (Or.inl rfl))) (fun _ _ _ _ _ => pts_nil) (fun _ _ _ _ _ => (pe_callB (call_min2 rfl) (by rfl) T.b_min (by decide +kernel) (pa_cons (pe_meth (pv 0) T.cl m_on.me m_on.ok (hr.mono (by decide)) m_on.bd .nil pass0 (pa_cons (pv 3) pa_nil)) (pa_cons (pe_meth (pv 1) T.cl m_on.me m_on.ok (hr.mono (by decide)) m_on.bd .nil pass0 (pa_cons (pv 3) pa_nil)) pa_nil))))) pa_nil))))), ?_⟩
    refine q_common rfl rfl ta tb g g2 kx fun hle q H1 hq e1 hr1 => ?_
    have t1 := ta.mono e1
    have t2 := tb.mono e1
    obtain ⟨dx, l, a1, a2⟩ := id t1
    obtain ⟨dy, m, b1, b2⟩ := id t2
    have hpos : 1 ≤ lcm2 ns ms := Nat.lcm_pos g.pos g2.pos
    exact (evm_makeL (K := K) (C := C) (by rw [listF_map]; exact el_lcRV _ (ev_var rfl) hr1 (by omega) (fun _ => rfl) (fun i H2 e2 hi => ev_cb (ea_cons (ev_meth (ev_var rfl) (e2 a _ a1) rfl (ea_cons (ev_var rfl) ea_nil) (spv_on (t1.mono e2) g)) (ea_cons (ev_meth (ev_var rfl) (e2 b _ b1) rfl (ea_cons (ev_var rfl) ea_nil) (spv_on (t2.mono e2) g2)) ea_nil)) rc_min2)) (sooner_rule g g2 hpos hle (Nat.dvd_lcm_left _ _) (Nat.dvd_lcm_right _ _)).good) H1 (Ex.refl _) _ fun p H2 hp e2 t => k hle p H2 (fresh_back e1 hp) (e1.trans e2) (t.back e1)
theorem ok_most {f f1 f2 : Addr} {fd fd1 fd2 : FuncData} (F : Fun K "most_above" "most_above" s_most_above f fd) (T : Txt K mg C CT fT) (c__common_length : CalX P w K mg base "_common_length" f1 fd1 ["table", "other_table"] 3 (sp_common K C CT)) (m_on : Met P w K mg base C "on" f2 fd2 ["self", "day"] 3 (sp_on K C)) :
    FnOk P w K mg base (L2.CX P w) 6 f fd ["table", "other_table"] (sp_most K C CT) := by
  refine F.okX sc_most_above (fun vs H Q E h => ?_) (fun cdv A outer s H vs Q E hr h => ?_)
  · obtain ⟨a, b, ns, ms, rfl, _⟩ := h
    rfl
  · obtain ⟨a, b, ns, ms, rfl, ta, tb, g, g2, k, kx⟩ := h
    refine ⟨_, (pss_cons (ps_set (i := 2) sc_most_above.nd rfl (Or.inl rfl) (pe_callTy cr_range1 (by rfl) T.b_range (by decide +kernel) (pa_cons (pe_call c__common_length.ok (hr.mono (by decide)) (by rfl) c__common_length.mgx c__common_length.kp c__common_length.bd .nil (passF (takes_of rfl rfl rfl rfl)) (pa_cons (pv 0) (pa_cons (pv 1) pa_nil))) pa_nil))) (pss_one (ps_ret (pe_callB (maxL (K := K) rfl rfl) (by rfl) T.b_max (by decide +kernel) (pa_cons (pe_lc (own := [("day", 3)]) (g := (gName 3)) (by rfl) sc_most_above.nd (pi_rgV (pv 2)) (blkOk_by (own := [("day", 3)]) (N := ["table", "other_table", "days", "day"]) (sc := defScope s_most_above) (by decide +kernel)) (fun _ _ _ _ _ => (pg_name (i := 3) sc_most_above.nd rfl (Or.inl rfl))) (fun _ _ _ _ _ => pts_nil) (fun _ _ _ _ _ => (pe_op op_sub (pe_meth (pv 0) T.cl m_on.me m_on.ok (hr.mono (by decide)) m_on.bd .nil pass0 (pa_cons (pv 3) pa_nil)) (pe_meth (pv 1) T.cl m_on.me m_on.ok (hr.mono (by decide)) m_on.bd .nil pass0 (pa_cons (pv 3) pa_nil))))) pa_nil))))), ?_⟩
    refine q_common rfl rfl ta tb g g2 kx fun hle q H1 hq e1 hr1 => ?_
    have t1 := ta.mono e1
    have t2 := tb.mono e1
    obtain ⟨dx, l, a1, a2⟩ := id t1
    obtain ⟨dy, m, b1, b2⟩ := id t2
    have hpos : 1 ≤ lcm2 ns ms := Nat.lcm_pos g.pos g2.pos
    have hne : (listF (lcm2 ns ms) fun x => onL ns x - onL ms x) ≠ [] := fun z => by have z2 := congrArg List.length z; rw [listF_len, List.length_nil] at z2; omega
    have hmx := mxI_is hne
    exact s_ret (ev_cbL (el_lcRV (fun i => V.int (onL ns (i : Int) - onL ms (i : Int))) (ev_var rfl) hr1 (by omega) (fun _ => rfl) (fun i H2 e2 hi => ev_op (ev_meth (ev_var rfl) (e2 a _ a1) rfl (ea_cons (ev_var rfl) ea_nil) (spv_on (t1.mono e2) g)) (ev_meth (ev_var rfl) (e2 b _ b1) rfl (ea_cons (ev_var rfl) ea_nil) (spv_on (t2.mono e2) g2)) rv_I0)) fun p H2 e2 hp => rc_max (sq_of (by rw [listF_map]; exact hp)) hmx.1 hmx.2) fun H2 e2 => k hle H2 (e1.trans e2)
theorem ok_above {f f1 f2 : Addr} {fd fd1 fd2 : FuncData} (F : Fun K "first_above" "first_above" s_first_above f fd) (T : Txt K mg C CT fT) (c__common_length : CalX P w K mg base "_common_length" f1 fd1 ["table", "other_table"] 3 (sp_common K C CT)) (m_on : Met P w K mg base C "on" f2 fd2 ["self", "day"] 3 (sp_on K C)) :
    FnOk P w K mg base (L2.CX P w) 6 f fd ["table", "other_table"] (sp_first K C CT mAb) := by
  refine F.okX sc_first_above (fun vs H Q E h => ?_) (fun cdv A outer s H vs Q E hr h => ?_)
  · obtain ⟨a, b, ns, ms, rfl, _⟩ := h
    rfl
  · obtain ⟨a, b, ns, ms, rfl, ta, tb, g, g2, k, kx⟩ := h
    refine ⟨_, (pss_cons (ps_for (passes_of rfl) rfl (pi_range1 (by rfl) T.b_range (pa_cons (pe_call c__common_length.ok (hr.mono (by decide)) (by rfl) c__common_length.mgx c__common_length.kp c__common_length.bd .nil (passF (takes_of rfl rfl rfl rfl)) (pa_cons (pv 0) (pa_cons (pv 1) pa_nil))) pa_nil)) (pg_name (i := 2) sc_first_above.nd rfl (Or.inl rfl)) (pss_one (ps_if (pt_cmpR op_gt (pe_meth (pv 0) T.cl m_on.me m_on.ok (hr.mono (by decide)) m_on.bd .nil pass0 (pa_cons (pv 2) pa_nil)) (pe_meth (pv 1) T.cl m_on.me m_on.ok (hr.mono (by decide)) m_on.bd .nil pass0 (pa_cons (pv 2) pa_nil)) (nomark _)) (pss_one (ps_ret (pv 2))) pss_nil))) (pss_one (ps_ret pe_non))), ?_⟩
    refine for_common rfl rfl ta tb g g2 kx fun hle H1 e1 => ?_
    refine q_forR1 (n := (lcm2 ns ms : Int)) (ea_cons ev_c ea_nil) (by omega) (fun i σ' H' => Ex H H' ∧ (∀ j, j < i → mAb ns ms j = false) ∧ ∃ o : Option V, σ' = [some (.ref a), some (.ref b), o]) (fun H2 e2 => ⟨e1.trans e2, fun j hj => absurd hj (Nat.not_lt_zero _), none, rfl⟩) (fun i σ' H' hi hpv => ?_) (fun σ' H' hpv => ?_)
    · obtain ⟨e3, hb, o, rfl⟩ := hpv
      obtain ⟨dx, l, a1, a2⟩ := ta.mono e3
      obtain ⟨dy, m, b1, b2⟩ := tb.mono e3
      refine s_when (et_test (ev_op (ev_meth (ev_var rfl) a1 rfl (ea_cons (ev_var rfl) ea_nil) (spv_on (ta.mono e3) g)) (ev_meth (ev_var rfl) b1 rfl (ea_cons (ev_var rfl) ea_nil) (spv_on (tb.mono e3) g2)) rv_I0)) (fun q H2 e2 => ?_) fun q H2 e2 => ⟨e3.trans e2, fun j hj => ?_, _, rfl⟩
      · have k' := k hle
        rw [firstN_is (p := mAb ns ms) (by omega : i < lcm2 ns ms) q hb] at k'
        exact s_ret (ev_var rfl) fun H3 e4 => k' H3 ((e3.trans e2).trans e4)
      · by_cases hji : j = i
        · subst hji; exact q
        · exact hb j (by omega)
    · obtain ⟨e3, hb, o, rfl⟩ := hpv
      have k' := k hle
      rw [firstN_no (p := mAb ns ms) (fun j hj => hb j (by omega))] at k'
      exact s_ret ev_c fun H3 e4 => k' H3 (e3.trans e4)
theorem ok_parting {f f1 f2 : Addr} {fd fd1 fd2 : FuncData} (F : Fun K "first_parting" "first_parting" s_first_parting f fd) (T : Txt K mg C CT fT) (c__common_length : CalX P w K mg base "_common_length" f1 fd1 ["table", "other_table"] 3 (sp_common K C CT)) (m_on : Met P w K mg base C "on" f2 fd2 ["self", "day"] 3 (sp_on K C)) :
    FnOk P w K mg base (L2.CX P w) 6 f fd ["table", "other_table"] (sp_first K C CT mPa) := by
  refine F.okX sc_first_parting (fun vs H Q E h => ?_) (fun cdv A outer s H vs Q E hr h => ?_)
  · obtain ⟨a, b, ns, ms, rfl, _⟩ := h
    rfl
  · obtain ⟨a, b, ns, ms, rfl, ta, tb, g, g2, k, kx⟩ := h
    refine ⟨_, (pss_cons (ps_for (passes_of rfl) rfl (pi_range1 (by rfl) T.b_range (pa_cons (pe_call c__common_length.ok (hr.mono (by decide)) (by rfl) c__common_length.mgx c__common_length.kp c__common_length.bd .nil (passF (takes_of rfl rfl rfl rfl)) (pa_cons (pv 0) (pa_cons (pv 1) pa_nil))) pa_nil)) (pg_name (i := 2) sc_first_parting.nd rfl (Or.inl rfl)) (pss_one (ps_if (pt_cmpR op_ne (pe_meth (pv 0) T.cl m_on.me m_on.ok (hr.mono (by decide)) m_on.bd .nil pass0 (pa_cons (pv 2) pa_nil)) (pe_meth (pv 1) T.cl m_on.me m_on.ok (hr.mono (by decide)) m_on.bd .nil pass0 (pa_cons (pv 2) pa_nil)) (nomark _)) (pss_one (ps_ret (pv 2))) pss_nil))) (pss_one (ps_ret pe_non))), ?_⟩
    refine for_common rfl rfl ta tb g g2 kx fun hle H1 e1 => ?_
    refine q_forR1 (n := (lcm2 ns ms : Int)) (ea_cons ev_c ea_nil) (by omega) (fun i σ' H' => Ex H H' ∧ (∀ j, j < i → mPa ns ms j = false) ∧ ∃ o : Option V, σ' = [some (.ref a), some (.ref b), o]) (fun H2 e2 => ⟨e1.trans e2, fun j hj => absurd hj (Nat.not_lt_zero _), none, rfl⟩) (fun i σ' H' hi hpv => ?_) (fun σ' H' hpv => ?_)
    · obtain ⟨e3, hb, o, rfl⟩ := hpv
      obtain ⟨dx, l, a1, a2⟩ := ta.mono e3
      obtain ⟨dy, m, b1, b2⟩ := tb.mono e3
      refine s_when (et_test (ev_op (ev_meth (ev_var rfl) a1 rfl (ea_cons (ev_var rfl) ea_nil) (spv_on (ta.mono e3) g)) (ev_meth (ev_var rfl) b1 rfl (ea_cons (ev_var rfl) ea_nil) (spv_on (tb.mono e3) g2)) (rv_ne rfl))) (fun q H2 e2 => ?_) fun q H2 e2 => ⟨e3.trans e2, fun j hj => ?_, _, rfl⟩
      · have k' := k hle
        rw [firstN_is (p := mPa ns ms) (by omega : i < lcm2 ns ms) q hb] at k'
        exact s_ret (ev_var rfl) fun H3 e4 => k' H3 ((e3.trans e2).trans e4)
      · by_cases hji : j = i
        · subst hji; exact q
        · exact hb j (by omega)
    · obtain ⟨e3, hb, o, rfl⟩ := hpv
      have k' := k hle
      rw [firstN_no (p := mPa ns ms) (fun j hj => hb j (by omega))] at k'
      exact s_ret ev_c fun H3 e4 => k' H3 (e3.trans e4)
end
end K13
end
section
set_option maxHeartbeats 4000000
namespace K13
open PySem L2 Evl G TM
def sp_lcommon : Sp := fun vs H Q _ => ∃ n m : Nat, vs = [.int (n : Int), .int (m : Int)] ∧ 1 ≤ n ∧ n ≤ 600 ∧ 1 ≤ m ∧ m ≤ 600 ∧ RetV (.int (Nat.lcm n m : Int)) H Q
def toldD (ns : List Int) (L : Nat) : PyData := .list [.bool true, dInts ns, .int (L : Int)]
def sp_told (K : PySem.W.Frag) (C : Addr) : Sp := fun vs H Q _ => ∃ (B : Hp) (a : Addr) (ns : List Int), vs = [.ref a] ∧ Ex B H ∧ Tab K C H a ns ∧ RetN K B (toldD ns ns.length) H Q
structure Pair (K : PySem.W.Frag) (C : Addr) (H : Hp) (a l b m : Addr) (ns ms : List Int) : Prop where
  ta : Tab K C H a ns
  tb : Tab K C H b ms
  la : H l = some (.lst (ns.map V.int))
  lb : H m = some (.lst (ms.map V.int))
  ga : Good ns
  gb : Good ms
  bda : Bd ns
  bdb : Bd ms
  le : lcm2 ns ms ≤ 600
theorem Pair.mono {K : PySem.W.Frag} {C a l b m : Addr} {H H' : Hp} {ns ms : List Int} (p : Pair K C H a l b m ns ms) (e : Ex H H') : Pair K C H' a l b m ns ms := ⟨p.ta.mono e, p.tb.mono e, e l _ p.la, e m _ p.lb, p.ga, p.gb, p.bda, p.bdb, p.le⟩
def sp_pair (K : PySem.W.Frag) (C : Addr) : Sp := fun vs H Q _ => ∃ (a l b m : Addr) (ns ms : List Int), vs = [.ref a, .ref l, .ref b, .ref m] ∧ Pair K C H a l b m ns ms ∧ RetV (.bl true) H Q
section
variable {K : PySem.W.Frag} {σ : L2.St} {H B : Hp} {a b C CT p : Addr} {ns ms : List Int} {n m : Nat} {l l' : Addr}
theorem spv_lcommon (h1 : 1 ≤ n) (h2 : n ≤ 600) (h3 : 1 ≤ m) (h4 : m ≤ 600) : SpV sp_lcommon ([.int (n : Int), .int (m : Int)] ++ []) H (.int (Nat.lcm n m : Int)) := fun H1 e Q q E => ⟨n, m, rfl, h1, h2, h3, h4, q⟩
theorem spn_told (hb : Ex B H) (h : Tab K C H a ns) (hl : ns.length = n) : SpN K B (sp_told K C) ([.ref a] ++ []) H (toldD ns n) := fun H1 e Q q E => ⟨B, a, ns, rfl, hb.trans e, h.mono e, by rw [hl]; exact q⟩
theorem spv_pair {b' m' : Addr} (p : Pair K C H a l b' m' ns ms) : SpV (sp_pair K C) ([.ref a, .ref l, .ref b', .ref m'] ++ []) H (.bl true) := fun H1 e Q q E => ⟨a, l, b', m', ns, ms, rfl, p.mono e, q⟩
end
theorem given_listF {L : Nat} {f : Int → Int} {v : Nat → V} (h : ∀ i, i < L → v i = V.int (f (i : Int))) : given ((L : Int).toNat) (fun _ => true) v = (listF L f).map V.int := by
  rw [given_all, Int.toNat_natCast, listF_map]
  exact List.map_congr_left fun i hi => h i (List.mem_range.mp hi)
theorem bd_listF {L : Nat} {f : Int → Int} (h : ∀ i : Nat, i < L → -9000000000000 ≤ f (i : Int) ∧ f (i : Int) ≤ 9000000000000) : smallAll ((listF L f).map PyData.int) = true := small_ints fun n hn => by
  unfold listF at hn
  obtain ⟨i, hi, rfl⟩ := List.mem_map.mp hn
  have := h i (List.mem_range.mp hi)
  omega
/-- what the repr of such lists asks -/
theorem told_fit {ns : List Int} {L : Nat} (hs : smallAll (ns.map PyData.int) = true) (hl : ns.length ≤ 600) (hL : L ≤ 600) : smallD (toldD ns L) = true ∧ bnd (toldD ns L) ≤ 20000 ∧ (toldD ns L).depth ≤ 2 := by
  have d1 := depth_ints ns
  refine ⟨?_, ?_, ?_⟩
  · unfold toldD dInts
    simp only [smallD, smallAll, hs, Bool.true_and, Bool.and_true, decide_eq_true_eq]
    omega
  · unfold toldD dInts
    simp only [bnd, bndAll]
    rw [bnd_ints]
    omega
  · unfold toldD
    simp only [PyData.depth, PyData.depthAll]
    omega
theorem fit3 {a b c : PyData} (ha : smallD a = true ∧ bnd a ≤ 20000 ∧ a.depth ≤ 2) (hb : smallD b = true ∧ bnd b ≤ 20000 ∧ b.depth ≤ 2) (hc : smallD c = true ∧ bnd c ≤ 20000 ∧ c.depth ≤ 2) :
    PyData.showable (.list [a, b, c]) = true ∧ PyData.depth (.list [a, b, c]) ≤ 60 ∧ (PyData.shown (.list [a, b, c])).length ≤ sizeLine := by
  have hs : smallD (.list [a, b, c]) = true := by simp only [smallD, smallAll, ha.1, hb.1, hc.1, Bool.and_self]
  refine ⟨small_show hs, ?_, Nat.le_trans (small_len hs) ?_⟩
  · simp only [PyData.depth, PyData.depthAll]
    omega
  · simp only [bnd, bndAll]
    have : sizeLine = 16777216 := by decide
    omega
section
variable {P : Program} {w : World} {K : PySem.W.Frag} {mg : Str → Option Value} {base : Heap} {C CT fT : Addr}
theorem ok_lcommon {f : Addr} {fd : FuncData} (F : Fun K "_law_common" "_law_common" s__law_common f fd) (T : Txt K mg C CT fT) : FnOk P w K mg base CX0 1 f fd ["_law_one", "_law_other"] sp_lcommon := by
  refine F.ok sc__law_common (fun vs H Q E h => ?_) (fun cdv A outer s H vs Q E hr h => ?_)
  · obtain ⟨n, m, rfl, _⟩ := h
    rfl
  · obtain ⟨n, m, rfl, h1, h2, h3, h4, k⟩ := h
    obtain ⟨q, hq⟩ : ∃ q, Nat.lcm n m = n * q := Nat.dvd_lcm_left n m
    have hmul : n * m ≤ 600 * 600 := Nat.mul_le_mul h2 h4
    have hlm : Nat.lcm n m ≤ n * m := Nat.le_of_dvd (Nat.mul_pos h1 h3) (Nat.lcm_dvd (Nat.dvd_mul_right _ _) (Nat.dvd_mul_left _ _))
    have hqp : 1 ≤ q := by
      rcases Nat.eq_zero_or_pos q with z | z
      · subst z
        have := Nat.lcm_pos (m := n) (n := m) h1 h3
        rw [hq] at this
        simp at this
      · exact z
    refine ⟨_, (pss_cons (ps_set (i := 2) sc__law_common.nd rfl (Or.inl rfl) (pv 0)) (pss_cons (ps_while PassesOwn.never (pt_cmpR op_ne (pe_op op_mul (pe_op op_fdivN (pv 2) (pv 1)) (pv 1)) (pv 2) (nomark _)) (pss_one (ps_set (i := 2) sc__law_common.nd rfl (Or.inl rfl) (pe_op op_add (pv 2) (pv 0))))) (pss_one (ps_ret (pv 2))))), ?_⟩
    refine q_asg (ev_var rfl) fun H1 e1 => ?_
    refine q_while (fun mm σ' H' => ∃ t : Nat, mm = q - t ∧ 1 ≤ t ∧ t ≤ q ∧ Ex H H' ∧ σ' = [some (.int (n : Int)), some (.int (m : Int)), some (.int ((n * t : Nat) : Int))]) (q - 1) ⟨1, rfl, Nat.le_refl _, hqp, e1, by rw [Nat.mul_one] <;> rfl⟩ ?_
    rintro mm σ' H' ⟨t, rfl, t1, t2, e2, rfl⟩
    have hx : n * t ≤ Nat.lcm n m := by rw [hq]; exact Nat.mul_le_mul_left _ t2
    refine ⟨_, et_test (ev_op (ev_op (ev_op (ev_var rfl) (ev_var rfl) (rv_I ⟨by omega, by omega⟩)) (ev_var rfl) (rv_I (.inr ⟨by omega, by omega⟩))) (ev_var rfl) (rv_ne rfl)), fun ht H2 e3 => ?_, fun ht H2 e3 => ?_⟩
    · have hne : t ≠ q := fun z => by
        subst z
        rw [← hq] at ht
        obtain ⟨r, hr⟩ := Nat.dvd_lcm_right n m
        rw [hr] at ht
        rw [Int.fdiv_eq_ediv_of_nonneg _ (by omega), Int.natCast_mul, Int.mul_ediv_cancel_left _ (by omega), Int.mul_comm (r : Int)] at ht
        simp at ht
      refine ⟨fun σ2 H3 => Ex H H3 ∧ σ2 = [some (.int (n : Int)), some (.int (m : Int)), some (.int ((n * (t + 1) : Nat) : Int))], fun σ2 H3 z => ⟨q - (t + 1), by omega, t + 1, rfl, by omega, by omega, z.1, z.2⟩, ?_⟩
      exact s_asg (ev_is (ev_op (ev_var rfl) (ev_var rfl) rv_I0) (congrArg V.int (by rw [Nat.mul_add, Nat.mul_one]; omega))) fun H3 e4 => ⟨(e2.trans e3).trans e4, rfl⟩
    · have hd : m ∣ n * t := by
        have := of_decide_eq_true (by simpa using ht : decide (V.int (((n * t : Nat) : Int).fdiv (m : Int) * (m : Int)) = V.int ((n * t : Nat) : Int)) = true)
        injection this with this
        rw [Int.fdiv_eq_ediv_of_nonneg _ (by omega)] at this
        refine ⟨n * t / m, ?_⟩
        have h5 : (((n * t) / m * m : Nat) : Int) = ((n * t : Nat) : Int) := by rw [Int.natCast_mul, Int.natCast_ediv]; exact this
        have h6 : (n * t) / m * m = n * t := by exact_mod_cast h5
        rw [Nat.mul_comm m]
        exact h6.symm
      have h7 := Nat.le_of_dvd (Nat.mul_pos h1 t1) (Nat.lcm_dvd (Nat.dvd_mul_right n t) hd)
      have h8 : n * t = Nat.lcm n m := Nat.le_antisymm hx h7
      rw [h8]
      exact s_ret (ev_var rfl) fun H3 e4 => k H3 ((e2.trans e3).trans e4)
theorem ok_told {f f1 f2 p2 : Addr} {fd fd1 fd2 : FuncData} (F : Fun K "_law_told" "_law_told" s__law_told f fd) (T : Txt K mg C CT fT) (m_days : Met P w K mg base C "days" f1 fd1 ["self"] 1 (sp_days K C)) (m_length : Prp P w K mg base C "length" p2 f2 fd2 ["self"] 1 (sp_length K C)) :
    FnOk P w K mg base CX0 3 f fd ["_law_table"] (sp_told K C) := by
  refine F.ok sc__law_told (fun vs H Q E h => ?_) (fun cdv A outer s H vs Q E hr h => ?_)
  · obtain ⟨B, a, ns, rfl, _⟩ := h
    rfl
  · obtain ⟨B, a, ns, rfl, hb, t, k⟩ := h
    obtain ⟨dx, l, a1, a2⟩ := id t
    refine ⟨_, (pss_one (ps_ret (pe_lst (pa_cons (pe_callB call_isi (by rfl) T.b_isinstance (by decide +kernel) (pa_cons (pv 0) (pa_cons (pe_glob (v := .ref C) rfl T.mg_Table rfl) pa_nil))) (pa_cons (pe_meth0 (pv 0) T.cl m_days.me m_days.ok (hr.mono (by decide)) m_days.bd .nil pass0) (pa_cons (pe_prop (pv 0) T.cl m_length.pr m_length.ok (hr.mono (by decide)) m_length.bd .nil pass0 (by rfl)) pa_nil)))))), ?_⟩
    exact s_retN (evn_lst (evan_cons (evn_bl (ev_cb (ea_cons (ev_var rfl) (ea_cons ev_c ea_nil)) (rc_isi (.own C) (fun H1 e => .base (T.tyC H1 a dx _ (e a _ a1))) (by unfold PySem.W.kitOne; rw [if_pos (by simp)])))) (evan_cons (evn_ints (el_meth (ev_var rfl) a1 rfl ea_nil (spl_days t))) (evan_cons (evn_int (ev_prop (ev_var rfl) a1 (spv_length t))) evan_nil))) (by show 3 ≤ 100000; decide)) k
end
end K13
end
section
set_option maxHeartbeats 4000000
namespace K13
open PySem L2 Evl G TM
theorem given_listG {n L : Nat} {f : Int → Int} {v : Nat → V} (hn : n = L) (h : ∀ i, i < L → v i = V.int (f (i : Int))) : given n (fun _ => true) v = (listF L f).map V.int := by
  subst hn
  rw [given_all, listF_map]
  exact List.map_congr_left fun i hi => h i (List.mem_range.mp hi)
theorem TabN.off {C p l : Addr} {H H2 : Hp} {ns : List Int} {o o' : HO} (t : TabN C H H2 p ns) (hp : H p = none) (hl : H l = some o) : TabN C H (upd H2 l o') p ns := by
  obtain ⟨dx, q, h, h1, h2⟩ := t
  exact ⟨dx, q, h, by rw [upd_ne (ne_of_none hl hp).symm]; exact h1, by rw [upd_ne (ne_of_none hl h).symm]; exact h2⟩
section
variable {K : PySem.W.Frag} {σ : L2.St} {H : Hp} {a b C CT p r x1 x2 x3 : Addr} {i j L : Nat} {tA : TA} {te tl ta tb : TE} {Q : VK} {E : XK} {D : Ends} {tz : TS} {ns ms n1 n2 n3 : List Int} {js : List Nat} {l : Addr} {xs : List V} {M : Hp → Addr → Prop}
theorem asgG_k {g : TG} (h : te σ H fun v H1 => g v σ H1 fun σ' H' => tz D σ' H') : tSeq (tAsg te g) tz D σ H := h
theorem q_appM (hl : H l = some (.lst xs)) (ha : Ev ta σ H (.ref l)) (h : EvM te σ H M) (hz : xs.length < 100000) (k : ∀ p H1, H p = none → Ex H H1 → M H1 p → tz D σ (upd H1 l (.lst (xs ++ [.ref p])))) : tSeq (tDrop (tBM K "list" rAppend ta (tCons te tNil))) tz D σ H := ha H (Ex.refl H) _ fun H1 e1 =>
  ⟨Or.inl ⟨rfl, xs, sq_of (e1 l _ hl)⟩, h H1 e1 _ fun p H2 hp e2 hm => ⟨l, xs, .ref p, rfl, rfl, e2 l _ (e1 l _ hl), sz_lt hz, k p H2 (fresh_back e1 hp) (e1.trans e2) hm⟩⟩
theorem evd_told3 (h : Ev tl σ H (.ref r)) (hr : H r = some (.lst [.ref x1, .ref x2, .ref x3])) (t1 : Tab K C H x1 n1) (t2 : Tab K C H x2 n2) (t3 : Tab K C H x3 n3) (h1 : n1.length = L) (h2 : n2.length = L) (h3 : n3.length = L)
    (hw : ∀ x, wipe ((wipe σ js).set j (some x)) js = wipe σ js) (hj : ∀ x, ((wipe σ js).set j (some x))[j]? = some (some x)) : EvD K (tLc (iList K tl) (gName j) tYes (tCall (sp_told K C) [] E (tCons (tVar j) tNil)) js) σ H (.list [toldD n1 L, toldD n2 L, toldD n3 L]) := by
  refine EvN.evd (B := H) (evn_lcL (Ex.refl _) h (sq_of hr) (by show 3 ≤ 40000; decide) hw rfl fun i x d hx hd => ?_)
  match i, hx, hd with
  | 0, hx, hd => cases hx; cases hd; exact evn_call (ea_cons (ev_var (hj _)) ea_nil) (spn_told (Ex.refl _) t1 h1)
  | 1, hx, hd => cases hx; cases hd; exact evn_call (ea_cons (ev_var (hj _)) ea_nil) (spn_told (Ex.refl _) t2 h2)
  | 2, hx, hd => cases hx; cases hd; exact evn_call (ea_cons (ev_var (hj _)) ea_nil) (spn_told (Ex.refl _) t3 h3)
  | i + 3, hx, _ => simp at hx
theorem evd_due3 (h : Ev tl σ H (.ref r)) (hr : H r = some (.lst [.ref x1, .ref x2, .ref x3])) (t1 : H x1 = some (.lst (n1.map V.int))) (t2 : H x2 = some (.lst (n2.map V.int))) (t3 : H x3 = some (.lst (n3.map V.int)))
    (hw : ∀ x, wipe ((wipe σ js).set j (some x)) js = wipe σ js) (hj : ∀ x, ((wipe σ js).set j (some x))[j]? = some (some x)) (hi : ∀ x, ((wipe σ js).set j (some x))[i]? = some (some (.int (L : Int)))) :
    EvD K (tLc (iList K tl) (gName j) tYes (tLst (tCons (tC (.bl true)) (tCons (tVar j) (tCons (tVar i) tNil)))) js) σ H (.list [toldD n1 L, toldD n2 L, toldD n3 L]) := by
  have one : ∀ (y : Addr) (n : List Int), H y = some (.lst (n.map V.int)) → EvN K H (tLst (tCons (tC (.bl true)) (tCons (tVar j) (tCons (tVar i) tNil)))) ((wipe σ js).set j (some (.ref y))) H (toldD n L) := fun y n hy =>
    evn_lst (evan_cons (evn_bl ev_c) (evan_cons (evn_ref (Ex.refl _) (ev_var (hj _)) (dp_ints (sq_of hy))) (evan_cons (evn_int (ev_var (hi _))) evan_nil))) (by show 3 ≤ 100000; decide)
  refine EvN.evd (B := H) (evn_lcL (Ex.refl _) h (sq_of hr) (by show 3 ≤ 40000; decide) hw rfl fun i x d hx hd => ?_)
  match i, hx, hd with
  | 0, hx, hd => cases hx; cases hd; exact one _ _ t1
  | 1, hx, hd => cases hx; cases hd; exact one _ _ t2
  | 2, hx, hd => cases hx; cases hd; exact one _ _ t3
  | i + 3, hx, _ => simp at hx
end
section
variable {P : Program} {w : World} {K : PySem.W.Frag} {mg : Str → Option Value} {base : Heap} {C CT fT : Addr}
theorem ok_joinedR {f f1 f2 f3 f4 f5 f6 : Addr} {fd fd1 fd2 fd3 fd4 fd5 fd6 : FuncData} (F : Fun K "_law_joined_right" "_law_joined_right" s__law_joined_right f fd) (T : Txt K mg C CT fT)
    (c__law_common : Cal P w K mg base "_law_common" f1 fd1 ["_law_one", "_law_other"] 1 sp_lcommon) (c__law_on : Cal P w K mg base "_law_on" f2 fd2 ["_law_days_here", "_law_day"] 1 (sp_lon K)) (c__law_told : Cal P w K mg base "_law_told" f3 fd3 ["_law_table"] 3 (sp_told K C))
    (c_behind : CalX P w K mg base "behind" f4 fd4 ["table", "other_table"] 6 (sp_joined K C CT mBe)) (c_later : CalX P w K mg base "later" f5 fd5 ["table", "other_table"] 6 (sp_joined K C CT mLa)) (c_sooner : CalX P w K mg base "sooner" f6 fd6 ["table", "other_table"] 6 (sp_joined K C CT mSo))
    (kb_behind_other_table_table : KBn K fd4 ["table", "other_table"] 0 ["other_table", "table"] (fun us ws => us ++ ws.reverse) (fun vs zs => vs ++ zs.reverse)) (kb_later_other_table_table : KBn K fd5 ["table", "other_table"] 0 ["other_table", "table"] (fun us ws => us ++ ws.reverse) (fun vs zs => vs ++ zs.reverse)) (kb_sooner_other_table_table : KBn K fd6 ["table", "other_table"] 0 ["other_table", "table"] (fun us ws => us ++ ws.reverse) (fun vs zs => vs ++ zs.reverse)) :
    FnG P w K mg base CX0 7 f fd ["_law_table", "_law_days_here", "_law_other_table", "_law_others"] (sp_pair K C) := by
  refine okG F sc__law_joined_right (fun vs H Q E h => ?_) (fun cdv A outer s H vs Q E hg hr h => ?_)
  · obtain ⟨a, l, b, m, ns, ms, rfl, _⟩ := h
    rfl
  · obtain ⟨a, l, b, m, ns, ms, rfl, pr, k⟩ := h
    have hu := hr.units
    have g1 := pr.ga
    have g2 := pr.gb
    have n1 := g1.pos
    have n2 := g1.most
    have m1 := g2.pos
    have m2 := g2.most
    have hle := pr.le
    have hL0 : ∀ f, (listF (lcm2 ns ms) f).length = lcm2 ns ms := fun f => listF_len _ f
    have hLm : ∀ f, ((listF (lcm2 ns ms) f).map V.int).length = lcm2 ns ms := fun f => by rw [List.length_map, listF_len]
    have o1 : ∀ i : Nat, i < lcm2 ns ms → -2000000000000 ≤ onL ns (i : Int) ∧ onL ns (i : Int) ≤ 2000000000000 := fun i hi => by have := on_bd g1 pr.bda (i : Int); omega
    have o2 : ∀ i : Nat, i < lcm2 ns ms → -2000000000000 ≤ onL ms (i : Int) ∧ onL ms (i : Int) ≤ 2000000000000 := fun i hi => by have := on_bd g2 pr.bdb (i : Int); omega
    obtain ⟨w1, w2, w3⟩ := fit3 (told_fit (ns := listF (lcm2 ns ms) (mBe ns ms)) (bd_listF fun i hi => by have := o2 i hi; have := on_bd g1 pr.bda (onL ms (i : Int)); show -9000000000000 ≤ onL ns (onL ms (i : Int)) ∧ onL ns (onL ms (i : Int)) ≤ 9000000000000; omega) (by rw [hL0]; exact hle) hle)
      (told_fit (ns := listF (lcm2 ns ms) (mLa ns ms)) (bd_listF fun i hi => by have := o1 i hi; have := o2 i hi; show -9000000000000 ≤ (if onL ms (i : Int) > onL ns (i : Int) then onL ms (i : Int) else onL ns (i : Int)) ∧ (if onL ms (i : Int) > onL ns (i : Int) then onL ms (i : Int) else onL ns (i : Int)) ≤ 9000000000000; split <;> omega) (by rw [hL0]; exact hle) hle)
      (told_fit (ns := listF (lcm2 ns ms) (mSo ns ms)) (bd_listF fun i hi => by have := o1 i hi; have := o2 i hi; show -9000000000000 ≤ (if onL ms (i : Int) < onL ns (i : Int) then onL ms (i : Int) else onL ns (i : Int)) ∧ (if onL ms (i : Int) < onL ns (i : Int) then onL ms (i : Int) else onL ns (i : Int)) ≤ 9000000000000; split <;> omega) (by rw [hL0]; exact hle) hle)
    refine ⟨_, (pss_cons (ps_set (i := 4) sc__law_joined_right.nd rfl (Or.inr rfl) (pe_call c__law_common.ok (hr.mono (by decide)) (by rfl) c__law_common.mgx c__law_common.kp c__law_common.bd .nil pass0 (pa_cons (pe_callB (lenS (K := K) rfl) (by rfl) T.b_len (by decide +kernel) (pa_cons (pv 1) pa_nil)) (pa_cons (pe_callB (lenS (K := K) rfl) (by rfl) T.b_len (by decide +kernel) (pa_cons (pv 3) pa_nil)) pa_nil)))) (pss_cons (ps_asg (pe_tup (pa_cons (pe_lc (own := [("_law_day", 10)]) (g := (gName 10)) (by rfl) sc__law_joined_right.nd (pi_range1 (by rfl) T.b_range (pa_cons (pv 4) pa_nil)) (blkOk_by (own := [("_law_day", 10)]) (N := ["_law_table", "_law_days_here", "_law_other_table", "_law_others", "_law_length", "_law_some", "_law_more", "_law_due", "_law_told_here", "_law_again", "_law_day", "_law_one"]) (sc := defScope s__law_joined_right) (by decide +kernel)) (fun _ _ _ _ _ => (pg_name (i := 10) sc__law_joined_right.nd rfl (Or.inl rfl))) (fun _ _ _ _ _ => pts_nil) (fun _ _ _ _ _ => (pe_call c__law_on.ok (hr.mono (by decide)) (by rfl) c__law_on.mgx c__law_on.kp c__law_on.bd .nil pass0 (pa_cons (pv 1) (pa_cons (pv 10) pa_nil))))) (pa_cons (pe_lc (own := [("_law_day", 10)]) (g := (gName 10)) (by rfl) sc__law_joined_right.nd (pi_range1 (by rfl) T.b_range (pa_cons (pv 4) pa_nil)) (blkOk_by (own := [("_law_day", 10)]) (N := ["_law_table", "_law_days_here", "_law_other_table", "_law_others", "_law_length", "_law_some", "_law_more", "_law_due", "_law_told_here", "_law_again", "_law_day", "_law_one"]) (sc := defScope s__law_joined_right) (by decide +kernel)) (fun _ _ _ _ _ => (pg_name (i := 10) sc__law_joined_right.nd rfl (Or.inl rfl))) (fun _ _ _ _ _ => pts_nil) (fun _ _ _ _ _ => (pe_call c__law_on.ok (hr.mono (by decide)) (by rfl) c__law_on.mgx c__law_on.kp c__law_on.bd .nil pass0 (pa_cons (pv 3) (pa_cons (pv 10) pa_nil))))) pa_nil))) (pg_tup (by rfl) (pgs_cons (pg_name (i := 5) sc__law_joined_right.nd rfl (Or.inr rfl)) (pgs_cons (pg_name (i := 6) sc__law_joined_right.nd rfl (Or.inr rfl)) pgs_nil)))) (pss_cons (ps_set (i := 7) sc__law_joined_right.nd rfl (Or.inl rfl) (pe_lst (pa_cons (pe_lc (own := [("_law_day", 10)]) (g := (gName 10)) (by rfl) sc__law_joined_right.nd (piL (K := K) rfl (pv 6)) (blkOk_by (own := [("_law_day", 10)]) (N := ["_law_table", "_law_days_here", "_law_other_table", "_law_others", "_law_length", "_law_some", "_law_more", "_law_due", "_law_told_here", "_law_again", "_law_day", "_law_one"]) (sc := defScope s__law_joined_right) (by decide +kernel)) (fun _ _ _ _ _ => (pg_name (i := 10) sc__law_joined_right.nd rfl (Or.inl rfl))) (fun _ _ _ _ _ => pts_nil) (fun _ _ _ _ _ => (pe_call c__law_on.ok (hr.mono (by decide)) (by rfl) c__law_on.mgx c__law_on.kp c__law_on.bd .nil pass0 (pa_cons (pv 1) (pa_cons (pv 10) pa_nil))))) (pa_cons (pe_lc (own := [("_law_day", 10)]) (g := (gName 10)) (by rfl) sc__law_joined_right.nd (pi_range1 (by rfl) T.b_range (pa_cons (pv 4) pa_nil)) (blkOk_by (own := [("_law_day", 10)]) (N := ["_law_table", "_law_days_here", "_law_other_table", "_law_others", "_law_length", "_law_some", "_law_more", "_law_due", "_law_told_here", "_law_again", "_law_day", "_law_one"]) (sc := defScope s__law_joined_right) (by decide +kernel)) (fun _ _ _ _ _ => (pg_name (i := 10) sc__law_joined_right.nd rfl (Or.inl rfl))) (fun _ _ _ _ _ => pts_nil) (fun _ _ _ _ _ => (pe_callB (call_max2 rfl) (by rfl) T.b_max (by decide +kernel) (pa_cons (pe_ix (ixL (K := K) rfl) (pv 5) (pv 10) (fun _ _ => rfl)) (pa_cons (pe_ix (ixL (K := K) rfl) (pv 6) (pv 10) (fun _ _ => rfl)) pa_nil))))) pa_nil)))) (pss_cons (ps_expr (pe_bm PySem.F.plainAttrs_list PySem.F.slot_list_append PySem.F.type_list_append mt_append (pv 7) (pa_cons (pe_lc (own := [("_law_day", 10)]) (g := (gName 10)) (by rfl) sc__law_joined_right.nd (pi_range1 (by rfl) T.b_range (pa_cons (pv 4) pa_nil)) (blkOk_by (own := [("_law_day", 10)]) (N := ["_law_table", "_law_days_here", "_law_other_table", "_law_others", "_law_length", "_law_some", "_law_more", "_law_due", "_law_told_here", "_law_again", "_law_day", "_law_one"]) (sc := defScope s__law_joined_right) (by decide +kernel)) (fun _ _ _ _ _ => (pg_name (i := 10) sc__law_joined_right.nd rfl (Or.inl rfl))) (fun _ _ _ _ _ => pts_nil) (fun _ _ _ _ _ => (pe_callB (call_min2 rfl) (by rfl) T.b_min (by decide +kernel) (pa_cons (pe_ix (ixL (K := K) rfl) (pv 5) (pv 10) (fun _ _ => rfl)) (pa_cons (pe_ix (ixL (K := K) rfl) (pv 6) (pv 10) (fun _ _ => rfl)) pa_nil))))) pa_nil))) (pss_cons (ps_set (i := 8) sc__law_joined_right.nd rfl (Or.inl rfl) (pe_lst (pa_cons (pe_call c_behind.ok (hr.mono (by decide)) (by rfl) c_behind.mgx c_behind.kp c_behind.bd .nil passL (pa_cons (pv 0) (pa_cons (pv 2) pa_nil))) (pa_cons (pe_call c_later.ok (hr.mono (by decide)) (by rfl) c_later.mgx c_later.kp c_later.bd .nil passL (pa_cons (pv 0) (pa_cons (pv 2) pa_nil))) (pa_cons (pe_call c_sooner.ok (hr.mono (by decide)) (by rfl) c_sooner.mgx c_sooner.kp c_sooner.bd .nil passL (pa_cons (pv 0) (pa_cons (pv 2) pa_nil))) pa_nil))))) (pss_cons (ps_if (pt_cmpR op_ne (pe_callB (call_reprD hg hu) (by rfl) T.b_repr (by decide +kernel) (pa_cons (pe_lc (own := [("_law_one", 11)]) (g := (gName 11)) (by rfl) sc__law_joined_right.nd (piL (K := K) rfl (pv 8)) (blkOk_by (own := [("_law_one", 11)]) (N := ["_law_table", "_law_days_here", "_law_other_table", "_law_others", "_law_length", "_law_some", "_law_more", "_law_due", "_law_told_here", "_law_again", "_law_day", "_law_one"]) (sc := defScope s__law_joined_right) (by decide +kernel)) (fun _ _ _ _ _ => (pg_name (i := 11) sc__law_joined_right.nd rfl (Or.inl rfl))) (fun _ _ _ _ _ => pts_nil) (fun _ _ _ _ _ => (pe_call c__law_told.ok (hr.mono (by decide)) (by rfl) c__law_told.mgx c__law_told.kp c__law_told.bd .nil pass0 (pa_cons (pv 11) pa_nil)))) pa_nil)) (pe_callB (call_reprD hg hu) (by rfl) T.b_repr (by decide +kernel) (pa_cons (pe_lc (own := [("_law_one", 11)]) (g := (gName 11)) (by rfl) sc__law_joined_right.nd (piL (K := K) rfl (pv 7)) (blkOk_by (own := [("_law_one", 11)]) (N := ["_law_table", "_law_days_here", "_law_other_table", "_law_others", "_law_length", "_law_some", "_law_more", "_law_due", "_law_told_here", "_law_again", "_law_day", "_law_one"]) (sc := defScope s__law_joined_right) (by decide +kernel)) (fun _ _ _ _ _ => (pg_name (i := 11) sc__law_joined_right.nd rfl (Or.inl rfl))) (fun _ _ _ _ _ => pts_nil) (fun _ _ _ _ _ => (pe_lst (pa_cons pe_bl (pa_cons (pv 11) (pa_cons (pv 4) pa_nil)))))) pa_nil)) (nomark _)) (pss_one (ps_ret pe_bl)) pss_nil) (pss_cons (ps_set (i := 9) sc__law_joined_right.nd rfl (Or.inl rfl) (pe_lst (pa_cons (pe_callN0 c_behind.ok (hr.mono (by decide)) (by rfl) c_behind.mgx c_behind.kp kb_behind_other_table_table passL (pk_cons (pv 2) (pk_cons (pv 0) pk_nil))) (pa_cons (pe_callN0 c_later.ok (hr.mono (by decide)) (by rfl) c_later.mgx c_later.kp kb_later_other_table_table passL (pk_cons (pv 2) (pk_cons (pv 0) pk_nil))) pa_nil)))) (pss_cons (ps_expr (pe_bm PySem.F.plainAttrs_list PySem.F.slot_list_append PySem.F.type_list_append mt_append (pv 9) (pa_cons (pe_callN0 c_sooner.ok (hr.mono (by decide)) (by rfl) c_sooner.mgx c_sooner.kp kb_sooner_other_table_table passL (pk_cons (pv 2) (pk_cons (pv 0) pk_nil))) pa_nil))) (pss_one (ps_ret (pe_cmpR op_eq (pe_callB (call_reprD hg hu) (by rfl) T.b_repr (by decide +kernel) (pa_cons (pe_lc (own := [("_law_one", 11)]) (g := (gName 11)) (by rfl) sc__law_joined_right.nd (piL (K := K) rfl (pv 9)) (blkOk_by (own := [("_law_one", 11)]) (N := ["_law_table", "_law_days_here", "_law_other_table", "_law_others", "_law_length", "_law_some", "_law_more", "_law_due", "_law_told_here", "_law_again", "_law_day", "_law_one"]) (sc := defScope s__law_joined_right) (by decide +kernel)) (fun _ _ _ _ _ => (pg_name (i := 11) sc__law_joined_right.nd rfl (Or.inl rfl))) (fun _ _ _ _ _ => pts_nil) (fun _ _ _ _ _ => (pe_call c__law_told.ok (hr.mono (by decide)) (by rfl) c__law_told.mgx c__law_told.kp c__law_told.bd .nil pass0 (pa_cons (pv 11) pa_nil)))) pa_nil)) (pe_callB (call_reprD hg hu) (by rfl) T.b_repr (by decide +kernel) (pa_cons (pe_lc (own := [("_law_one", 11)]) (g := (gName 11)) (by rfl) sc__law_joined_right.nd (piL (K := K) rfl (pv 7)) (blkOk_by (own := [("_law_one", 11)]) (N := ["_law_table", "_law_days_here", "_law_other_table", "_law_others", "_law_length", "_law_some", "_law_more", "_law_due", "_law_told_here", "_law_again", "_law_day", "_law_one"]) (sc := defScope s__law_joined_right) (by decide +kernel)) (fun _ _ _ _ _ => (pg_name (i := 11) sc__law_joined_right.nd rfl (Or.inl rfl))) (fun _ _ _ _ _ => pts_nil) (fun _ _ _ _ _ => (pe_lst (pa_cons pe_bl (pa_cons (pv 11) (pa_cons (pv 4) pa_nil)))))) pa_nil)) (nomark _)))))))))))), ?_⟩
    refine q_asg (v := .int (lcm2 ns ms : Int)) (ev_call (ea_cons (ev_cb (ea_cons (ev_var rfl) ea_nil) (rc_len (.inl (sq_of pr.la)) (List.length_map ..))) (ea_cons (ev_cb (ea_cons (ev_var rfl) ea_nil) (rc_len (.inl (sq_of pr.lb)) (List.length_map ..))) ea_nil)) (spv_lcommon n1 n2 m1 m2)) fun H1 e1 => ?_
    have p1 := pr.mono e1
    refine asgG_k (tup_k (ac_l (xs := (listF (lcm2 ns ms) (onL ns)).map V.int) (el_is (el_lcR1 (fun _ => true) (fun i => V.int (onL ns (i : Int))) (ea_cons (ev_var rfl) ea_nil) (by omega) (fun _ => rfl) (fun _ _ _ _ => lc_yes) (fun i H2 e2 _ _ => ev_call (ea_cons (ev_var rfl) (ea_cons (ev_var rfl) ea_nil)) (spv_lon (sq_of (e2 l _ p1.la)) g1))) (given_listF fun _ _ => rfl)) fun x1 H2 hx1 e2 hl1 =>
      ac_l (xs := (listF (lcm2 ns ms) (onL ms)).map V.int) (el_is (el_lcR1 (fun _ => true) (fun i => V.int (onL ms (i : Int))) (ea_cons (ev_var rfl) ea_nil) (by omega) (fun _ => rfl) (fun _ _ _ _ => lc_yes) (fun i H3 e3 _ _ => ev_call (ea_cons (ev_var rfl) (ea_cons (ev_var rfl) ea_nil)) (spv_lon (sq_of ((e2.trans e3) m _ p1.lb)) g2))) (given_listF fun _ _ => rfl)) fun x2 H3 hx2 e3 hl2 => ac_nil ⟨by show 2 ≤ sizeLine; decide, fun tp htp => ⟨tp, _, rfl, st_of upd_same, rfl, _, _, rfl, _, _, rfl, rfl, ?_⟩⟩))
    have etp := Ex.new (o := .tup [.ref x1, .ref x2]) htp
    have hl2 := etp x2 _ hl2
    have e3 := e3.trans etp
    have p3 := p1.mono (e2.trans e3)
    have hl1 := e3 x1 _ hl1
    generalize upd H3 tp (.tup [.ref x1, .ref x2]) = H3 at hl2 e3 p3 hl1 ⊢
    clear etp htp
    clear p1
    refine asg_k (lst_k (ac_l (xs := (listF (lcm2 ns ms) (mBe ns ms)).map V.int) (el_is (el_lcL (fun _ => true) (fun i => V.int (onL ns ((listF (lcm2 ns ms) (onL ms)).getD i 0))) (ev_var rfl) (sq_of hl2) (by rw [hLm]; omega) (fun _ => rfl) (fun _ _ _ _ _ => lc_yes) (fun i x H4 e4 hx _ => ?_)) (given_listG (hLm _) fun i hi => by rw [listF_at hi])) fun q1 H4 hq1 e4 hb1 =>
      ac_l (xs := (listF (lcm2 ns ms) (mLa ns ms)).map V.int) (el_is (el_lcR1 (fun _ => true) (fun i => V.int (if (listF (lcm2 ns ms) (onL ms)).getD i 0 > (listF (lcm2 ns ms) (onL ns)).getD i 0 then (listF (lcm2 ns ms) (onL ms)).getD i 0 else (listF (lcm2 ns ms) (onL ns)).getD i 0)) (ea_cons (ev_var rfl) ea_nil) (by omega) (fun _ => rfl) (fun _ _ _ _ => lc_yes) (fun i H5 e5 hi _ => ev_cb (ea_cons (ev_op (ev_var rfl) (ev_var rfl) (rv_ixL (sq_of ((e4.trans e5) x1 _ hl1)) (atI_nat (getI (by rw [hL0]; omega))))) (ea_cons (ev_op (ev_var rfl) (ev_var rfl) (rv_ixL (sq_of ((e4.trans e5) x2 _ hl2)) (atI_nat (getI (by rw [hL0]; omega))))) ea_nil)) rc_max2)) (given_listF fun i hi => by rw [listF_at hi, listF_at hi])) fun q2 H5 hq2 e5 hb2 => ac_nil ⟨by show 2 ≤ sizeLine; decide, fun p hp => ?_⟩))
    · have hi : i < (listF (lcm2 ns ms) (onL ms)).length := by have := (List.getElem?_eq_some_iff.mp hx).1; rw [List.length_map] at this; exact this
      have e6 : x = .int ((listF (lcm2 ns ms) (onL ms)).getD i 0) := by have := getI hi; rw [hx] at this; exact Option.some.inj this
      subst e6
      exact ev_call (ea_cons (ev_var rfl) (ea_cons (ev_var rfl) ea_nil)) (spv_lon (sq_of (e4 l _ p3.la)) g1)
    have e35 := e4.trans e5
    have e6 : Ex H5 (upd H5 p (.lst [.ref q1, .ref q2])) := Ex.new hp
    refine q_appL (l := p) (xs := [.ref q1, .ref q2]) (ys := (listF (lcm2 ns ms) (mSo ns ms)).map V.int) upd_same (ev_var rfl) (el_is (el_lcR1 (fun _ => true) (fun i => V.int (if (listF (lcm2 ns ms) (onL ms)).getD i 0 < (listF (lcm2 ns ms) (onL ns)).getD i 0 then (listF (lcm2 ns ms) (onL ms)).getD i 0 else (listF (lcm2 ns ms) (onL ns)).getD i 0)) (ea_cons (ev_var rfl) ea_nil) (by omega) (fun _ => rfl) (fun _ _ _ _ => lc_yes)
      (fun i H7 e7 hi _ => ev_cb (ea_cons (ev_op (ev_var rfl) (ev_var rfl) (rv_ixL (sq_of (((e35.trans e6).trans e7) x1 _ hl1)) (atI_nat (getI (by rw [hL0]; omega))))) (ea_cons (ev_op (ev_var rfl) (ev_var rfl) (rv_ixL (sq_of (((e35.trans e6).trans e7) x2 _ hl2)) (atI_nat (getI (by rw [hL0]; omega))))) ea_nil)) rc_min2)) (given_listF fun i hi => by rw [listF_at hi, listF_at hi])) (by show 2 < 100000; decide) fun q3 H7 hq3 e7 hb3 => ?_
    have hq3p : q3 ≠ p := (ne_of_none upd_same hq3).symm
    have e58 : Ex H5 (upd H7 p (.lst ([.ref q1, .ref q2] ++ [.ref q3]))) := Ex.mut (e6.trans e7) hp
    have hp8 : (upd H7 p (.lst ([.ref q1, .ref q2] ++ [.ref q3]))) p = some (.lst [.ref q1, .ref q2, .ref q3]) := upd_same
    have hb38 : (upd H7 p (.lst ([.ref q1, .ref q2] ++ [.ref q3]))) q3 = some (.lst ((listF (lcm2 ns ms) (mSo ns ms)).map V.int)) := by rw [upd_ne hq3p]; exact hb3
    generalize upd H7 p (.lst ([.ref q1, .ref q2] ++ [.ref q3])) = H8 at e58 hp8 hb38 ⊢
    have p8 := p3.mono (e35.trans e58)
    have hb18 := (e5.trans e58) q1 _ hb1
    have hb28 := e58 q2 _ hb2
    have e18 : Ex H H8 := ((e1.trans (e2.trans e3)).trans e35).trans e58
    clear p3 hl1 hl2 hb1 hb2 hb3 e35 e6 e7 e58 hq3 hq3p hp hx1 hx2 hq1 hq2 e1 e2 e3 e4 e5
    refine asg_k (lst_k (ac_m (evm_call (ea_cons (ev_var rfl) (ea_cons (ev_var rfl) ea_nil)) (spm_joined p8.ta p8.tb g1 g2 hle)) fun y1 H9 hy1 e9 t1 => ac_m (evm_call (ea_cons (ev_var rfl) (ea_cons (ev_var rfl) ea_nil)) (spm_joined (p8.mono e9).ta (p8.mono e9).tb g1 g2 hle)) fun y2 H10 hy2 e10 t2 =>
      ac_m (evm_call (ea_cons (ev_var rfl) (ea_cons (ev_var rfl) ea_nil)) (spm_joined (p8.mono (e9.trans e10)).ta (p8.mono (e9.trans e10)).tb g1 g2 hle)) fun y3 H11 hy3 e11 t3 => ac_nil ⟨by show 3 ≤ sizeLine; decide, fun r hr' => ?_⟩))
    have e12 := Ex.new (o := .lst [.ref y1, .ref y2, .ref y3]) hr'
    have e812 := ((e9.trans e10).trans e11).trans e12
    refine q_when (b := false) (et_is (et_test (ev_op (ev_repr (evd_told3 (ev_var rfl) upd_same ((t1.mono ((e10.trans e11).trans e12)).tab) ((t2.mono (e11.trans e12)).tab) ((t3.mono e12).tab) (hL0 _) (hL0 _) (hL0 _) (fun _ => rfl) (fun _ => rfl)) w1 w2 w3) (ev_repr (evd_due3 (ev_var rfl) (e812 _ _ hp8) (e812 _ _ hb18) (e812 _ _ hb28) (e812 _ _ hb38) (fun _ => rfl) (fun _ => rfl) (fun _ => rfl)) w1 w2 w3) (rv_ne rfl))) (congrArg not (decide_eq_true (show _ = _ from rfl)))) (fun q => nomatch q) fun _ H13 e13 => ?_
    have p13 := p8.mono (e812.trans e13)
    have e813 := e812.trans e13
    refine asg_k (lst_k (ac_m (evm_callN0 (ea_cons (ev_var rfl) (ea_cons (ev_var rfl) ea_nil)) rfl (spm_joined p13.ta p13.tb g1 g2 hle)) fun z1 H14 hz1 e14 u1 => ac_m (evm_callN0 (ea_cons (ev_var rfl) (ea_cons (ev_var rfl) ea_nil)) rfl (spm_joined (p13.mono e14).ta (p13.mono e14).tb g1 g2 hle)) fun z2 H15 hz2 e15 u2 => ac_nil ⟨by show 2 ≤ sizeLine; decide, fun s' hs' => ?_⟩))
    have e16 := Ex.new (o := .lst [.ref z1, .ref z2]) hs'
    have e1316 := (e14.trans e15).trans e16
    refine q_appM (xs := [.ref z1, .ref z2]) upd_same (ev_var rfl) (evm_callN0 (ea_cons (ev_var rfl) (ea_cons (ev_var rfl) ea_nil)) rfl (spm_joined (p13.mono e1316).ta (p13.mono e1316).tb g1 g2 hle)) (by show 2 < 100000; decide) fun z3 H17 hz3 e17 u3 => ?_
    have u3' := u3.off (o' := .lst ([.ref z1, .ref z2] ++ [.ref z3])) hz3 upd_same
    have eB : Ex H15 (upd H17 s' (.lst ([.ref z1, .ref z2] ++ [.ref z3]))) := Ex.mut (e16.trans e17) hs'
    have e818 := (e813.trans (e14.trans e15)).trans eB
    exact s_ret (ev_is (ev_op (ev_repr (evd_told3 (ev_var rfl) upd_same ((u1.mono (e15.trans eB)).tab) ((u2.mono eB).tab) u3'.tab (hL0 _) (hL0 _) (hL0 _) (fun _ => rfl) (fun _ => rfl)) w1 w2 w3) (ev_repr (evd_due3 (ev_var rfl) (e818 _ _ hp8) (e818 _ _ hb18) (e818 _ _ hb28) (e818 _ _ hb38) (fun _ => rfl) (fun _ => rfl) (fun _ => rfl)) w1 w2 w3) (rv_eq rfl)) (congrArg V.bl (decide_eq_true (show _ = _ from rfl)))) fun H19 e19 => k H19 ((e18.trans e818).trans e19)
end
end K13
end
section
set_option maxHeartbeats 4000000
namespace K13
open PySem L2 Evl G TM
def dayL (L : Nat) (p : Nat → Bool) : List Int := ((List.range L).filter p).map fun (i : Nat) => (i : Int)
theorem given_day {L : Nat} {p q : Nat → Bool} (h : ∀ i, i < L → q i = p i) : given ((L : Int).toNat) q (fun i => V.int (i : Int)) = (dayL L p).map V.int := by
  rw [Int.toNat_natCast]
  unfold given dayL
  rw [List.map_map, List.filter_congr fun i hi => h i (List.mem_range.mp hi)]
  rfl
theorem firstN_lt {L n : Nat} {p : Nat → Bool} (h : firstN L p = some n) : n < L := by
  unfold firstN at h
  have := List.mem_of_mem_head? (by rw [h]; rfl)
  exact List.mem_range.mp (List.mem_filter.mp this).1
theorem fit_opt {L : Nat} {p : Nat → Bool} (h : L ≤ 600) : smallD (optD (firstN L p)) = true ∧ bnd (optD (firstN L p)) ≤ 20000 ∧ (optD (firstN L p)).depth ≤ 2 := by
  cases e : firstN L p with
  | none => exact ⟨rfl, by simp [optD, bnd], by simp [optD, PyData.depth]⟩
  | some n =>
    have := firstN_lt e
    refine ⟨?_, by simp [optD, bnd], by simp [optD, PyData.depth]⟩
    simp only [optD, smallD, decide_eq_true_eq]
    omega
theorem parting_iff {ns ms : List Int} (g : Good ns) (g2 : Good ms) : decide (optV (firstN (lcm2 ns ms) (mPa ns ms)) = V.non) = true ↔ ∀ x, onL ns x = onL ms x := by
  have hpos : 1 ≤ lcm2 ns ms := Nat.lcm_pos g.pos g2.pos
  constructor
  · intro h
    have h1 := of_decide_eq_true h
    have h2 : ∀ i, i < lcm2 ns ms → onL ns (i : Int) = onL ms (i : Int) := by
      cases e : firstN (lcm2 ns ms) (mPa ns ms) with
      | some n => rw [e] at h1; cases h1
      | none =>
        intro i hi
        unfold firstN at e
        rw [List.head?_eq_none_iff, List.filter_eq_nil_iff] at e
        have := e i (List.mem_range.mpr hi)
        have h3 := of_decide_eq_true (by simpa [mPa] using this : decide (onL ns (i : Int) = onL ms (i : Int)) = true)
        exact h3
    intro x
    have a1 := Int.emod_nonneg x (show ((lcm2 ns ms : Nat) : Int) ≠ 0 by omega)
    have a2 := Int.emod_lt_of_pos x (show (0 : Int) < ((lcm2 ns ms : Nat) : Int) by omega)
    have a3 := Int.emod_add_mul_ediv x ((lcm2 ns ms : Nat) : Int)
    rw [Int.mul_comm] at a3
    have b1 := per_times (per_dvd (onL_per g) (Nat.dvd_lcm_left ns.length ms.length)) (x / ((lcm2 ns ms : Nat) : Int)) (x % ((lcm2 ns ms : Nat) : Int))
    have b2 := per_times (per_dvd (onL_per g2) (Nat.dvd_lcm_right ns.length ms.length)) (x / ((lcm2 ns ms : Nat) : Int)) (x % ((lcm2 ns ms : Nat) : Int))
    rw [a3] at b1 b2
    have b3 := h2 (x % ((lcm2 ns ms : Nat) : Int)).toNat (by omega)
    rw [Int.toNat_of_nonneg a1] at b3
    rw [b1, b2, b3]
  · intro h
    have e : firstN (lcm2 ns ms) (mPa ns ms) = none := firstN_no fun j _ => by simp [mPa, h]
    rw [e]
    rfl
section
variable {K : PySem.W.Frag} {σ : L2.St} {H : Hp} {q : Addr} {i L : Nat} {p : Nat → Bool}
/-- xs[0] if xs != [] else None -/
theorem ev_headOr (hv : σ[i]? = some (some (.ref q))) (hq : H q = some (.lst ((dayL L p).map V.int))) : Ev (tIf (tTest (tOp (rNeD K) (tVar i) (tLst tNil))) (tOp (rIxL K) (tVar i) (tC (.int 0))) (tC .non)) σ H (optV (firstN L p)) := by
  have sh : SeqAt.shaped (dInts (dayL L p)) = true := shaped_small (smallD_of _) (by have := depth_ints (dayL L p); omega)
  have ht : EvT (tTest (tOp (rNeD K) (tVar i) (tLst tNil))) σ H (!(dayL L p).isEmpty) := et_test (ev_is (evd_neD (evd_ref (ev_var hv) (dp_ints (sq_of hq))) (evd_lst (K := K) evad_nil (by show 0 ≤ 100000; decide)) sh (by decide)) (by rw [eqv_nil]))
  cases e : (List.range L).filter p with
  | nil =>
    have e1 : dayL L p = [] := by unfold dayL; rw [e] <;> rfl
    have e2 : firstN L p = none := by unfold firstN; rw [e] <;> rfl
    rw [e2]
    rw [e1] at ht
    exact ev_if (b := false) ht (fun z => nomatch z) fun _ => ev_c
  | cons x xs =>
    have e1 : dayL L p = (x : Int) :: xs.map fun (i : Nat) => (i : Int) := by unfold dayL; rw [e] <;> rfl
    have e2 : firstN L p = some x := by unfold firstN; rw [e] <;> rfl
    rw [e2]
    rw [e1] at ht hq
    exact ev_if (b := true) ht (fun _ => ev_op (ev_var hv) ev_c (rv_ixL (sq_of hq) (atI_get (i := 0) rfl))) fun z => nomatch z
end
section
variable {P : Program} {w : World} {K : PySem.W.Frag} {mg : Str → Option Value} {base : Heap} {C CT fT : Addr}
theorem ok_heldR {f f1 f2 f3 f4 f5 f6 : Addr} {fd fd1 fd2 fd3 fd4 fd5 fd6 : FuncData} (F : Fun K "_law_held_right" "_law_held_right" s__law_held_right f fd) (T : Txt K mg C CT fT)
    (c__law_common : Cal P w K mg base "_law_common" f1 fd1 ["_law_one", "_law_other"] 1 sp_lcommon) (c__law_on : Cal P w K mg base "_law_on" f2 fd2 ["_law_days_here", "_law_day"] 1 (sp_lon K))
    (c_first_above : CalX P w K mg base "first_above" f3 fd3 ["table", "other_table"] 6 (sp_first K C CT mAb)) (c_most_above : CalX P w K mg base "most_above" f4 fd4 ["table", "other_table"] 6 (sp_most K C CT)) (c_first_parting : CalX P w K mg base "first_parting" f5 fd5 ["table", "other_table"] 6 (sp_first K C CT mPa))
    (m_is_same : Met P w K mg base C "is_same" f6 fd6 ["self", "other_table"] 6 (sp_same K C))
    (kb_first_above_other_table_table : KBn K fd3 ["table", "other_table"] 0 ["other_table", "table"] (fun us ws => us ++ ws.reverse) (fun vs zs => vs ++ zs.reverse)) (kb_most_above_other_table_table : KBn K fd4 ["table", "other_table"] 0 ["other_table", "table"] (fun us ws => us ++ ws.reverse) (fun vs zs => vs ++ zs.reverse)) (kb_first_parting_other_table_table : KBn K fd5 ["table", "other_table"] 0 ["other_table", "table"] (fun us ws => us ++ ws.reverse) (fun vs zs => vs ++ zs.reverse)) :
    FnG P w K mg base CX0 7 f fd ["_law_table", "_law_days_here", "_law_other_table", "_law_others"] (sp_pair K C) := by
  refine okG F sc__law_held_right (fun vs H Q E h => ?_) (fun cdv A outer s H vs Q E hg hr h => ?_)
  · obtain ⟨a, l, b, m, ns, ms, rfl, _⟩ := h
    rfl
  · obtain ⟨a, l, b, m, ns, ms, rfl, pr, k⟩ := h
    have hu := hr.units
    have g1 := pr.ga
    have g2 := pr.gb
    have n1 := g1.pos
    have n2 := g1.most
    have m1 := g2.pos
    have m2 := g2.most
    have hle := pr.le
    have hpos : 1 ≤ lcm2 ns ms := Nat.lcm_pos n1 m1
    have hL0 : ∀ f, (listF (lcm2 ns ms) f).length = lcm2 ns ms := fun f => listF_len _ f
    have hne : (listF (lcm2 ns ms) fun x => onL ns x - onL ms x) ≠ [] := fun z => by have z2 := congrArg List.length z; rw [listF_len, List.length_nil] at z2; omega
    have hmx := mxI_is hne
    have hmb : -9000000000000 ≤ mxI (listF (lcm2 ns ms) fun x => onL ns x - onL ms x) ∧ mxI (listF (lcm2 ns ms) fun x => onL ns x - onL ms x) ≤ 9000000000000 := by
      have hm1 := hmx.1
      generalize mxI (listF (lcm2 ns ms) fun x => onL ns x - onL ms x) = mx at hm1 ⊢
      unfold listF at hm1
      obtain ⟨i, hi, he⟩ := List.mem_map.mp hm1
      have he : onL ns (i : Int) - onL ms (i : Int) = mx := he
      have := List.mem_range.mp hi
      have := on_bd g1 pr.bda (i : Int)
      have := on_bd g2 pr.bdb (i : Int)
      omega
    have hc := parting_iff g1 g2
    generalize mxI (listF (lcm2 ns ms) fun x => onL ns x - onL ms x) = mx at hmx hmb
    obtain ⟨w1, w2, w3⟩ := fit3 (fit_opt (p := mAb ns ms) hle) (b := .int mx) ⟨by simp only [smallD, decide_eq_true_eq]; omega, by simp [bnd], by simp [PyData.depth]⟩ (fit_opt (p := mPa ns ms) hle)
    have dpl : ∀ (r : Addr) (Hx : Hp), Hx r = some (.lst [optV (firstN (lcm2 ns ms) (mAb ns ms)), .int mx, optV (firstN (lcm2 ns ms) (mPa ns ms))]) → Dp K Hx (.ref r) (.list [optD (firstN (lcm2 ns ms) (mAb ns ms)), .int mx, optD (firstN (lcm2 ns ms) (mPa ns ms))]) := fun r Hx hx => .lst (sq_of hx) (.cons (dp_opt _) (.cons (.int _) (.cons (dp_opt _) .nil)))
    have mxe : mxI (listF (lcm2 ns ms) fun x => onL ns x - onL ms x) = mx := mxI_eq hne hmx.1 hmx.2
    refine ⟨_, (pss_cons (ps_set (i := 4) sc__law_held_right.nd rfl (Or.inl rfl) (pe_call c__law_common.ok (hr.mono (by decide)) (by rfl) c__law_common.mgx c__law_common.kp c__law_common.bd .nil pass0 (pa_cons (pe_callB (lenS (K := K) rfl) (by rfl) T.b_len (by decide +kernel) (pa_cons (pv 1) pa_nil)) (pa_cons (pe_callB (lenS (K := K) rfl) (by rfl) T.b_len (by decide +kernel) (pa_cons (pv 3) pa_nil)) pa_nil)))) (pss_cons (ps_set (i := 5) sc__law_held_right.nd rfl (Or.inr rfl) (pe_lc (own := [("_law_day", 11)]) (g := (gName 11)) (by rfl) sc__law_held_right.nd (pi_range1 (by rfl) T.b_range (pa_cons (pv 4) pa_nil)) (blkOk_by (own := [("_law_day", 11)]) (N := ["_law_table", "_law_days_here", "_law_other_table", "_law_others", "_law_length", "_law_gaps", "_law_above", "_law_apart", "_law_due", "_law_told_here", "_law_again", "_law_day"]) (sc := defScope s__law_held_right) (by decide +kernel)) (fun _ _ _ _ _ => (pg_name (i := 11) sc__law_held_right.nd rfl (Or.inl rfl))) (fun _ _ _ _ _ => pts_nil) (fun _ _ _ _ _ => (pe_op op_sub (pe_call c__law_on.ok (hr.mono (by decide)) (by rfl) c__law_on.mgx c__law_on.kp c__law_on.bd .nil pass0 (pa_cons (pv 1) (pa_cons (pv 11) pa_nil))) (pe_call c__law_on.ok (hr.mono (by decide)) (by rfl) c__law_on.mgx c__law_on.kp c__law_on.bd .nil pass0 (pa_cons (pv 3) (pa_cons (pv 11) pa_nil))))))) (pss_cons (ps_par (i := 6) (j := 7) (by rfl) sc__law_held_right.nd rfl rfl (by decide) rfl rfl (pa_cons (pe_lc (own := [("_law_day", 11)]) (g := (gName 11)) (by rfl) sc__law_held_right.nd (pi_range1 (by rfl) T.b_range (pa_cons (pv 4) pa_nil)) (blkOk_by (own := [("_law_day", 11)]) (N := ["_law_table", "_law_days_here", "_law_other_table", "_law_others", "_law_length", "_law_gaps", "_law_above", "_law_apart", "_law_due", "_law_told_here", "_law_again", "_law_day"]) (sc := defScope s__law_held_right) (by decide +kernel)) (fun _ _ _ _ _ => (pg_name (i := 11) sc__law_held_right.nd rfl (Or.inl rfl))) (fun _ _ _ _ _ => (pts_one (pt_cmpR op_gt (pe_ix (ixL (K := K) rfl) (pv 5) (pv 11) (fun _ _ => rfl)) pe_int (nomark _)))) (fun _ _ _ _ _ => (pv 11))) (pa_cons (pe_lc (own := [("_law_day", 11)]) (g := (gName 11)) (by rfl) sc__law_held_right.nd (pi_range1 (by rfl) T.b_range (pa_cons (pv 4) pa_nil)) (blkOk_by (own := [("_law_day", 11)]) (N := ["_law_table", "_law_days_here", "_law_other_table", "_law_others", "_law_length", "_law_gaps", "_law_above", "_law_apart", "_law_due", "_law_told_here", "_law_again", "_law_day"]) (sc := defScope s__law_held_right) (by decide +kernel)) (fun _ _ _ _ _ => (pg_name (i := 11) sc__law_held_right.nd rfl (Or.inl rfl))) (fun _ _ _ _ _ => (pts_one (pt_cmpR op_ne (pe_ix (ixL (K := K) rfl) (pv 5) (pv 11) (fun _ _ => rfl)) pe_int (nomark _)))) (fun _ _ _ _ _ => (pv 11))) pa_nil)) (by rfl)) (pss_cons (ps_set (i := 8) sc__law_held_right.nd rfl (Or.inl rfl) (pe_lst (pa_cons (pe_ifExp (pt_cmpR (neD (K := K) rfl hr.units) (pv 6) (pe_lst pa_nil) (nomark _)) (pe_ix (ixL (K := K) rfl) (pv 6) pe_int (fun _ _ => rfl)) pe_non) (pa_cons (pe_callB (maxL (K := K) rfl rfl) (by rfl) T.b_max (by decide +kernel) (pa_cons (pv 5) pa_nil)) (pa_cons (pe_ifExp (pt_cmpR (neD (K := K) rfl hr.units) (pv 7) (pe_lst pa_nil) (nomark _)) (pe_ix (ixL (K := K) rfl) (pv 7) pe_int (fun _ _ => rfl)) pe_non) pa_nil))))) (pss_cons (ps_set (i := 9) sc__law_held_right.nd rfl (Or.inl rfl) (pe_lst (pa_cons (pe_call c_first_above.ok (hr.mono (by decide)) (by rfl) c_first_above.mgx c_first_above.kp c_first_above.bd .nil passL (pa_cons (pv 0) (pa_cons (pv 2) pa_nil))) (pa_cons (pe_call c_most_above.ok (hr.mono (by decide)) (by rfl) c_most_above.mgx c_most_above.kp c_most_above.bd .nil passL (pa_cons (pv 0) (pa_cons (pv 2) pa_nil))) (pa_cons (pe_call c_first_parting.ok (hr.mono (by decide)) (by rfl) c_first_parting.mgx c_first_parting.kp c_first_parting.bd .nil passL (pa_cons (pv 0) (pa_cons (pv 2) pa_nil))) pa_nil))))) (pss_cons (ps_if (pt_cmpR op_ne (pe_callB (call_reprD hg hu) (by rfl) T.b_repr (by decide +kernel) (pa_cons (pv 9) pa_nil)) (pe_callB (call_reprD hg hu) (by rfl) T.b_repr (by decide +kernel) (pa_cons (pv 8) pa_nil)) (nomark _)) (pss_one (ps_ret pe_bl)) pss_nil) (pss_cons (ps_set (i := 10) sc__law_held_right.nd rfl (Or.inl rfl) (pe_lst (pa_cons (pe_callN0 c_first_above.ok (hr.mono (by decide)) (by rfl) c_first_above.mgx c_first_above.kp kb_first_above_other_table_table passL (pk_cons (pv 2) (pk_cons (pv 0) pk_nil))) (pa_cons (pe_callN0 c_most_above.ok (hr.mono (by decide)) (by rfl) c_most_above.mgx c_most_above.kp kb_most_above_other_table_table passL (pk_cons (pv 2) (pk_cons (pv 0) pk_nil))) pa_nil)))) (pss_cons (ps_expr (pe_bm PySem.F.plainAttrs_list PySem.F.slot_list_append PySem.F.type_list_append mt_append (pv 10) (pa_cons (pe_callN0 c_first_parting.ok (hr.mono (by decide)) (by rfl) c_first_parting.mgx c_first_parting.kp kb_first_parting_other_table_table passL (pk_cons (pv 2) (pk_cons (pv 0) pk_nil))) pa_nil))) (pss_one (ps_ret (pe_and (pe_cmpR op_eq (pe_callB (call_reprD hg hu) (by rfl) T.b_repr (by decide +kernel) (pa_cons (pv 10) pa_nil)) (pe_callB (call_reprD hg hu) (by rfl) T.b_repr (by decide +kernel) (pa_cons (pv 8) pa_nil)) (nomark _)) (pe_one (pe_cmpR op_eq (pe_meth (pv 0) T.cl m_is_same.me m_is_same.ok (hr.mono (by decide)) m_is_same.bd .nil pass0 (pa_cons (pv 2) pa_nil)) (pe_cmpR op_isN (pe_ix (ixL (K := K) rfl) (pv 8) pe_int (fun _ _ => rfl)) pe_non (nomark _)) (nomark _)))))))))))))), ?_⟩
    refine q_asg (v := .int (lcm2 ns ms : Int)) (ev_call (ea_cons (ev_cb (ea_cons (ev_var rfl) ea_nil) (rc_len (.inl (sq_of pr.la)) (List.length_map ..))) (ea_cons (ev_cb (ea_cons (ev_var rfl) ea_nil) (rc_len (.inl (sq_of pr.lb)) (List.length_map ..))) ea_nil)) (spv_lcommon n1 n2 m1 m2)) fun H1 e1 => ?_
    have p1 := pr.mono e1
    refine q_asgL (xs := (listF (lcm2 ns ms) fun x => onL ns x - onL ms x).map V.int) (el_is (el_lcR1 (fun _ => true) (fun i => V.int (onL ns (i : Int) - onL ms (i : Int))) (ea_cons (ev_var rfl) ea_nil) (by omega) (fun _ => rfl) (fun _ _ _ _ => lc_yes) (fun i H2 e2 _ _ => ev_op (ev_call (ea_cons (ev_var rfl) (ea_cons (ev_var rfl) ea_nil)) (spv_lon (sq_of (e2 l _ p1.la)) g1)) (ev_call (ea_cons (ev_var rfl) (ea_cons (ev_var rfl) ea_nil)) (spv_lon (sq_of (e2 m _ p1.lb)) g2)) rv_I0)) (given_listF fun _ _ => rfl)) fun q H2 hq e2 hgp => ?_
    have ix : ∀ {Hx : Hp} {σ' : L2.St} {i : Nat}, Ex H2 Hx → i < lcm2 ns ms → σ'[5]? = some (some (.ref q)) → σ'[11]? = some (some (.int (i : Int))) → Ev (tOp (rIxL K) (tVar 5) (tVar 11)) σ' Hx (.int (onL ns (i : Int) - onL ms (i : Int))) := fun {Hx σ' i} ex hi s1 s2 => by
      have := ev_op (ev_var s1) (ev_var s2) (rv_ixL (K := K) (sq_of (ex q _ hgp)) (atI_nat (getI (i := i) (by rw [hL0]; exact hi))))
      rw [listF_at hi] at this
      exact this
    refine par2_k (ac_l (xs := (dayL (lcm2 ns ms) (mAb ns ms)).map V.int) (el_is (el_lcR1 (fun i => decide (onL ns (i : Int) - onL ms (i : Int) > 0)) (fun i => V.int (i : Int)) (ea_cons (ev_var rfl) ea_nil) (by omega) (fun _ => rfl) (fun i H3 e3 hi => et_test (ev_op (ix e3 (by omega) rfl rfl) ev_c rv_I0)) (fun i H3 e3 _ _ => ev_var rfl)) (given_day fun i hi => by simp only [mAb]; congr 1; exact propext ⟨fun _ => by omega, fun _ => by omega⟩)) fun x1 H3 hx1 e3 hl1 =>
      ac_l (xs := (dayL (lcm2 ns ms) (mPa ns ms)).map V.int) (el_is (el_lcR1 (fun i => !decide (V.int (onL ns (i : Int) - onL ms (i : Int)) = V.int 0)) (fun i => V.int (i : Int)) (ea_cons (ev_var rfl) ea_nil) (by omega) (fun _ => rfl) (fun i H4 e4 hi => et_test (ev_op (ix (e3.trans e4) (by omega) rfl rfl) ev_c (rv_ne rfl))) (fun i H4 e4 _ _ => ev_var rfl)) (given_day fun i hi => ?_)) fun x2 H4 hx2 e4 hl2 => ac_nil ⟨_, _, rfl, ?_⟩)
    · simp only [mPa]
      congr 2
      exact propext ⟨fun z => by injection z with z; congr 1; omega, fun z => by injection z with z; congr 1; omega⟩
    refine q_asgL (xs := [optV (firstN (lcm2 ns ms) (mAb ns ms)), .int mx, optV (firstN (lcm2 ns ms) (mPa ns ms))]) (el_lst (ea_cons (ev_headOr rfl (e4 x1 _ hl1)) (ea_cons (ev_cb (ea_cons (ev_var rfl) ea_nil) (rc_max (sq_of ((e3.trans e4) q _ hgp)) hmx.1 hmx.2)) (ea_cons (ev_headOr rfl hl2) ea_nil))) (by show 3 ≤ 100000; decide)) fun d H5 hd e5 hdl => ?_
    have e25 := (e3.trans e4).trans e5
    have p5 := p1.mono (e2.trans e25)
    have e15 := (e1.trans e2).trans e25
    clear p1 ix hgp hl1 hl2 e2 e3 e4 e5 e25 hx1 hx2 hq e1
    refine q_asgL (xs := [optV (firstN (lcm2 ns ms) (mAb ns ms)), .int mx, optV (firstN (lcm2 ns ms) (mPa ns ms))]) (el_lst (ea_cons (ev_call (ea_cons (ev_var rfl) (ea_cons (ev_var rfl) ea_nil)) (spv_first p5.ta p5.tb g1 g2 hle)) (ea_cons (ev_is (ev_call (ea_cons (ev_var rfl) (ea_cons (ev_var rfl) ea_nil)) (spv_most p5.ta p5.tb g1 g2 hle)) (congrArg V.int mxe)) (ea_cons (ev_call (ea_cons (ev_var rfl) (ea_cons (ev_var rfl) ea_nil)) (spv_first p5.ta p5.tb g1 g2 hle)) ea_nil))) (by show 3 ≤ 100000; decide)) fun r H6 hr6 e6 hrl => ?_
    refine q_when (b := false) (et_is (et_test (ev_op (ev_repr (evd_ref (ev_var rfl) (dpl _ _ hrl)) w1 w2 w3) (ev_repr (evd_ref (ev_var rfl) (dpl _ _ (e6 _ _ hdl))) w1 w2 w3) (rv_ne rfl))) (congrArg not (decide_eq_true (show _ = _ from rfl)))) (fun q => nomatch q) fun _ H7 e7 => ?_
    have p7 := p5.mono (e6.trans e7)
    refine q_asgL (xs := [optV (firstN (lcm2 ns ms) (mAb ns ms)), .int mx]) (el_lst (ea_cons (ev_callN0 (ea_cons (ev_var rfl) (ea_cons (ev_var rfl) ea_nil)) rfl (spv_first p7.ta p7.tb g1 g2 hle)) (ea_cons (ev_is (ev_callN0 (ea_cons (ev_var rfl) (ea_cons (ev_var rfl) ea_nil)) rfl (spv_most p7.ta p7.tb g1 g2 hle)) (congrArg V.int mxe)) ea_nil)) (by show 2 ≤ 100000; decide)) fun z H8 hz e8 hzl => ?_
    have p8 := p7.mono e8
    refine q_app (l := z) (v := optV (firstN (lcm2 ns ms) (mPa ns ms))) hzl (ev_var rfl) (ev_callN0 (ea_cons (ev_var rfl) (ea_cons (ev_var rfl) ea_nil)) rfl (spv_first p8.ta p8.tb g1 g2 hle)) (by show 2 < 100000; decide) fun H9 e9 => ?_
    have eA : Ex H7 (upd H9 z (.lst ([optV (firstN (lcm2 ns ms) (mAb ns ms)), .int mx] ++ [optV (firstN (lcm2 ns ms) (mPa ns ms))]))) := Ex.mut (e8.trans e9) hz
    have e5A := (e6.trans e7).trans eA
    have pA := p5.mono e5A
    obtain ⟨dx, l1, a1, a2⟩ := id pA.ta
    exact s_ret (ev_is (ev_andV (a := true) (b := true) (ev_is (ev_op (ev_repr (evd_ref (ev_var rfl) (dpl _ _ upd_same)) w1 w2 w3) (ev_repr (evd_ref (ev_var rfl) (dpl _ _ (e5A _ _ hdl))) w1 w2 w3) (rv_eq rfl)) (congrArg V.bl (decide_eq_true (show _ = _ from rfl)))) fun _ => ev_is (ev_op (ev_meth (ev_var rfl) a1 rfl (ea_cons (ev_var rfl) ea_nil) (spv_same pA.ta pA.tb g1 g2 hc)) (ev_op (ev_op (ev_var rfl) ev_c (rv_ixL (sq_of (e5A _ _ hdl)) (v := optV (firstN (lcm2 ns ms) (mPa ns ms))) rfl)) ev_c rv_isN) (rv_eq rfl)) (congrArg V.bl (decide_eq_true rfl))) rfl) fun H10 e10 => k H10 ((e15.trans e5A).trans e10)
end
end K13
end
section
set_option maxHeartbeats 4000000
namespace K13
open PySem L2 Evl G TM
/-- what evaluates to a Table -/
def EvQ (K : PySem.W.Frag) (C : Addr) (te : TE) (σ : L2.St) (H : Hp) (ns : List Int) : Prop := ∀ H1, Ex H H1 → ∀ Q : VK, (∀ p H2, Ex H1 H2 → Tab K C H2 p ns → Q (.ref p) H2) → te σ H1 Q
section
variable {K : PySem.W.Frag} {σ : L2.St} {H H' : Hp} {a b C CT p : Addr} {i j L : Nat} {tA tr : TA} {te tl ta tb : TE} {Q : VK} {E : XK} {D : Ends} {tz : TS} {ns ms : List Int} {m : Str} {Mb : List Int → Int → Int} {M : List Int → List Int → Int → Int} {Mf : List Int → List Int → Nat → Bool} {QA : List V → Hp → Prop}
theorem EvQ.mono (e : Ex H H') (h : EvQ K C te σ H ns) : EvQ K C te σ H' ns := fun H1 a Q q => h H1 (e.trans a) Q q
theorem evq_v (h : Ev te σ H (.ref a)) (t : Tab K C H a ns) : EvQ K C te σ H ns := fun H1 e Q q => h H1 e Q fun H2 e2 => q a H2 e2 (t.mono (e.trans e2))
theorem evq_by (hm : m ≠ "_days") (h : EvQ K C ta σ H ns) (g : Good ns) : EvQ K C (tMeth C m (sp_byT K C Mb) [] E ta tNil) σ H (listF ns.length (Mb ns)) := fun H1 e Q q => h H1 e _ fun p H2 e2 t => by
  obtain ⟨dx, l, h1, h2⟩ := id t
  exact ⟨p, dx, _, rfl, h1, (by have hm' : (m == ("_days" : Str)) = false := (by simpa using hm); simp [List.lookup, hm']), p, ns, rfl, t, g, fun p' H3 _ e3 t3 => q p' H3 (e2.trans e3) t3.tab⟩
theorem evq_join (ha : EvQ K C ta σ H ns) (hb : EvQ K C tb σ H ms) (g : Good ns) (g2 : Good ms) (hl : lcm2 ns ms ≤ 600) : EvQ K C (tCall (sp_joined K C CT M) [] E (tCons ta (tCons tb tNil))) σ H (listF (lcm2 ns ms) (M ns ms)) := fun H1 e Q q =>
  ha H1 e _ fun p H2 e2 t => hb H2 (e.trans e2) _ fun p' H3 e3 t' => ⟨p, p', ns, ms, rfl, t.mono e3, t', g, g2, fun _ p'' H4 _ e4 t4 => q p'' H4 ((e2.trans e3).trans e4) t4.tab, fun z => by omega⟩
theorem ev_sameQ (ha : EvQ K C ta σ H ns) (hb : EvQ K C tb σ H ms) (g : Good ns) (g2 : Good ms) (h : ∀ x, onL ns x = onL ms x) : Ev (tMeth C "is_same" (sp_same K C) [] E ta (tCons tb tNil)) σ H (.bl true) := fun H1 e Q q =>
  ha H1 e _ fun p H2 e2 t => by
    obtain ⟨dx, l, h1, h2⟩ := id t
    exact ⟨p, dx, _, rfl, h1, rfl, hb H2 (e.trans e2) _ fun p' H3 e3 t' => ⟨p, p', ns, ms, true, rfl, t.mono e3, t', g, g2, ⟨fun _ => h, fun _ => rfl⟩, fun H4 e4 => q H4 ((e2.trans e3).trans e4)⟩⟩
theorem q_asgQ (h : EvQ K C te σ H ns) (k : ∀ p H1, Ex H H1 → Tab K C H1 p ns → tz D (σ.set i (some (.ref p))) H1) : tSeq (tAsg te (gName i)) tz D σ H := h H (Ex.refl H) _ k
theorem ac_q (h : EvQ K C te σ H ns) (k : ∀ p H1, Ex H H1 → Tab K C H1 p ns → tr σ H1 fun xs H2 => QA (.ref p :: xs) H2) : tCons te tr σ H QA := h H (Ex.refl H) _ k
/-- first_above(a, b) is None -/
theorem ev_noneAbove (ha : Ev ta σ H (.ref a)) (hb : Ev tb σ H (.ref b)) (t1 : Tab K C H a ns) (t2 : Tab K C H b ms) (g : Good ns) (g2 : Good ms) (hl : lcm2 ns ms ≤ 600) (h : ∀ x, onL ns x ≤ onL ms x) :
    Ev (tOp (fun x y H Q => y = .non ∧ Q (.bl (decide (x = .non))) H) (tCall (sp_first K C CT mAb) [] E (tCons ta (tCons tb tNil))) (tC .non)) σ H (.bl true) := by
  have e : firstN (lcm2 ns ms) (mAb ns ms) = none := firstN_no fun j _ => decide_eq_false (by have := h (j : Int); omega)
  have := ev_op (ev_call (E := E) (sp := sp_first K C CT mAb) (ea_cons ha (ea_cons hb ea_nil)) (spv_first t1 t2 g g2 hl)) ev_c rv_isN
  rw [e] at this
  exact this
end
section
variable {ns ms : List Int} (g : Good ns) (k : Good ms) {L : Nat}
include g k
theorem back1 (r : Rule L (mBe ns ms)) (x : Int) : byL (listF L (mBe ns ms)) x = byL ms (byL ns x) := by_unique r.good fun z => by rw [r.on, by_le k, by_le g]
theorem back2 (r : Rule L (mBe ns ms)) (x : Int) : tilL (listF L (mBe ns ms)) x = tilL ms (tilL ns x) := til_unique r.good fun z => by rw [r.on, til_le k, til_le g]
theorem back3 (r : Rule L (mLa ns ms)) (x : Int) : tilL (listF L (mLa ns ms)) x = if tilL ms x < tilL ns x then tilL ms x else tilL ns x := til_unique r.good fun z => by
  rw [r.on]
  have a := til_le g (x := z) (y := x)
  have b := til_le k (x := z) (y := x)
  simp only [mLa]
  split <;> split <;> omega
theorem back4 (r : Rule L (mSo ns ms)) (x : Int) : byL (listF L (mSo ns ms)) x = if byL ms x > byL ns x then byL ms x else byL ns x := by_unique r.good fun z => by
  rw [r.on]
  have a := by_le g (x := z) (y := x)
  have b := by_le k (x := z) (y := x)
  simp only [mSo]
  split <;> split <;> omega
end
def sp_back (K : PySem.W.Frag) (C : Addr) : Sp := fun vs H Q _ => ∃ (a b : Addr) (ns ms : List Int), vs = [.ref a, .ref b] ∧ Tab K C H a ns ∧ Tab K C H b ms ∧ Good ns ∧ Good ms ∧ lcm2 ns ms ≤ 600 ∧ RetV (.bl true) H Q
section
variable {P : Program} {w : World} {K : PySem.W.Frag} {mg : Str → Option Value} {base : Heap} {C CT fT : Addr}
theorem ok_backR {f f1 f2 f3 f4 f5 f6 f7 : Addr} {fd fd1 fd2 fd3 fd4 fd5 fd6 fd7 : FuncData} (F : Fun K "_law_back_right" "_law_back_right" s__law_back_right f fd) (T : Txt K mg C CT fT)
    (c_behind : CalX P w K mg base "behind" f1 fd1 ["table", "other_table"] 6 (sp_joined K C CT mBe)) (c_later : CalX P w K mg base "later" f2 fd2 ["table", "other_table"] 6 (sp_joined K C CT mLa)) (c_sooner : CalX P w K mg base "sooner" f3 fd3 ["table", "other_table"] 6 (sp_joined K C CT mSo)) (c_first_above : CalX P w K mg base "first_above" f4 fd4 ["table", "other_table"] 6 (sp_first K C CT mAb))
    (m_is_same : Met P w K mg base C "is_same" f5 fd5 ["self", "other_table"] 6 (sp_same K C)) (m_by_table : Met P w K mg base C "by_table" f6 fd6 ["self"] 5 (sp_byT K C byL)) (m_til_table : Met P w K mg base C "til_table" f7 fd7 ["self"] 5 (sp_byT K C tilL)) :
    FnOk P w K mg base CX0 7 f fd ["_law_table", "_law_other_table"] (sp_back K C) := by
  refine F.ok sc__law_back_right (fun vs H Q E h => ?_) (fun cdv A outer s H vs Q E hr h => ?_)
  · obtain ⟨a, b, ns, ms, rfl, _⟩ := h
    rfl
  · obtain ⟨a, b, ns, ms, rfl, ta, tb, g, g2, hle, k⟩ := h
    have hpos : 1 ≤ lcm2 ns ms := Nat.lcm_pos g.pos g2.pos
    have d1 : ns.length ∣ lcm2 ns ms := Nat.dvd_lcm_left _ _
    have d2 : ms.length ∣ lcm2 ns ms := Nat.dvd_lcm_right _ _
    have rB := behind_rule g g2 hpos hle d1 d2
    have rL := later_rule g g2 hpos hle d1 d2
    have rS := sooner_rule g g2 hpos hle d1 d2
    have by1 := by_rule g
    have by2 := by_rule g2
    have ti1 := til_rule g
    have ti2 := til_rule g2
    have len : ∀ n f, (listF n f).length = n := fun n f => listF_len n f
    have l1 : ∀ f1 f2, lcm2 (listF ns.length f1) (listF ms.length f2) ≤ 600 := fun f1 f2 => by unfold lcm2; rw [len, len]; exact hle
    have l2 : ∀ f1 f2, lcm2 (listF ms.length f1) (listF ns.length f2) ≤ 600 := fun f1 f2 => by unfold lcm2; rw [len, len, Nat.lcm_comm]; exact hle
    have l3 : ∀ f1 f2, lcm2 (listF (lcm2 ns ms) f1) (listF (lcm2 ns ms) f2) ≤ 600 := fun f1 f2 => by unfold lcm2; rw [len, len, Nat.lcm_self]; exact hle
    have l4 : ∀ f2, lcm2 ns (listF (lcm2 ns ms) f2) ≤ 600 := fun f2 => by unfold lcm2; rw [len, Nat.lcm_eq_right d1]; exact hle
    have l5 : ∀ f1, lcm2 (listF (lcm2 ns ms) f1) ms ≤ 600 := fun f1 => by unfold lcm2; rw [len, Nat.lcm_eq_left d2]; exact hle
    refine ⟨_, (pss_cons (ps_set (i := 2) sc__law_back_right.nd rfl (Or.inl rfl) (pe_call c_behind.ok (hr.mono (by decide)) (by rfl) c_behind.mgx c_behind.kp c_behind.bd .nil passL (pa_cons (pv 0) (pa_cons (pv 1) pa_nil)))) (pss_cons (ps_if (pt_not (pt_val (pe_meth (pe_meth0 (pv 2) T.cl m_by_table.me m_by_table.ok (hr.mono (by decide)) m_by_table.bd .nil pass0) T.cl m_is_same.me m_is_same.ok (hr.mono (by decide)) m_is_same.bd .nil pass0 (pa_cons (pe_call c_behind.ok (hr.mono (by decide)) (by rfl) c_behind.mgx c_behind.kp c_behind.bd .nil passL (pa_cons (pe_meth0 (pv 1) T.cl m_by_table.me m_by_table.ok (hr.mono (by decide)) m_by_table.bd .nil pass0) (pa_cons (pe_meth0 (pv 0) T.cl m_by_table.me m_by_table.ok (hr.mono (by decide)) m_by_table.bd .nil pass0) pa_nil))) pa_nil)))) (pss_one (ps_ret pe_bl)) pss_nil) (pss_cons (ps_if (pt_not (pt_val (pe_meth (pe_meth0 (pv 2) T.cl m_til_table.me m_til_table.ok (hr.mono (by decide)) m_til_table.bd .nil pass0) T.cl m_is_same.me m_is_same.ok (hr.mono (by decide)) m_is_same.bd .nil pass0 (pa_cons (pe_call c_behind.ok (hr.mono (by decide)) (by rfl) c_behind.mgx c_behind.kp c_behind.bd .nil passL (pa_cons (pe_meth0 (pv 1) T.cl m_til_table.me m_til_table.ok (hr.mono (by decide)) m_til_table.bd .nil pass0) (pa_cons (pe_meth0 (pv 0) T.cl m_til_table.me m_til_table.ok (hr.mono (by decide)) m_til_table.bd .nil pass0) pa_nil))) pa_nil)))) (pss_one (ps_ret pe_bl)) pss_nil) (pss_cons (ps_par (i := 3) (j := 4) (by rfl) sc__law_back_right.nd rfl rfl (by decide) rfl rfl (pa_cons (pe_call c_later.ok (hr.mono (by decide)) (by rfl) c_later.mgx c_later.kp c_later.bd .nil passL (pa_cons (pv 0) (pa_cons (pv 1) pa_nil))) (pa_cons (pe_call c_sooner.ok (hr.mono (by decide)) (by rfl) c_sooner.mgx c_sooner.kp c_sooner.bd .nil passL (pa_cons (pv 0) (pa_cons (pv 1) pa_nil))) pa_nil)) (by rfl)) (pss_cons (ps_if (pt_not (pt_val (pe_meth (pe_meth0 (pv 3) T.cl m_til_table.me m_til_table.ok (hr.mono (by decide)) m_til_table.bd .nil pass0) T.cl m_is_same.me m_is_same.ok (hr.mono (by decide)) m_is_same.bd .nil pass0 (pa_cons (pe_call c_sooner.ok (hr.mono (by decide)) (by rfl) c_sooner.mgx c_sooner.kp c_sooner.bd .nil passL (pa_cons (pe_meth0 (pv 0) T.cl m_til_table.me m_til_table.ok (hr.mono (by decide)) m_til_table.bd .nil pass0) (pa_cons (pe_meth0 (pv 1) T.cl m_til_table.me m_til_table.ok (hr.mono (by decide)) m_til_table.bd .nil pass0) pa_nil))) pa_nil)))) (pss_one (ps_ret pe_bl)) pss_nil) (pss_cons (ps_if (pt_not (pt_val (pe_meth (pe_meth0 (pv 4) T.cl m_by_table.me m_by_table.ok (hr.mono (by decide)) m_by_table.bd .nil pass0) T.cl m_is_same.me m_is_same.ok (hr.mono (by decide)) m_is_same.bd .nil pass0 (pa_cons (pe_call c_later.ok (hr.mono (by decide)) (by rfl) c_later.mgx c_later.kp c_later.bd .nil passL (pa_cons (pe_meth0 (pv 0) T.cl m_by_table.me m_by_table.ok (hr.mono (by decide)) m_by_table.bd .nil pass0) (pa_cons (pe_meth0 (pv 1) T.cl m_by_table.me m_by_table.ok (hr.mono (by decide)) m_by_table.bd .nil pass0) pa_nil))) pa_nil)))) (pss_one (ps_ret pe_bl)) pss_nil) (pss_one (ps_ret (pe_and (pe_cmpR op_isN (pe_call c_first_above.ok (hr.mono (by decide)) (by rfl) c_first_above.mgx c_first_above.kp c_first_above.bd .nil passL (pa_cons (pv 4) (pa_cons (pv 3) pa_nil))) pe_non (nomark _)) (pe_and (pe_cmpR op_isN (pe_call c_first_above.ok (hr.mono (by decide)) (by rfl) c_first_above.mgx c_first_above.kp c_first_above.bd .nil passL (pa_cons (pv 0) (pa_cons (pv 3) pa_nil))) pe_non (nomark _)) (pe_one (pe_cmpR op_isN (pe_call c_first_above.ok (hr.mono (by decide)) (by rfl) c_first_above.mgx c_first_above.kp c_first_above.bd .nil passL (pa_cons (pv 4) (pa_cons (pv 1) pa_nil))) pe_non (nomark _))))))))))))), ?_⟩
    refine q_asgQ (evq_join (evq_v (ev_var rfl) ta) (evq_v (ev_var rfl) tb) g g2 hle) fun x H1 e1 t1 => ?_
    have ta1 := ta.mono e1
    have tb1 := tb.mono e1
    have rB' := by_rule rB.good
    have rT' := til_rule rB.good
    have rJ1 := behind_rule by2.good by1.good (L := lcm2 (listF ms.length (byL ms)) (listF ns.length (byL ns))) (Nat.lcm_pos by2.good.pos by1.good.pos) (l2 _ _) (Nat.dvd_lcm_left _ _) (Nat.dvd_lcm_right _ _)
    have rJ2 := behind_rule ti2.good ti1.good (L := lcm2 (listF ms.length (tilL ms)) (listF ns.length (tilL ns))) (Nat.lcm_pos ti2.good.pos ti1.good.pos) (l2 _ _) (Nat.dvd_lcm_left _ _) (Nat.dvd_lcm_right _ _)
    refine q_when (b := false) (et_not (a := true) (et_B (ev_sameQ (evq_by (by decide) (evq_v (ev_var rfl) t1) rB.good) (evq_join (evq_by (by decide) (evq_v (ev_var rfl) tb1) g2) (evq_by (by decide) (evq_v (ev_var rfl) ta1) g) by2.good by1.good (l2 _ _)) rB'.good rJ1.good fun x => ?_))) (fun q => nomatch q) fun _ H2 e2 => ?_
    · rw [rB'.on, rJ1.on, back1 g g2 rB, by1.on, by2.on]
    have ta2 := ta1.mono e2
    have tb2 := tb1.mono e2
    refine q_when (b := false) (et_not (a := true) (et_B (ev_sameQ (evq_by (by decide) (evq_v (ev_var rfl) (t1.mono e2)) rB.good) (evq_join (evq_by (by decide) (evq_v (ev_var rfl) tb2) g2) (evq_by (by decide) (evq_v (ev_var rfl) ta2) g) ti2.good ti1.good (l2 _ _)) rT'.good rJ2.good fun x => ?_))) (fun q => nomatch q) fun _ H3 e3 => ?_
    · rw [rT'.on, rJ2.on, back2 g g2 rB, ti1.on, ti2.on]
    have ta3 := ta2.mono e3
    have tb3 := tb2.mono e3
    refine par2_k (ac_q (evq_join (evq_v (ev_var rfl) ta3) (evq_v (ev_var rfl) tb3) g g2 hle) fun y H4 e4 t4 => ac_q (evq_join (evq_v (ev_var rfl) (ta3.mono e4)) (evq_v (ev_var rfl) (tb3.mono e4)) g g2 hle) fun z H5 e5 t5 => ac_nil ⟨_, _, rfl, ?_⟩)
    have t4' := t4.mono e5
    have ta5 := ta3.mono (e4.trans e5)
    have tb5 := tb3.mono (e4.trans e5)
    have rLt := til_rule rL.good
    have rSb := by_rule rS.good
    have rJ3 := sooner_rule ti1.good ti2.good (L := lcm2 (listF ns.length (tilL ns)) (listF ms.length (tilL ms))) (Nat.lcm_pos ti1.good.pos ti2.good.pos) (l1 _ _) (Nat.dvd_lcm_left _ _) (Nat.dvd_lcm_right _ _)
    have rJ4 := later_rule by1.good by2.good (L := lcm2 (listF ns.length (byL ns)) (listF ms.length (byL ms))) (Nat.lcm_pos by1.good.pos by2.good.pos) (l1 _ _) (Nat.dvd_lcm_left _ _) (Nat.dvd_lcm_right _ _)
    refine q_when (b := false) (et_not (a := true) (et_B (ev_sameQ (evq_by (by decide) (evq_v (ev_var rfl) t4') rL.good) (evq_join (evq_by (by decide) (evq_v (ev_var rfl) ta5) g) (evq_by (by decide) (evq_v (ev_var rfl) tb5) g2) ti1.good ti2.good (l1 _ _)) rLt.good rJ3.good fun x => ?_))) (fun q => nomatch q) fun _ H6 e6 => ?_
    · rw [rLt.on, rJ3.on, back3 g g2 rL, ti1.on, ti2.on]
    have ta6 := ta5.mono e6
    have tb6 := tb5.mono e6
    refine q_when (b := false) (et_not (a := true) (et_B (ev_sameQ (evq_by (by decide) (evq_v (ev_var rfl) (t5.mono e6)) rS.good) (evq_join (evq_by (by decide) (evq_v (ev_var rfl) ta6) g) (evq_by (by decide) (evq_v (ev_var rfl) tb6) g2) by1.good by2.good (l1 _ _)) rSb.good rJ4.good fun x => ?_))) (fun q => nomatch q) fun _ H7 e7 => ?_
    · rw [rSb.on, rJ4.on, back4 g g2 rS, by1.on, by2.on]
    have e67 := e6.trans e7
    have t47 := t4'.mono e67
    have t57 := t5.mono e67
    exact s_ret (ev_is (ev_andV (a := true) (b := true && true) (ev_noneAbove (ev_var rfl) (ev_var rfl) t57 t47 rS.good rL.good (l3 _ _) fun x => by rw [rS.on, rL.on]; (try dsimp only); split <;> split <;> omega) fun _ => ev_andV (a := true) (b := true) (ev_noneAbove (ev_var rfl) (ev_var rfl) (ta5.mono e67) t47 g rL.good (l4 _) fun x => by rw [rL.on]; (try dsimp only); split <;> omega) fun _ => ev_noneAbove (ev_var rfl) (ev_var rfl) t57 (tb5.mono e67) rS.good g2 (l5 _) fun x => by rw [rS.on]; (try dsimp only); split <;> omega) rfl) fun H8 e8 => k H8 (((((((e1.trans e2).trans e3).trans e4).trans e5).trans e6).trans e7).trans e8)
end
end K13
end
section
set_option maxHeartbeats 4000000
namespace K13
open PySem L2 Evl G TM
def sp_deed (K : PySem.W.Frag) (C CT : Addr) : Sp := fun vs H Q E => ∃ (a b : Addr) (ns ms : List Int), vs = [.ref a, .ref b] ∧ Tab K C H a ns ∧ Tab K C H b ms ∧ Good ns ∧ Good ms ∧ 600 < lcm2 ns ms ∧ RetX CT H E
def refD : PyData := .list [.str "length", .int 600]
def sp_refusal (K : PySem.W.Frag) (C : Addr) (fs : List Addr) : Sp := fun vs H Q _ => ∃ (B : Hp) (f a b : Addr) (ns ms : List Int), vs = [.ref f, .ref a, .ref b] ∧ f ∈ fs ∧ Tab K C H a ns ∧ Tab K C H b ms ∧ Good ns ∧ Good ms ∧ 600 < lcm2 ns ms ∧ RetN K B refD H Q
theorem spn_refusal {K : PySem.W.Frag} {C f a b : Addr} {fs : List Addr} {B H : Hp} {ns ms : List Int} (hf : f ∈ fs) (t1 : Tab K C H a ns) (t2 : Tab K C H b ms) (g : Good ns) (g2 : Good ms) (hl : 600 < lcm2 ns ms) : SpN K B (sp_refusal K C fs) ([.ref f, .ref a, .ref b] ++ []) H refD := fun H1 e Q q E => ⟨B, f, a, b, ns, ms, rfl, hf, t1.mono e, t2.mono e, g, g2, hl, q⟩
def sp_long : Sp := fun vs H Q _ => ∃ p, vs = [.ref p] ∧ PotAt H p ∧ ∀ H2, Ex (wo H p) H2 → PotAt H2 p → Q (.bl true) H2
section
variable {P : Program} {w : World} {K : PySem.W.Frag} {mg : Str → Option Value} {base : Heap} {C CT fT : Addr}
theorem ok_refusal {f f1 f2 f3 f4 f5 f6 : Addr} {fd fd1 fd2 fd3 fd4 fd5 fd6 : FuncData} (F : Fun K "_law_refusal" "_law_refusal" s__law_refusal f fd) (T : Txt K mg C CT fT)
    (c_behind : CalX P w K mg base "behind" f1 fd1 ["table", "other_table"] 6 (sp_joined K C CT mBe)) (c_later : CalX P w K mg base "later" f2 fd2 ["table", "other_table"] 6 (sp_joined K C CT mLa)) (c_sooner : CalX P w K mg base "sooner" f3 fd3 ["table", "other_table"] 6 (sp_joined K C CT mSo))
    (c_first_above : CalX P w K mg base "first_above" f4 fd4 ["table", "other_table"] 6 (sp_first K C CT mAb)) (c_most_above : CalX P w K mg base "most_above" f5 fd5 ["table", "other_table"] 6 (sp_most K C CT)) (c_first_parting : CalX P w K mg base "first_parting" f6 fd6 ["table", "other_table"] 6 (sp_first K C CT mPa)) :
    FnOk P w K mg base CX0 8 f fd ["_law_deed", "_law_table", "_law_other_table"] (sp_refusal K C [f1, f2, f3, f4, f5, f6]) := by
  have FS : ∀ f, f ∈ [f1, f2, f3, f4, f5, f6] → ∃ fd ps, FnOk P w K mg base (L2.CX P w) 6 f fd ps (sp_deed K C CT) ∧ Binds K fd ps [] ∧ PySem.W.keepIn K (.ref f) = true := by
    intro f hf
    simp only [List.mem_cons, List.mem_nil_iff, or_false] at hf
    rcases hf with rfl | rfl | rfl | rfl | rfl | rfl
    · exact ⟨_, _, c_behind.ok.imp (fun vs H Q E ⟨a, b, ns, ms, e, ta, tb, g, g2, hlt, kx⟩ => ⟨a, b, ns, ms, e, ta, tb, g, g2, fun z => by omega, fun _ => kx⟩), c_behind.bd, c_behind.kp⟩
    · exact ⟨_, _, c_later.ok.imp (fun vs H Q E ⟨a, b, ns, ms, e, ta, tb, g, g2, hlt, kx⟩ => ⟨a, b, ns, ms, e, ta, tb, g, g2, fun z => by omega, fun _ => kx⟩), c_later.bd, c_later.kp⟩
    · exact ⟨_, _, c_sooner.ok.imp (fun vs H Q E ⟨a, b, ns, ms, e, ta, tb, g, g2, hlt, kx⟩ => ⟨a, b, ns, ms, e, ta, tb, g, g2, fun z => by omega, fun _ => kx⟩), c_sooner.bd, c_sooner.kp⟩
    · exact ⟨_, _, c_first_above.ok.imp (fun vs H Q E ⟨a, b, ns, ms, e, ta, tb, g, g2, hlt, kx⟩ => ⟨a, b, ns, ms, e, ta, tb, g, g2, fun z => by omega, fun _ => kx⟩), c_first_above.bd, c_first_above.kp⟩
    · exact ⟨_, _, c_most_above.ok.imp (fun vs H Q E ⟨a, b, ns, ms, e, ta, tb, g, g2, hlt, kx⟩ => ⟨a, b, ns, ms, e, ta, tb, g, g2, fun z => by omega, fun _ => kx⟩), c_most_above.bd, c_most_above.kp⟩
    · exact ⟨_, _, c_first_parting.ok.imp (fun vs H Q E ⟨a, b, ns, ms, e, ta, tb, g, g2, hlt, kx⟩ => ⟨a, b, ns, ms, e, ta, tb, g, g2, fun z => by omega, fun _ => kx⟩), c_first_parting.bd, c_first_parting.kp⟩
  refine F.ok sc__law_refusal (fun vs H Q E h => ?_) (fun cdv A outer s H vs Q E hr h => ?_)
  · obtain ⟨B, f, a, b, ns, ms, rfl, _⟩ := h
    rfl
  · obtain ⟨B, g0, a, b, ns, ms, rfl, hf, ta, tb, g, g2, hlt, k⟩ := h
    refine ⟨_, (pss_cons (ps_try_as (i := 3) rfl rfl sc__law_refusal.nd rfl rfl ⟨rfl, by decide, .inl T.mg_TooMany⟩ takes0 (fun W pn xe tk _ => (pss_one (ps_expr (pe_callV FS (pv 0) (hr.mono (by decide)) (fun σ => passAt tk σ) (pa_cons (pv 1) (pa_cons (pv 2) pa_nil)))))) (fun a oe cls d pn hz hf => (pss_one (ps_ret (pe_lst (pa_cons (pe_xf T.xf T.no_what hz hf (pv 3)) (pa_cons (pe_xf T.xf T.no_limit hz hf (pv 3)) pa_nil))))))) (pss_one (ps_ret pe_str))), ?_⟩
    refine ⟨.ref g0, rfl, g0, rfl, hf, .ref a, rfl, .ref b, rfl, a, b, ns, ms, rfl, ta, tb, g, g2, hlt, fun d H2 e2 hd => ?_⟩
    refine ⟨true, T.te, fun _ a' ha' => ?_, fun q => nomatch q⟩
    refine ⟨_, rfl, rfl, rfl, d, _, _, rfl, hd, rfl, _, rfl, rfl, rfl, d, _, _, rfl, hd, rfl, by show 2 ≤ sizeLine; decide, fun p hp => ?_⟩
    exact k (.ref p) _ (e2.trans (Ex.new hp)) (.lst (sq_of (sep_in upd_same (.inl (fresh_back e2 hp)))) (.cons (.str _) (.cons (.int _) .nil)))
end
section
variable {σ : L2.St} {H : Hp} {C : Addr} {sp : Sp} {E : XK} {tA : TA} {te : TE} {Q : VK} {i : Nat} {tt : TT} {tu : TS} {D : Ends} {tz : TS}
theorem mk_k (h : tA σ H fun vs H1 => tMake C sp [] E (fun _ H' Q' => Q' vs H') σ H1 Q) : tMake C sp [] E tA σ H Q := h
end
section
variable {P : Program} {w : World} {K : PySem.W.Frag} {mg : Str → Option Value} {base : Heap} {C CT fT : Addr}
theorem ok_longR {f f1 f2 f3 f4 f5 f6 f7 g1 g2 g3 g4 g5 g6 : Addr} {fd fd1 fd2 fd3 fd4 fd5 fd6 fd7 gd1 gd2 gd3 gd4 gd5 gd6 : FuncData} (F : Fun K "_law_long_right" "_law_long_right" s__law_long_right f fd) (T : Txt K mg C CT fT) (mkI : Mk K C f4)
    (c__law_days : Cal P w K mg base "_law_days" f1 fd1 ["_law_pot_here", "_law_length", "_law_first"] 3 sp_ldays) (c__law_draw : Cal P w K mg base "_law_draw" f2 fd2 ["_law_pot_here", "_law_size"] 1 sp_draw) (c__law_pick : Cal P w K mg base "_law_pick" f3 fd3 ["_law_pot_here", "_law_some"] 2 (sp_pick K)) (m_init : Ini P w K mg base C f4 fd4)
    (c__law_joined_right : CalG P w K mg base "_law_joined_right" f5 fd5 ["_law_table", "_law_days_here", "_law_other_table", "_law_others"] 7 (sp_pair K C)) (c__law_held_right : CalG P w K mg base "_law_held_right" f6 fd6 ["_law_table", "_law_days_here", "_law_other_table", "_law_others"] 7 (sp_pair K C)) (c__law_refusal : Cal P w K mg base "_law_refusal" f7 fd7 ["_law_deed", "_law_table", "_law_other_table"] 8 (sp_refusal K C [g1, g2, g3, g4, g5, g6]))
    (c_behind : CalX P w K mg base "behind" g1 gd1 ["table", "other_table"] 6 (sp_joined K C CT mBe)) (c_later : CalX P w K mg base "later" g2 gd2 ["table", "other_table"] 6 (sp_joined K C CT mLa)) (c_sooner : CalX P w K mg base "sooner" g3 gd3 ["table", "other_table"] 6 (sp_joined K C CT mSo))
    (c_first_above : CalX P w K mg base "first_above" g4 gd4 ["table", "other_table"] 6 (sp_first K C CT mAb)) (c_most_above : CalX P w K mg base "most_above" g5 gd5 ["table", "other_table"] 6 (sp_most K C CT)) (c_first_parting : CalX P w K mg base "first_parting" g6 gd6 ["table", "other_table"] 6 (sp_first K C CT mPa)) :
    FnG P w K mg base CX0 9 f fd ["_law_pot_here"] sp_long := by
  refine okG F sc__law_long_right (fun vs H Q E h => ?_) (fun cdv A outer s H vs Q E hg hr h => ?_)
  · obtain ⟨p, rfl, _⟩ := h
    rfl
  · obtain ⟨p, rfl, hp, k⟩ := h
    have hu := hr.units
    refine ⟨_, (pss_cons (ps_par (i := 1) (j := 2) (by rfl) sc__law_long_right.nd rfl rfl (by decide) rfl rfl (pa_cons (pe_call c__law_days.ok (hr.mono (by decide)) (by rfl) c__law_days.mgx c__law_days.kp c__law_days.bd .nil pass0 (pa_cons (pv 0) (pa_cons pe_int (pa_cons (pe_op op_sub (pe_call c__law_draw.ok (hr.mono (by decide)) (by rfl) c__law_draw.mgx c__law_draw.kp c__law_draw.bd .nil pass0 (pa_cons (pv 0) (pa_cons pe_int pa_nil))) pe_int) pa_nil)))) (pa_cons (pe_call c__law_days.ok (hr.mono (by decide)) (by rfl) c__law_days.mgx c__law_days.kp c__law_days.bd .nil pass0 (pa_cons (pv 0) (pa_cons pe_int (pa_cons (pe_op op_sub (pe_call c__law_draw.ok (hr.mono (by decide)) (by rfl) c__law_draw.mgx c__law_draw.kp c__law_draw.bd .nil pass0 (pa_cons (pv 0) (pa_cons pe_int pa_nil))) pe_int) pa_nil)))) pa_nil)) (by rfl)) (pss_cons (ps_asg (pe_tup (pa_cons (pe_make mkI m_init.ok (hr.mono (by decide)) (by rfl) T.mg_Table m_init.bd .nil pass0 (pa_cons (pv 1) pa_nil)) (pa_cons (pe_make mkI m_init.ok (hr.mono (by decide)) (by rfl) T.mg_Table m_init.bd .nil pass0 (pa_cons (pv 2) pa_nil)) pa_nil))) (pg_tup (by rfl) (pgs_cons (pg_name (i := 3) sc__law_long_right.nd rfl (Or.inl rfl)) (pgs_cons (pg_name (i := 4) sc__law_long_right.nd rfl (Or.inr rfl)) pgs_nil)))) (pss_cons (ps_if (PW.pt (pw_or (pt_not (pt_val (pe_callG c__law_joined_right.ok hg (hr.mono (by decide)) (by rfl) c__law_joined_right.mgx c__law_joined_right.kp c__law_joined_right.bd .nil pass0 (pa_cons (pv 3) (pa_cons (pv 1) (pa_cons (pv 4) (pa_cons (pv 2) pa_nil))))))) (pw_or1 (pt_not (pt_val (pe_callG c__law_held_right.ok hg (hr.mono (by decide)) (by rfl) c__law_held_right.mgx c__law_held_right.kp c__law_held_right.bd .nil pass0 (pa_cons (pv 4) (pa_cons (pv 2) (pa_cons (pv 3) (pa_cons (pv 1) pa_nil)))))))))) (pss_one (ps_ret pe_bl)) pss_nil) (pss_cons (ps_set (i := 5) sc__law_long_right.nd rfl (Or.inr rfl) (pe_make mkI m_init.ok (hr.mono (by decide)) (by rfl) T.mg_Table m_init.bd .nil pass0 (pa_cons (pe_call c__law_days.ok (hr.mono (by decide)) (by rfl) c__law_days.mgx c__law_days.kp c__law_days.bd .nil pass0 (pa_cons (pv 0) (pa_cons (pe_call c__law_pick.ok (hr.mono (by decide)) (by rfl) c__law_pick.mgx c__law_pick.kp c__law_pick.bd .nil pass0 (pa_cons (pv 0) (pa_cons (pe_lst (pa_cons pe_int (pa_cons (pe_op op_sub pe_int pe_int) (pa_cons pe_int pa_nil)))) pa_nil))) (pa_cons pe_int pa_nil)))) pa_nil))) (pss_cons (ps_set (i := 6) sc__law_long_right.nd rfl (Or.inl rfl) (pe_lst (pa_cons (pe_glob (v := .ref _) rfl c_behind.mgx rfl) (pa_cons (pe_glob (v := .ref _) rfl c_later.mgx rfl) (pa_cons (pe_glob (v := .ref _) rfl c_sooner.mgx rfl) (pa_cons (pe_glob (v := .ref _) rfl c_first_above.mgx rfl) (pa_cons (pe_glob (v := .ref _) rfl c_most_above.mgx rfl) (pa_cons (pe_glob (v := .ref _) rfl c_first_parting.mgx rfl) pa_nil)))))))) (pss_one (ps_ret (pe_cmpR (eqD (K := K) rfl hr.units) (pe_lc (own := [("_law_deed", 7)]) (g := (gName 7)) (by rfl) sc__law_long_right.nd (piL (K := K) rfl (pv 6)) (blkOk_by (own := [("_law_deed", 7)]) (N := ["_law_pot_here", "_law_days_here", "_law_others", "_law_long", "_law_wide", "_law_other", "_law_deeds", "_law_deed"]) (sc := defScope s__law_long_right) (by decide +kernel)) (fun _ _ _ _ _ => (pg_name (i := 7) sc__law_long_right.nd rfl (Or.inl rfl))) (fun _ _ _ _ _ => pts_nil) (fun _ _ _ _ _ => (pe_call c__law_refusal.ok (hr.mono (by decide)) (by rfl) c__law_refusal.mgx c__law_refusal.kp c__law_refusal.bd .nil pass0 (pa_cons (pv 7) (pa_cons (pv 4) (pa_cons (pv 5) pa_nil)))))) (pe_op op_rep (pe_lst (pa_cons (pe_lst (pa_cons pe_str (pa_cons pe_int pa_nil))) pa_nil)) pe_int) (nomark _))))))))), ?_⟩
    refine par2_k (ac_k (call_k (ac_v (ev_var rfl) fun H1 e1 => ac_v (ev_c (v := .int 24)) fun H2 e2 => ac_k (op_k (drawC (n := 30) ((hp.mono e1).mono e2) rfl ev_c (by decide) (by decide) fun d H3 d0 d1 e3 hp3 => v_k (ev_c (v := .int 15)) fun H4 e4 => rv_I0 H4 (Ex.refl _) _ fun H5 e5 => ac_nil ⟨p, 24, d - 15, rfl, (hp3.mono e4).mono e5, by decide, by decide, fun l ns H6 hl1 gA hf1 hb1 hnl e6 hl hp6 => ?_⟩)))))
    have eA : Ex (wo H p) H6 := ((((wo_sub (wo_ex.trans (e1.trans e2))).trans e3).trans e4).trans e5 |> wo_sub).trans e6
    have hlp : l ≠ p := by obtain ⟨o, ho⟩ := ((hp3.mono e4).mono e5).some; exact (ne_of_none ho hnl).symm
    have bA : Bd ns := bd_of fun i hi => by have := hb1 i (by omega); omega
    clear hb1 hf1 hnl e1 e2 e3 e4 e5 e6 hp3
    refine ac_k (call_k (ac_v (ev_var rfl) fun H7 e7 => ac_v (ev_c (v := .int 25)) fun H8 e8 => ac_k (op_k (drawC (n := 30) ((hp6.mono e7).mono e8) rfl ev_c (by decide) (by decide) fun d' H9 d0' d1' e9 hp9 => v_k (ev_c (v := .int 15)) fun H10 e10 => rv_I0 H10 (Ex.refl _) _ fun H11 e11 => ac_nil ⟨p, 25, d' - 15, rfl, (hp9.mono e10).mono e11, by decide, by decide, fun m ms H12 hm1 gB hf2 hb2 hnm e12 hm hp12 => ac_nil ⟨_, _, rfl, ?_⟩⟩))))
    have eB : Ex (wo H6 p) H12 := ((((wo_sub (wo_ex.trans (e7.trans e8))).trans e9).trans e10).trans e11 |> wo_sub).trans e12
    have hmp : m ≠ p := by obtain ⟨o, ho⟩ := ((hp9.mono e10).mono e11).some; exact (ne_of_none ho hnm).symm
    have bB : Bd ms := bd_of fun i hi => by have := hb2 i (by omega); omega
    have hl12 : H12 l = some (.lst (ns.map V.int)) := eB l _ (by rw [wo_ne hlp]; exact hl)
    have eC := (wo_sub eA).trans eB
    clear hb2 hf2 hnm e7 e8 e9 e10 e11 e12 hp9 hp6 hl eA eB
    refine asgG_k (tup_k (ac_m (evm_make (ev_var rfl) hl12 gA) fun x H13 hx e13 t1 => ac_m (evm_make (ev_var rfl) (e13 m _ hm) gB) fun y H14 hy e14 t2 => ac_nil ⟨by show 2 ≤ sizeLine; decide, fun tp htp => ⟨tp, _, rfl, st_of upd_same, rfl, _, _, rfl, _, _, rfl, rfl, ?_⟩⟩))
    have etp := Ex.new (o := .tup [.ref x, .ref y]) htp
    have w1 : Tw C _ p x ns := ((Tw.of hp12 hx t1).ex e14).ex etp
    have w2 : Tw C _ p y ms := (Tw.of (hp12.mono e13) hy t2).ex etp
    have e1215 := (e13.trans e14).trans etp
    have hp15 := hp12.mono e1215
    generalize upd H14 tp (.tup [.ref x, .ref y]) = H15 at w1 w2 e1215 hp15 ⊢
    have hlc : lcm2 ns ms = 600 := by unfold lcm2; rw [hl1, hm1]; decide
    have hlc' : lcm2 ms ns = 600 := by unfold lcm2; rw [hl1, hm1]; decide
    have pr : Pair K C H15 x l y m ns ms := ⟨w1.tab, w2.tab, e1215 l _ hl12, e1215 m _ hm, gA, gB, bA, bB, by omega⟩
    have pr2 : Pair K C H15 y m x l ms ns := ⟨w2.tab, w1.tab, e1215 m _ hm, e1215 l _ hl12, gB, gA, bB, bA, by omega⟩
    have eD := eC.trans e1215
    clear etp htp t1 t2 hx hy e13 e14 e1215 hp12 hl12 hm eC
    refine q_when (b := false) (et_or (a := false) (b := false) (et_not (a := true) (et_B (ev_call (ea_cons (ev_var rfl) (ea_cons (ev_var rfl) (ea_cons (ev_var rfl) (ea_cons (ev_var rfl) ea_nil)))) (spv_pair pr)))) fun _ => et_not (a := true) (et_B (ev_call (ea_cons (ev_var rfl) (ea_cons (ev_var rfl) (ea_cons (ev_var rfl) (ea_cons (ev_var rfl) ea_nil)))) (spv_pair pr2)))) (fun q => nomatch q) fun _ H16 e16 => ?_
    have w2' := w2.ex e16
    have hp16 := hp15.mono e16
    refine asg_k (mk_k (ac_k (call_k (ac_v (ev_var rfl) fun H17 e17 => ac_k (pickC (xs := ([26, 599, 49] : List Int).map V.int) (hp16.mono e17) rfl (ea_cons ev_c (ea_cons (ev_op ev_c ev_c rv_I0) (ea_cons ev_c ea_nil))) (by show 0 < 3; decide) (by show 3 ≤ 1000; decide) fun j v H18 hj e18 hp18 => ac_v (ev_c (v := .int 0)) fun H19 e19 => ac_nil ?_)))))
    obtain ⟨n, hn1, hn2, hn3, rfl⟩ : ∃ n : Nat, 1 ≤ n ∧ n ≤ 600 ∧ 600 < Nat.lcm 25 n ∧ v = .int (n : Int) := by
      rw [List.getElem?_map] at hj
      obtain ⟨c, hc, rfl⟩ := Option.map_eq_some_iff.mp hj
      have hm := List.mem_of_getElem? hc
      simp only [List.mem_cons, List.mem_nil_iff, or_false] at hm
      rcases hm with rfl | rfl | rfl
      · exact ⟨26, by decide, by decide, by decide, rfl⟩
      · exact ⟨599, by decide, by decide, by decide +kernel, rfl⟩
      · exact ⟨49, by decide, by decide, by decide, rfl⟩
    have w219 := ((w2'.ex e17).exw e18).ex e19
    refine ⟨p, n, 0, rfl, hp18.mono e19, hn1, hn2, fun q qs H20 hq1 gC _ _ hnq e20 hq hp20 => ac_nil (make_tab (ta := tC (.ref q)) ev_c (.inl hq) gC fun z l' dz H21 hz hl' e21 hz1 hz2 => ?_)⟩
    have w221 := (w219.exw e20).ex e21
    have w3 : Tw C H21 p z qs := Tw.of hp20 hz ⟨dz, l', hl', hz1, hz2⟩
    have eE : Ex (wo H p) H21 := ((wo_sub ((wo_sub (eD.trans (e16.trans e17))).trans (e18.trans e19))).trans e20).trans e21
    have hp21 := hp20.mono e21
    refine q_asgL (xs := [.ref g1, .ref g2, .ref g3, .ref g4, .ref g5, .ref g6]) (el_lst (ea_cons ev_c (ea_cons ev_c (ea_cons ev_c (ea_cons ev_c (ea_cons ev_c (ea_cons ev_c ea_nil)))))) (by show 6 ≤ 100000; decide)) fun r H22 hr22 e22 hrl => ?_
    have hlt : 600 < lcm2 ms qs := by unfold lcm2; rw [hm1, hq1]; exact hn3
    have t2' := (w221.ex e22).tab (K := K)
    have t3' := (w3.ex e22).tab (K := K)
    have one : ∀ f, f ∈ [g1, g2, g3, g4, g5, g6] → SpN K H22 (sp_refusal K C [g1, g2, g3, g4, g5, g6]) ([.ref f, .ref y, .ref z] ++ []) H22 refD := fun f hf => spn_refusal hf t2' t3' gB gC hlt
    refine s_ret (ev_is (evd_eqD (d := .list [refD, refD, refD, refD, refD, refD]) (EvN.evd (B := H22) (evn_lcL (ds := [refD, refD, refD, refD, refD, refD]) (Ex.refl _) (ev_var rfl) (sq_of hrl) (by show 6 ≤ 40000; decide) (fun _ => rfl) rfl fun i x d hx hd => ?_)) (evd_rep (k := 6) (ds := [refD]) (evad_cons (evd_lst (evad_cons (evd_v ev_c fun _ _ => .str _) (evad_cons (evd_int ev_c) evad_nil)) (by show 2 ≤ 100000; decide)) evad_nil) (by show 1 ≤ 1000; decide) (by decide) ev_c) (by decide +kernel) (by decide +kernel)) (congrArg V.bl (by decide +kernel))) fun H23 e23 => k H23 ((eE.trans e22).trans e23) ((hp21.mono e22).mono e23)
    match i, hx, hd with
    | 0, hx, hd => cases hx; cases hd; exact evn_call (ea_cons (ev_var rfl) (ea_cons (ev_var rfl) (ea_cons (ev_var rfl) ea_nil))) (one _ (by simp))
    | 1, hx, hd => cases hx; cases hd; exact evn_call (ea_cons (ev_var rfl) (ea_cons (ev_var rfl) (ea_cons (ev_var rfl) ea_nil))) (one _ (by simp))
    | 2, hx, hd => cases hx; cases hd; exact evn_call (ea_cons (ev_var rfl) (ea_cons (ev_var rfl) (ea_cons (ev_var rfl) ea_nil))) (one _ (by simp))
    | 3, hx, hd => cases hx; cases hd; exact evn_call (ea_cons (ev_var rfl) (ea_cons (ev_var rfl) (ea_cons (ev_var rfl) ea_nil))) (one _ (by simp))
    | 4, hx, hd => cases hx; cases hd; exact evn_call (ea_cons (ev_var rfl) (ea_cons (ev_var rfl) (ea_cons (ev_var rfl) ea_nil))) (one _ (by simp))
    | 5, hx, hd => cases hx; cases hd; exact evn_call (ea_cons (ev_var rfl) (ea_cons (ev_var rfl) (ea_cons (ev_var rfl) ea_nil))) (one _ (by simp))
    | i + 6, hx, _ => simp at hx
end
end K13
end
section
set_option maxHeartbeats 4000000
namespace K13
open PySem L2 Evl G TM
/-- days near by -/
def Nb (ns : List Int) : Prop := ∀ n, n ∈ ns → -2000 ≤ n ∧ n ≤ 2000
theorem Nb.bd {ns : List Int} (h : Nb ns) : Bd ns := fun n hn => by have := h n hn; omega
theorem nb_of {ns : List Int} (h : ∀ i, i < ns.length → -2000 ≤ ns.getD i 0 ∧ ns.getD i 0 ≤ 2000) : Nb ns := fun n hn => by
  obtain ⟨i, hi, rfl⟩ := List.mem_iff_getElem.mp hn
  have := h i hi
  rw [List.getD_eq_getElem?_getD, List.getElem?_eq_getElem hi] at this
  exact this
theorem nb_get {ns : List Int} (b : Nb ns) {i : Nat} (hi : i < ns.length) : -2000 ≤ ns.getD i 0 ∧ ns.getD i 0 ≤ 2000 := b _ (by rw [List.getD_eq_getElem?_getD, List.getElem?_eq_getElem hi]; exact List.getElem_mem hi)
theorem lcm_small {n m k : Nat} (h1 : n ≤ 12) (h2 : m ≤ 24) (hn : 1 ≤ n) (hm : 1 ≤ m) : Nat.lcm n m ≤ 600 := by
  have a := Nat.le_of_dvd (Nat.mul_pos hn hm) (Nat.lcm_dvd (Nat.dvd_mul_right n m) (Nat.dvd_mul_left m n))
  have b : n * m ≤ 12 * 24 := Nat.mul_le_mul h1 h2
  omega
/-- the same rule, a day later from a place on -/
def risL (ns : List Int) (p : Int) : List Int := (List.range ns.length).map fun (i : Nat) => if (i : Int) ≥ p then ns.getD i 0 + 1 else ns.getD i 0
theorem ris_len {ns : List Int} {p : Int} : (risL ns p).length = ns.length := by unfold risL; rw [List.length_map, List.length_range]
theorem ris_at {ns : List Int} {p : Int} {i : Nat} (h : i < ns.length) : (risL ns p).getD i 0 = if (i : Int) ≥ p then ns.getD i 0 + 1 else ns.getD i 0 := by
  unfold risL
  rw [List.getD_eq_getElem?_getD, List.getElem?_map, List.getElem?_range h] <;> rfl
theorem ris_good {ns : List Int} (g : Good ns) {p : Int} (h : (risL ns p).getD ((risL ns p).length - 1) 0 ≤ (risL ns p).getD 0 0 + (ns.length : Int)) : Good (risL ns p) := by
  refine ⟨by rw [ris_len]; exact g.pos, by rw [ris_len]; exact g.most, fun i j hij hj => ?_, by rw [ris_len] at h ⊢; omega⟩
  rw [ris_len] at hj
  rw [ris_at hj, ris_at (by omega)]
  have := g.up i j hij hj
  split <;> split <;> omega
theorem ris_nb {ns : List Int} {p : Int} (b : ∀ i, i < ns.length → -1000 ≤ ns.getD i 0 ∧ ns.getD i 0 ≤ 1000) : Nb (risL ns p) := nb_of fun i hi => by
  rw [ris_len] at hi
  rw [ris_at hi]
  have := b i hi
  split <;> omega
theorem sh_told {ns ms : List Int} (b1 : Nb ns) (b2 : Nb ms) (h1 : ns.length ≤ 600) (h2 : ms.length ≤ 600) : PyData.showable (.list [toldD ns ns.length, toldD ms ms.length]) = true ∧ PyData.depth (.list [toldD ns ns.length, toldD ms ms.length]) ≤ 60 ∧ (PyData.shown (.list [toldD ns ns.length, toldD ms ms.length])).length ≤ sizeLine := by
  obtain ⟨a1, a2, a3⟩ := told_fit (L := ns.length) (smallAll_ints b1.bd) h1 h1
  obtain ⟨c1, c2, c3⟩ := told_fit (L := ms.length) (smallAll_ints b2.bd) h2 h2
  have hs : smallD (.list [toldD ns ns.length, toldD ms ms.length]) = true := by simp only [smallD, smallAll, a1, c1, Bool.and_self]
  refine ⟨small_show hs, ?_, Nat.le_trans (small_len hs) ?_⟩
  · simp only [PyData.depth, PyData.depthAll]
    omega
  · simp only [bnd, bndAll]
    have : sizeLine = 16777216 := by decide
    omega
theorem spv_back {K : PySem.W.Frag} {C a b : Addr} {H : Hp} {ns ms : List Int} (t1 : Tab K C H a ns) (t2 : Tab K C H b ms) (g : Good ns) (g2 : Good ms) (hl : lcm2 ns ms ≤ 600) : SpV (sp_back K C) ([.ref a, .ref b] ++ []) H (.bl true) := fun H1 e Q q E => ⟨a, b, ns, ms, rfl, t1.mono e, t2.mono e, g, g2, hl, q⟩
section
variable {P : Program} {w : World} {K : PySem.W.Frag} {mg : Str → Option Value} {base : Heap} {C CT fT : Addr}
theorem ok_right {f f1 f2 f3 f4 f5 f6 f7 f8 f9 f10 : Addr} {fd fd1 fd2 fd3 fd4 fd5 fd6 fd7 fd8 fd9 fd10 : FuncData} (F : Fun K "_law_right" "_law_right" s__law_right f fd) (T : Txt K mg C CT fT) (mkI : Mk K C f4)
    (c__law_days : Cal P w K mg base "_law_days" f1 fd1 ["_law_pot_here", "_law_length", "_law_first"] 3 sp_ldays) (c__law_draw : Cal P w K mg base "_law_draw" f2 fd2 ["_law_pot_here", "_law_size"] 1 sp_draw) (c__law_pick : Cal P w K mg base "_law_pick" f3 fd3 ["_law_pot_here", "_law_some"] 2 (sp_pick K)) (m_init : Ini P w K mg base C f4 fd4)
    (c__law_joined_right : CalG P w K mg base "_law_joined_right" f5 fd5 ["_law_table", "_law_days_here", "_law_other_table", "_law_others"] 7 (sp_pair K C)) (c__law_held_right : CalG P w K mg base "_law_held_right" f6 fd6 ["_law_table", "_law_days_here", "_law_other_table", "_law_others"] 7 (sp_pair K C)) (c__law_back_right : Cal P w K mg base "_law_back_right" f7 fd7 ["_law_table", "_law_other_table"] 7 (sp_back K C))
    (c__law_long_right : CalG P w K mg base "_law_long_right" f8 fd8 ["_law_pot_here"] 9 sp_long) (c__law_told : Cal P w K mg base "_law_told" f9 fd9 ["_law_table"] 3 (sp_told K C)) (c__law_on : Cal P w K mg base "_law_on" f10 fd10 ["_law_days_here", "_law_day"] 1 (sp_lon K)) :
    FnG P w K mg base CX0 10 f fd ["_law_pot_here"] sp_long := by
  refine okG F sc__law_right (fun vs H Q E h => ?_) (fun cdv A outer s H vs Q E hg hr h => ?_)
  · obtain ⟨p, rfl, _⟩ := h
    rfl
  · obtain ⟨p, rfl, hp, k⟩ := h
    have hu := hr.units
    refine ⟨_, (pss_cons (ps_par (i := 1) (j := 2) (by rfl) sc__law_right.nd rfl rfl (by decide) rfl rfl (pa_cons (pe_call c__law_pick.ok (hr.mono (by decide)) (by rfl) c__law_pick.mgx c__law_pick.kp c__law_pick.bd .nil pass0 (pa_cons (pv 0) (pa_cons (pe_lst (pa_cons pe_int (pa_cons pe_int (pa_cons pe_int (pa_cons pe_int (pa_cons pe_int (pa_cons pe_int (pa_cons pe_int (pa_cons pe_int (pa_cons pe_int pa_nil)))))))))) pa_nil))) (pa_cons (pe_op op_sub (pe_call c__law_draw.ok (hr.mono (by decide)) (by rfl) c__law_draw.mgx c__law_draw.kp c__law_draw.bd .nil pass0 (pa_cons (pv 0) (pa_cons pe_int pa_nil))) pe_int) pa_nil)) (by rfl)) (pss_cons (ps_set (i := 3) sc__law_right.nd rfl (Or.inr rfl) (pe_call c__law_days.ok (hr.mono (by decide)) (by rfl) c__law_days.mgx c__law_days.kp c__law_days.bd .nil pass0 (pa_cons (pv 0) (pa_cons (pv 1) (pa_cons (pv 2) pa_nil))))) (pss_cons (ps_set (i := 4) sc__law_right.nd rfl (Or.inl rfl) (pe_call c__law_draw.ok (hr.mono (by decide)) (by rfl) c__law_draw.mgx c__law_draw.kp c__law_draw.bd .nil pass0 (pa_cons (pv 0) (pa_cons pe_int pa_nil)))) (pss_cons (ps_set (i := 5) sc__law_right.nd rfl (Or.inl rfl) (pe_call c__law_days.ok (hr.mono (by decide)) (by rfl) c__law_days.mgx c__law_days.kp c__law_days.bd .nil pass0 (pa_cons (pv 0) (pa_cons (pe_call c__law_pick.ok (hr.mono (by decide)) (by rfl) c__law_pick.mgx c__law_pick.kp c__law_pick.bd .nil pass0 (pa_cons (pv 0) (pa_cons (pe_lst (pa_cons pe_int (pa_cons pe_int (pa_cons pe_int (pa_cons pe_int (pa_cons pe_int (pa_cons pe_int (pa_cons pe_int pa_nil)))))))) pa_nil))) (pa_cons (pe_op op_sub (pe_op op_add (pv 2) (pe_call c__law_draw.ok (hr.mono (by decide)) (by rfl) c__law_draw.mgx c__law_draw.kp c__law_draw.bd .nil pass0 (pa_cons (pv 0) (pa_cons pe_int pa_nil)))) pe_int) pa_nil))))) (pss_cut (ps_if (pt_cmpR op_eq (pv 4) pe_int (nomark _)) (pss_one (ps_setLc (i := 5) (own := [("_law_day", 10)]) (g := (gName 10)) (by rfl) sc__law_right.nd rfl rfl (sw_true rfl rfl rfl (by decide +kernel)) (pi_range1 (by rfl) T.b_range (pa_cons (pe_op op_mul pe_int (pv 1)) pa_nil)) (blkOk_by (own := [("_law_day", 10)]) (N := ["_law_pot_here", "_law_one", "_law_first", "_law_days_here", "_law_way", "_law_others", "_law_place", "_law_risen", "_law_table", "_law_other_table", "_law_day", "_law_at", "_law_served"]) (sc := defScope s__law_right) (by decide +kernel)) (fun _ _ _ _ _ => (pg_name (i := 10) sc__law_right.nd rfl (Or.inl rfl))) (fun _ _ _ _ _ => pts_nil) (fun _ _ _ _ _ => (pe_call c__law_on.ok (hr.mono (by decide)) (by rfl) c__law_on.mgx c__law_on.kp c__law_on.bd .nil pass0 (pa_cons (pv 3) (pa_cons (pv 10) pa_nil)))))) pss_nil) (pss_cut (ps_if (pt_cmpR op_eq (pv 4) pe_int (nomark _)) (pss_cons (ps_set (i := 6) sc__law_right.nd rfl (Or.inr rfl) (pe_call c__law_draw.ok (hr.mono (by decide)) (by rfl) c__law_draw.mgx c__law_draw.kp c__law_draw.bd .nil pass0 (pa_cons (pv 0) (pa_cons (pv 1) pa_nil)))) (pss_cons (ps_setLc (i := 7) (own := [("_law_at", 11), ("_law_served", 12)]) (g := (gTup K 2 (gCons (gName 11) (gCons (gName 12) gNil)))) (by rfl) sc__law_right.nd rfl rfl (sw_true rfl rfl rfl (by decide +kernel)) (pi_enum (by rfl) T.b_enumerate (pa_cons (pv 3) pa_nil)) (blkOk_by (own := [("_law_at", 11), ("_law_served", 12)]) (N := ["_law_pot_here", "_law_one", "_law_first", "_law_days_here", "_law_way", "_law_others", "_law_place", "_law_risen", "_law_table", "_law_other_table", "_law_day", "_law_at", "_law_served"]) (sc := defScope s__law_right) (by decide +kernel)) (fun _ _ _ _ _ => (pg_tup (by rfl) (pgs_cons (pg_name (i := 11) sc__law_right.nd rfl (Or.inl rfl)) (pgs_cons (pg_name (i := 12) sc__law_right.nd rfl (Or.inl rfl)) pgs_nil)))) (fun _ _ _ _ _ => pts_nil) (fun _ _ _ _ _ => (pe_ifExp (pt_cmpR op_ge (pv 11) (pv 6) (nomark _)) (pe_op op_add (pv 12) pe_int) (pv 12)))) (pss_one (ps_set (i := 5) sc__law_right.nd rfl (Or.inl rfl) (pe_ifExp (pt_cmpR op_le (pe_ix (ixL (K := K) rfl) (pv 7) (pe_un un_neg pe_int) (fun _ _ => rfl)) (pe_op op_add (pe_ix (ixL (K := K) rfl) (pv 7) pe_int (fun _ _ => rfl)) (pv 1)) (nomark _)) (pv 7) (pv 3)))))) pss_nil) (pss_cons (ps_par (i := 8) (j := 9) (by rfl) sc__law_right.nd rfl rfl (by decide) rfl rfl (pa_cons (pe_make mkI m_init.ok (hr.mono (by decide)) (by rfl) T.mg_Table m_init.bd .nil pass0 (pa_cons (pv 3) pa_nil)) (pa_cons (pe_make mkI m_init.ok (hr.mono (by decide)) (by rfl) T.mg_Table m_init.bd .nil pass0 (pa_cons (pv 5) pa_nil)) pa_nil)) (by rfl)) (pss_cons (ps_if (PW.pt (pw_or (pt_not (pt_val (pe_callG c__law_joined_right.ok hg (hr.mono (by decide)) (by rfl) c__law_joined_right.mgx c__law_joined_right.kp c__law_joined_right.bd .nil pass0 (pa_cons (pv 8) (pa_cons (pv 3) (pa_cons (pv 9) (pa_cons (pv 5) pa_nil))))))) (pw_or1 (pt_not (pt_val (pe_callG c__law_joined_right.ok hg (hr.mono (by decide)) (by rfl) c__law_joined_right.mgx c__law_joined_right.kp c__law_joined_right.bd .nil pass0 (pa_cons (pv 9) (pa_cons (pv 5) (pa_cons (pv 8) (pa_cons (pv 3) pa_nil)))))))))) (pss_one (ps_ret pe_bl)) pss_nil) (pss_cons (ps_if (PW.pt (pw_or (pt_not (pt_val (pe_callG c__law_held_right.ok hg (hr.mono (by decide)) (by rfl) c__law_held_right.mgx c__law_held_right.kp c__law_held_right.bd .nil pass0 (pa_cons (pv 8) (pa_cons (pv 3) (pa_cons (pv 9) (pa_cons (pv 5) pa_nil))))))) (pw_or1 (pt_not (pt_val (pe_callG c__law_held_right.ok hg (hr.mono (by decide)) (by rfl) c__law_held_right.mgx c__law_held_right.kp c__law_held_right.bd .nil pass0 (pa_cons (pv 9) (pa_cons (pv 5) (pa_cons (pv 8) (pa_cons (pv 3) pa_nil)))))))))) (pss_one (ps_ret pe_bl)) pss_nil) (pss_cons (ps_if (PW.pt (pw_or (pt_not (pt_val (pe_call c__law_back_right.ok (hr.mono (by decide)) (by rfl) c__law_back_right.mgx c__law_back_right.kp c__law_back_right.bd .nil pass0 (pa_cons (pv 8) (pa_cons (pv 9) pa_nil))))) (pw_or1 (pt_not (pt_val (pe_callG c__law_joined_right.ok hg (hr.mono (by decide)) (by rfl) c__law_joined_right.mgx c__law_joined_right.kp c__law_joined_right.bd .nil pass0 (pa_cons (pv 8) (pa_cons (pv 3) (pa_cons (pv 8) (pa_cons (pv 3) pa_nil)))))))))) (pss_one (ps_ret pe_bl)) pss_nil) (pss_cons (ps_if (PW.pt (pw_and (pt_cmpR op_eq (pe_call c__law_draw.ok (hr.mono (by decide)) (by rfl) c__law_draw.mgx c__law_draw.kp c__law_draw.bd .nil pass0 (pa_cons (pv 0) (pa_cons pe_int pa_nil))) pe_int (nomark _)) (pw_and1 (pt_not (pt_val (pe_callG c__law_long_right.ok hg (hr.mono (by decide)) (by rfl) c__law_long_right.mgx c__law_long_right.kp c__law_long_right.bd .nil pass0 (pa_cons (pv 0) pa_nil))))))) (pss_one (ps_ret pe_bl)) pss_nil) (pss_one (ps_ret (pe_cmpR op_eq (pe_callB (call_reprD hg hu) (by rfl) T.b_repr (by decide +kernel) (pa_cons (pe_lst (pa_cons (pe_call c__law_told.ok (hr.mono (by decide)) (by rfl) c__law_told.mgx c__law_told.kp c__law_told.bd .nil pass0 (pa_cons (pv 8) pa_nil)) (pa_cons (pe_call c__law_told.ok (hr.mono (by decide)) (by rfl) c__law_told.mgx c__law_told.kp c__law_told.bd .nil pass0 (pa_cons (pv 9) pa_nil)) pa_nil))) pa_nil)) (pe_callB (call_reprD hg hu) (by rfl) T.b_repr (by decide +kernel) (pa_cons (pe_lst (pa_cons (pe_lst (pa_cons pe_bl (pa_cons (pv 3) (pa_cons (pe_callB (lenS (K := K) rfl) (by rfl) T.b_len (by decide +kernel) (pa_cons (pv 3) pa_nil)) pa_nil)))) (pa_cons (pe_lst (pa_cons pe_bl (pa_cons (pv 5) (pa_cons (pe_callB (lenS (K := K) rfl) (by rfl) T.b_len (by decide +kernel) (pa_cons (pv 5) pa_nil)) pa_nil)))) pa_nil))) pa_nil)) (nomark _))))))))))))))), ?_⟩
    refine par2_k (ac_k (pickC (xs := ([1, 2, 3, 4, 5, 6, 7, 8, 12] : List Int).map V.int) hp rfl (ea_cons ev_c (ea_cons ev_c (ea_cons ev_c (ea_cons ev_c (ea_cons ev_c (ea_cons ev_c (ea_cons ev_c (ea_cons ev_c (ea_cons ev_c ea_nil))))))))) (by show 0 < 9; decide) (by show 9 ≤ 1000; decide) fun j v H1 hj e1 hp1 => ?_))
    obtain ⟨n, n1, n2, rfl⟩ : ∃ n : Nat, 1 ≤ n ∧ n ≤ 12 ∧ v = .int (n : Int) := by
      rw [List.getElem?_map] at hj
      obtain ⟨c, hc, rfl⟩ := Option.map_eq_some_iff.mp hj
      have hm := List.mem_of_getElem? hc
      simp only [List.mem_cons, List.mem_nil_iff, or_false] at hm
      exact ⟨c.toNat, by omega, by omega, congrArg V.int (by omega)⟩
    clear hj
    refine ac_k (op_k (drawC (n := 19) hp1 rfl ev_c (by decide) (by decide) fun d H2 d0 d1 e2 hp2 => v_k (ev_c (v := .int 9)) fun H3 e3 => rv_I0 H3 (Ex.refl _) _ fun H4 e4 => ac_nil ⟨_, _, rfl, ?_⟩))
    have hp4 := (hp2.mono e3).mono e4
    have eA : Ex (wo H p) H4 := (((wo_sub e1).trans e2).trans e3).trans e4
    clear e1 e2 e3 e4 hp1 hp2 hp
    refine asg_k (call_k (ac_v (ev_var rfl) fun H5 e5 => ac_v (ev_var rfl) fun H6 e6 => ac_v (ev_var rfl) fun H7 e7 => ac_nil ⟨p, n, d - 9, rfl, ((hp4.mono e5).mono e6).mono e7, n1, by omega, fun l ns H8 hlen gA hf hb hnl e8 hl hp8 => ?_⟩))
    have hlp : l ≠ p := by obtain ⟨o, ho⟩ := (((hp4.mono e5).mono e6).mono e7).some; exact (ne_of_none ho hnl).symm
    have b1 : ∀ i, i < ns.length → -1000 ≤ ns.getD i 0 ∧ ns.getD i 0 ≤ 1000 := fun i hi => by have := hb i (by omega); omega
    have nbA : Nb ns := nb_of fun i hi => by have := b1 i hi; omega
    have eB : Ex (wo H p) H8 := (wo_sub (eA.trans ((e5.trans e6).trans e7))).trans e8
    clear e5 e6 e7 e8 hb hnl hp4 eA
    refine asg_k (drawC (n := 4) hp8 rfl ev_c (by decide) (by decide) fun way H9 y0 y1 e9 hp9 => ?_)
    have hl9 : H9 l = some (.lst (ns.map V.int)) := e9 l _ (by rw [wo_ne hlp]; exact hl)
    have eC := (wo_sub eB).trans e9
    clear hl e9 eB hp8
    refine asg_k (call_k (ac_v (ev_var rfl) fun H10 e10 => ac_k (pickC (xs := ([1, 2, 3, 4, 6, 9, 10] : List Int).map V.int) (hp9.mono e10) rfl (ea_cons ev_c (ea_cons ev_c (ea_cons ev_c (ea_cons ev_c (ea_cons ev_c (ea_cons ev_c (ea_cons ev_c ea_nil))))))) (by show 0 < 7; decide) (by show 7 ≤ 1000; decide) fun j v H11 hj e11 hp11 => ?_)))
    obtain ⟨q, q1, q2, rfl⟩ : ∃ q : Nat, 1 ≤ q ∧ q ≤ 10 ∧ v = .int (q : Int) := by
      rw [List.getElem?_map] at hj
      obtain ⟨c, hc, rfl⟩ := Option.map_eq_some_iff.mp hj
      have hm := List.mem_of_getElem? hc
      simp only [List.mem_cons, List.mem_nil_iff, or_false] at hm
      exact ⟨c.toNat, by omega, by omega, congrArg V.int (by omega)⟩
    clear hj
    refine ac_k (op_k (op_k (v_k (ev_var rfl) fun H12 e12 => drawC (n := 9) (hp11.mono e12) rfl ev_c (by decide) (by decide) fun z H13 z0 z1 e13 hp13 => rv_I0 H13 (Ex.refl _) _ fun H14 e14 => v_k (ev_c (v := .int 4)) fun H15 e15 => rv_I0 H15 (Ex.refl _) _ fun H16 e16 => ac_nil ?_)))
    have hp16 := ((hp13.mono e14).mono e15).mono e16
    have eD : Ex (wo H9 p) H16 := ((((wo_sub ((wo_sub (wo_ex.trans e10)).trans (e11.trans e12))).trans e13).trans e14).trans e15).trans e16
    refine ⟨p, q, d - 9 + z - 4, rfl, hp16, q1, by omega, fun m ms H17 hmlen gB hf2 hb2 hnm e17 hm hp17 => ?_⟩
    have hmp : m ≠ p := by obtain ⟨o, ho⟩ := hp16.some; exact (ne_of_none ho hnm).symm
    have nbB : Nb ms := nb_of fun i hi => by have := hb2 i (by omega); omega
    have hl17 : H17 l = some (.lst (ns.map V.int)) := ((wo_sub eD).trans e17) l _ (by rw [wo_ne hlp]; exact hl9)
    have eE := (wo_sub eC).trans ((wo_sub eD).trans e17)
    have hs24 : ms.length ≤ 24 := by omega
    clear hb2 hf2 hnm e10 e11 e12 e13 e14 e15 e16 e17 hp9 hp11 hp13 hp16 eD eC hl9 hf hmlen q1 q2 z0 z1 d0 d1
    -- way 1
    refine q_cut (M := fun σ' H' => ∃ (m : Addr) (ms : List Int), σ' = [some (.ref p), some (.int (n : Int)), some (.int (d - 9)), some (.ref l), some (.int way), some (.ref m), none, none, none, none, none, none, none] ∧ m ≠ p ∧ H' m = some (.lst (ms.map V.int)) ∧ Good ms ∧ Nb ms ∧ ms.length ≤ 24 ∧ PotAt H' p ∧ Ex (wo H p) H' ∧ H' l = some (.lst (ns.map V.int))) ?_ ?_
    · refine s_when (et_test (ev_op (ev_var rfl) ev_c (rv_eq rfl))) (fun hb H18 e18 => ?_) fun hb H18 e18 => ⟨m, ms, rfl, hmp, e18 m _ hm, gB, nbB, hs24, hp17.mono e18, eE.trans e18, e18 l _ hl17⟩
      have hl18 := e18 l _ hl17
      have hp18 := hp17.mono e18
      obtain ⟨o18, ho18⟩ := hp18.some
      have r2 : Rule (2 * n) (onL ns) := ⟨by omega, by omega, onL_mono gA, per_dvd (onL_per gA) ⟨2, by rw [hlen, Nat.mul_comm]⟩⟩
      refine s_asgL (xs := (listF (2 * n) (onL ns)).map V.int) (el_is (el_lcR1 (n := ((2 * n : Nat) : Int)) (fun _ => true) (fun i => V.int (onL ns (i : Int))) (ea_cons (ev_is (ev_op ev_c (ev_var rfl) (rv_I (.inl ⟨by decide, by decide⟩))) (congrArg V.int (by omega))) ea_nil) (by omega) (fun _ => rfl) (fun _ _ _ _ => lc_yes) (fun i H19 e19 _ _ => ev_call (ea_cons (ev_var rfl) (ea_cons (ev_var rfl) ea_nil)) (spv_lon (sq_of (e19 l _ hl18)) gA))) (given_listF fun _ _ => rfl)) fun u H19 hu19 e19 hul => ?_
      exact ⟨u, _, rfl, (ne_of_none ho18 hu19).symm, hul, r2.good, nb_of fun i hi => by
        rw [listF_len] at hi
        rw [listF_at hi]
        obtain ⟨i', t, hi', ht⟩ := split_at gA (i : Int)
        rw [ht, on_at gA hi']
        have := b1 i' hi'
        rw [hlen] at ht ⊢
        have t1 : -1 ≤ t ∧ t ≤ 1 := by
          constructor
          · refine Classical.byContradiction fun c => ?_
            have : t * (n : Int) ≤ -2 * (n : Int) := Int.mul_le_mul_of_nonneg_right (by omega) (by omega)
            omega
          · refine Classical.byContradiction fun c => ?_
            have : 2 * (n : Int) ≤ t * (n : Int) := Int.mul_le_mul_of_nonneg_right (by omega) (by omega)
            omega
        have : -24 ≤ t * (n : Int) ∧ t * (n : Int) ≤ 24 := by
          have : t = -1 ∨ t = 0 ∨ t = 1 := by omega
          rcases this with rfl | rfl | rfl <;> omega
        omega, by rw [listF_len]; omega, hp18.mono e19, (eE.trans e18).trans e19, e19 l _ hl18⟩
    clear hm gB nbB hs24 hp17 eE hl17 hmp
    rintro σ' H18 ⟨m, ms, rfl, hmp, hm, gB, nbB, hs24, hp18, eE, hl18⟩
    -- way 2
    refine q_cut (M := fun σ' H' => ∃ (m : Addr) (ms : List Int) (o1 o2 : Option V), σ' = [some (.ref p), some (.int (n : Int)), some (.int (d - 9)), some (.ref l), some (.int way), some (.ref m), o1, o2, none, none, none, none, none] ∧ m ≠ p ∧ H' m = some (.lst (ms.map V.int)) ∧ Good ms ∧ Nb ms ∧ ms.length ≤ 24 ∧ PotAt H' p ∧ Ex (wo H p) H' ∧ H' l = some (.lst (ns.map V.int))) ?_ ?_
    · refine s_when (et_test (ev_op (ev_var rfl) ev_c (rv_eq rfl))) (fun hb H19 e19 => ?_) fun hb H19 e19 => ⟨m, ms, none, none, rfl, hmp, e19 m _ hm, gB, nbB, hs24, hp18.mono e19, eE.trans e19, e19 l _ hl18⟩
      refine asg_k (drawC (n := (n : Int)) (hp18.mono e19) rfl (ev_var rfl) (by omega) (by omega) fun pl H20 p0 p1 e20 hp20 => ?_)
      have hl20 : H20 l = some (.lst (ns.map V.int)) := e20 l _ (by rw [wo_ne hlp]; exact e19 l _ hl18)
      have eF := (wo_sub (eE.trans e19)).trans e20
      obtain ⟨o20, ho20⟩ := hp20.some
      refine q_asgL (xs := (risL ns pl).map V.int) (el_is (el_lcE (K := K) (fun _ => true) (fun i => V.int (if (i : Int) ≥ pl then ns.getD i 0 + 1 else ns.getD i 0)) (ev_var rfl) (sq_of hl20) (by rw [List.length_map]; omega) (fun _ _ => rfl) (fun _ _ _ _ _ => lc_yes) (fun i x H21 e21 hx _ => ?_)) ?_) fun u H21 hu21 e21 hul => ?_
      · have hi : i < ns.length := by have := (List.getElem?_eq_some_iff.mp hx).1; rw [List.length_map] at this; exact this
        have e6 : x = .int (ns.getD i 0) := by have := getI hi; rw [hx] at this; exact Option.some.inj this
        subst e6
        exact ev_is (ev_if2 (et_test (ev_op (ev_var rfl) (ev_var rfl) rv_I0)) (fun _ => ev_op (ev_var rfl) ev_c rv_I0) (fun _ => ev_var rfl)) (by by_cases c : (i : Int) ≥ pl <;> simp [c])
      · rw [List.length_map, given_all]
        unfold risL
        rw [List.map_map]
        rfl
      · have hpos := gA.pos
        have hup : u ≠ p := (ne_of_none ho20 hu21).symm
        have ge : Ev (tOp (rI0 fun i j => .bl (decide (i ≤ j))) (tOp (rIxL K) (tVar 7) (tUn (rU fun i => .int (-i)) (tC (.int 1)))) (tOp (rI0 fun i j => .int (i + j)) (tOp (rIxL K) (tVar 7) (tC (.int 0))) (tVar 1))) ([some (.ref p), some (.int (n : Int)), some (.int (d - 9)), some (.ref l), some (.int way), some (.ref m), some (.int pl), some (.ref u), none, none, none, none, none] : L2.St) H21 (.bl (decide ((risL ns pl).getD ((risL ns pl).length - 1) 0 ≤ (risL ns pl).getD 0 0 + (n : Int)))) :=
          ev_op (ev_op (ev_var rfl) (ev_un ev_c ru_neg) (rv_ixL (sq_of hul) (atI_m1 (by rw [ris_len]; exact hpos)))) (ev_op (ev_op (ev_var rfl) ev_c (rv_ixL (sq_of hul) (atI_int (by decide) (by rw [ris_len]; omega)))) (ev_var rfl) rv_I0) rv_I0
        refine s_asg (ev_if2 (x := .ref u) (y := .ref l) (et_test ge) (fun _ => ev_var rfl) (fun _ => ev_var rfl)) fun H22 e22 => ?_
        by_cases c : (risL ns pl).getD ((risL ns pl).length - 1) 0 ≤ (risL ns pl).getD 0 0 + (n : Int)
        · refine ⟨u, risL ns pl, some (.int pl), some (.ref u), ?_, hup, e22 u _ hul, ris_good gA (by rw [hlen]; exact c), ris_nb b1, by rw [ris_len]; omega, (hp20.mono e21).mono e22, (eF.trans e21).trans e22, (e21.trans e22) l _ hl20⟩
          rw [decide_eq_true c] <;> rfl
        · refine ⟨l, ns, some (.int pl), some (.ref u), ?_, hlp, (e21.trans e22) l _ hl20, gA, nbA, by omega, (hp20.mono e21).mono e22, (eF.trans e21).trans e22, (e21.trans e22) l _ hl20⟩
          rw [decide_eq_false c] <;> rfl
    clear hm gB nbB hs24 hp18 eE hl18 hmp
    rintro σ' H19 ⟨m, ms, o1, o2, rfl, hmp, hm, gB, nbB, hs24, hp19, eE, hl19⟩
    -- Tables
    refine par2_k (ac_m (evm_make (ev_var rfl) hl19 gA) fun x H20 hx e20 t1 => ac_m (evm_make (ev_var rfl) (e20 m _ hm) gB) fun y H21 hy e21 t2 => ac_nil ⟨_, _, rfl, ?_⟩)
    have w1 : Tw C H21 p x ns := (Tw.of hp19 hx t1).ex e21
    have w2 : Tw C H21 p y ms := Tw.of (hp19.mono e20) hy t2
    have e1921 := e20.trans e21
    have hp21 := hp19.mono e1921
    have hn12 : ns.length ≤ 12 := by omega
    have lc1 : lcm2 ns ms ≤ 600 := lcm_small (k := 0) hn12 hs24 gA.pos gB.pos
    have lc2 : lcm2 ms ns ≤ 600 := by unfold lcm2; rw [Nat.lcm_comm]; exact lc1
    have lc3 : lcm2 ns ns ≤ 600 := by unfold lcm2; rw [Nat.lcm_self]; omega
    have pr1 : Pair K C H21 x l y m ns ms := ⟨w1.tab, w2.tab, e1921 l _ hl19, e1921 m _ hm, gA, gB, nbA.bd, nbB.bd, lc1⟩
    have pr2 : Pair K C H21 y m x l ms ns := ⟨w2.tab, w1.tab, e1921 m _ hm, e1921 l _ hl19, gB, gA, nbB.bd, nbA.bd, lc2⟩
    have pr3 : Pair K C H21 x l x l ns ns := ⟨w1.tab, w1.tab, e1921 l _ hl19, e1921 l _ hl19, gA, gA, nbA.bd, nbA.bd, lc3⟩
    have eF := eE.trans e1921
    clear t1 t2 hx hy e20 e21 e1921 hp19 hl19 hm eE
    have v4 := fun (a b c d : V) (i j k l : Nat) (σ : L2.St) (H : Hp) (h1 : σ[i]? = some (some a)) (h2 : σ[j]? = some (some b)) (h3 : σ[k]? = some (some c)) (h4 : σ[l]? = some (some d)) => ea_cons (σ := σ) (H := H) (ev_var h1) (ea_cons (ev_var h2) (ea_cons (ev_var h3) (ea_cons (ev_var h4) ea_nil)))
    refine q_when (b := false) (et_or (a := false) (b := false) (et_not (a := true) (et_B (ev_call (v4 _ _ _ _ _ _ _ _ _ _ rfl rfl rfl rfl) (spv_pair pr1)))) fun _ => et_not (a := true) (et_B (ev_call (v4 _ _ _ _ _ _ _ _ _ _ rfl rfl rfl rfl) (spv_pair pr2)))) (fun q => nomatch q) fun _ H22 e22 => ?_
    refine q_when (b := false) (et_or (a := false) (b := false) (et_not (a := true) (et_B (ev_call (v4 _ _ _ _ _ _ _ _ _ _ rfl rfl rfl rfl) (spv_pair (pr1.mono e22))))) fun _ => et_not (a := true) (et_B (ev_call (v4 _ _ _ _ _ _ _ _ _ _ rfl rfl rfl rfl) (spv_pair (pr2.mono e22))))) (fun q => nomatch q) fun _ H23 e23 => ?_
    have e2123 := e22.trans e23
    refine q_when (b := false) (et_or (a := false) (b := false) (et_not (a := true) (et_B (ev_call (ea_cons (ev_var rfl) (ea_cons (ev_var rfl) ea_nil)) (spv_back (pr1.ta.mono e2123) (pr1.tb.mono e2123) gA gB lc1)))) fun _ => et_not (a := true) (et_B (ev_call (v4 _ _ _ _ _ _ _ _ _ _ rfl rfl rfl rfl) (spv_pair (pr3.mono e2123))))) (fun q => nomatch q) fun _ H24 e24 => ?_
    have e2124 := e2123.trans e24
    have hp24 := hp21.mono e2124
    have w1' := w1.ex e2124
    have w2' := w2.ex e2124
    have hl24 := e2124 l _ pr1.la
    have hm24 := e2124 m _ pr1.lb
    have eG := eF.trans e2124
    obtain ⟨z1, z2, z3⟩ := sh_told nbA nbB (by omega) (by omega)
    have fin : ∀ H25, Ex (wo H24 p) H25 → PotAt H25 p → tRet (tOp rEq (tCB (rRepr K) (tCons (tLst (tCons (tCall (sp_told K C) [] E0 (tCons (tVar 8) tNil)) (tCons (tCall (sp_told K C) [] E0 (tCons (tVar 9) tNil)) tNil))) tNil)) (tCB (rRepr K) (tCons (tLst (tCons (tLst (tCons (tC (.bl true)) (tCons (tVar 3) (tCons (tCB (rLenS K) (tCons (tVar 3) tNil)) tNil)))) (tCons (tLst (tCons (tC (.bl true)) (tCons (tVar 5) (tCons (tCB (rLenS K) (tCons (tVar 5) tNil)) tNil)))) tNil))) tNil))) { nx := fun _ H' => Q .non H', rt := Q } ([some (.ref p), some (.int (n : Int)), some (.int (d - 9)), some (.ref l), some (.int way), some (.ref m), o1, o2, some (.ref x), some (.ref y), none, none, none] : L2.St) H25 := fun H25 e25 hp25 => by
      have t1 := (w1'.exw e25).tab (K := K)
      have t2 := (w2'.exw e25).tab (K := K)
      have hl25 : H25 l = some (.lst (ns.map V.int)) := e25 l _ (by rw [wo_ne hlp]; exact hl24)
      have hm25 : H25 m = some (.lst (ms.map V.int)) := e25 m _ (by rw [wo_ne hmp]; exact hm24)
      have one : ∀ (i : Nat) (u : Addr) (us : List Int) (σ : L2.St), σ[i]? = some (some (.ref u)) → H25 u = some (.lst (us.map V.int)) → EvN K H25 (tLst (tCons (tC (.bl true)) (tCons (tVar i) (tCons (tCB (rLenS K) (tCons (tVar i) tNil)) tNil)))) σ H25 (toldD us us.length) := fun i u us σ hs hu => evn_lst (evan_cons (evn_bl ev_c) (evan_cons (evn_ref (Ex.refl _) (ev_var hs) (dp_ints (sq_of hu))) (evan_cons (evn_int (ev_cb (ea_cons (ev_var hs) ea_nil) (rc_len (.inl (sq_of hu)) (List.length_map ..)))) evan_nil))) (by show 3 ≤ 100000; decide)
      refine s_ret (ev_is (ev_op (ev_repr (EvN.evd (B := H25) (evn_lst (evan_cons (evn_call (ea_cons (ev_var rfl) ea_nil) (spn_told (Ex.refl _) t1 rfl)) (evan_cons (evn_call (ea_cons (ev_var rfl) ea_nil) (spn_told (Ex.refl _) t2 rfl)) evan_nil)) (by show 2 ≤ 100000; decide))) z1 z2 z3) (ev_repr (EvN.evd (B := H25) (evn_lst (evan_cons (one 3 l ns _ rfl hl25) (evan_cons (one 5 m ms _ rfl hm25) evan_nil)) (by show 2 ≤ 100000; decide))) z1 z2 z3) (rv_eq rfl)) (congrArg V.bl (decide_eq_true (show _ = _ from rfl)))) fun H26 e26 => k H26 (((wo_sub eG).trans e25).trans e26) (hp25.mono e26)
    refine and_k (test_k (op_k (drawC (n := 4) hp24 rfl ev_c (by decide) (by decide) fun c H25 c0 c1 e25 hp25 => v_k (ev_c (v := .int 0)) fun H26 e26 => rv_eq rfl H26 (Ex.refl _) _ fun H27 e27 => ⟨_, rfl, ?_⟩)))
    have e2427 := (e25.trans e26).trans e27
    have hp27 := (hp25.mono e26).mono e27
    split
    · refine ⟨.ref p, rfl, p, rfl, hp27, fun H28 e28 hp28 => ⟨true, rfl, ?_⟩⟩
      exact fin H28 ((wo_sub e2427).trans e28) hp28
    · exact fin H27 e2427 hp27
end
end K13
end
section
set_option maxHeartbeats 4000000
namespace K13
open PySem L2 Evl G TM
section
variable {P : Program} {w : World} {K : PySem.W.Frag} {mg : Str → Option Value} {base : Heap} {C CT fT : Addr}
theorem ok_law {f f1 f2 : Addr} {fd fd1 fd2 : FuncData} (F : Fun K "law" "law" s_law f fd) (T : Txt K mg C CT fT) (c__law_pot : Cal P w K mg base "_law_pot" f1 fd1 ["_law_script", "_law_k"] 1 (sp_pot K)) (c__law_right : CalG P w K mg base "_law_right" f2 fd2 ["_law_pot_here"] 10 sp_long) :
    FnG P w K mg base CX0 11 f fd ["_law_script"] (sp_law K) := by
  refine okG F sc_law (fun vs H Q E h => ?_) (fun cdv A outer s H vs Q E hg hr h => ?_)
  · obtain ⟨a, ns, rfl, _⟩ := h
    rfl
  · obtain ⟨a, ns, rfl, hs, hl, k⟩ := h
    have hu := hr.units
    have e0 : (ns.map V.int).length = ns.length := List.length_map ..
    refine ⟨_, (pss_one (ps_ret (pe_callB (allL (K := K) rfl rfl) (by rfl) T.b_all (by decide +kernel) (pa_cons (pe_lc (own := [("_law_k", 1)]) (g := (gName 1)) (by rfl) sc_law.nd (pi_range1 (by rfl) T.b_range (pa_cons (pe_callB (call_max2 rfl) (by rfl) T.b_max (by decide +kernel) (pa_cons pe_int (pa_cons (pe_callB (call_min2 rfl) (by rfl) T.b_min (by decide +kernel) (pa_cons pe_int (pa_cons (pe_callB (lenS (K := K) rfl) (by rfl) T.b_len (by decide +kernel) (pa_cons (pv 0) pa_nil)) pa_nil))) pa_nil))) pa_nil)) (blkOk_by (own := [("_law_k", 1)]) (N := ["_law_script", "_law_k"]) (sc := defScope s_law) (by decide +kernel)) (fun _ _ _ _ _ => (pg_name (i := 1) sc_law.nd rfl (Or.inl rfl))) (fun _ _ _ _ _ => pts_nil) (fun _ _ _ _ _ => (pe_callG c__law_right.ok hg (hr.mono (by decide)) (by rfl) c__law_right.mgx c__law_right.kp c__law_right.bd .nil pass0 (pa_cons (pe_call c__law_pot.ok (hr.mono (by decide)) (by rfl) c__law_pot.mgx c__law_pot.kp c__law_pot.bd .nil pass0 (pa_cons (pv 0) (pa_cons (pv 1) pa_nil))) pa_nil)))) pa_nil)))), ?_⟩
    refine s_ret (ev_allT (el_lcR1 (fun _ => true) (fun _ => V.bl true) (ea_cons (ev_cb (ea_cons ev_c (ea_cons (ev_cb (ea_cons ev_c (ea_cons (ev_cb (ea_cons (ev_var rfl) ea_nil) (rc_len (.inl hs) e0)) ea_nil)) rc_min2) ea_nil)) rc_max2) ea_nil) ?_ (fun _ => rfl) (fun _ _ _ _ => lc_yes) (fun i H1 e1 hi _ => ?_))) k
    · split <;> split <;> omega
    · refine fun Ha ea Qa qa => ⟨.ref a, rfl, .int (i : Int), rfl, a, ns, (i : Int), rfl, ex_l (e1.trans ea) hs, by omega, ?_, fun p H2 hp e2 pot => ⟨p, rfl, pot, fun H3 e3 hp3 => qa H3 ((ex_pot e2 hp).trans e3)⟩⟩
      split at hi <;> split at hi <;> omega
theorem all_mk {h : Heap} {fa : Addr} (X : K.In h) (G : h.Ns mainGlobals mg) (hmg : mg "law" = some (.ref fa))
    {C : Addr}
    {tq_MOST_LENGTH : Tok}
    {C_TooMany TooMany_o0 : Addr} {nm_TooMany q_TooMany : Str} {N_TooMany : Addr} {bs_TooMany sub_TooMany : List Value} {sn_TooMany : List Str} {ab_TooMany : Bool} {col_TooMany : Option Bool} {dd_TooMany : Option Addr} {m0_TooMany m1_TooMany m2_TooMany m3_TooMany m5_TooMany : Option Value}
    {f_TooMany___init__ : Addr} {od_TooMany___init__ an_TooMany___init__ : Option Addr} {sl_TooMany___init__ : Array (Option Value)} {oc_TooMany___init__ kV_TooMany___init__ dc_TooMany___init__ pm_TooMany___init__ cd_TooMany___init__ ct_TooMany___init__ : Value}
    {f_is_day : Addr} {od_is_day an_is_day : Option Addr} {sl_is_day : Array (Option Value)} {oc_is_day kV_is_day dc_is_day pm_is_day cd_is_day ct_is_day : Value}
    {f_need_day : Addr} {od_need_day an_need_day : Option Addr} {sl_need_day : Array (Option Value)} {oc_need_day kV_need_day dc_need_day pm_need_day cd_need_day ct_need_day : Value}
    {f_is_list : Addr} {od_is_list an_is_list : Option Addr} {sl_is_list : Array (Option Value)} {oc_is_list kV_is_list dc_is_list pm_is_list cd_is_list ct_is_list : Value}
    {f_is_table : Addr} {od_is_table an_is_table : Option Addr} {sl_is_table : Array (Option Value)} {oc_is_table kV_is_table dc_is_table pm_is_table cd_is_table ct_is_table : Value}
    {f__many_ahead : Addr} {od__many_ahead an__many_ahead : Option Addr} {sl__many_ahead : Array (Option Value)} {oc__many_ahead kV__many_ahead dc__many_ahead pm__many_ahead cd__many_ahead ct__many_ahead : Value}
    {f_Table___init__ : Addr} {od_Table___init__ an_Table___init__ : Option Addr} {sl_Table___init__ : Array (Option Value)} {oc_Table___init__ kV_Table___init__ dc_Table___init__ pm_Table___init__ cd_Table___init__ ct_Table___init__ : Value}
    {f_Table_length : Addr} {od_Table_length an_Table_length : Option Addr} {sl_Table_length : Array (Option Value)} {oc_Table_length kV_Table_length dc_Table_length pm_Table_length cd_Table_length ct_Table_length : Value}
    {p_Table_length : Addr} {rs_Table_length : List Value}
    {f_Table_days : Addr} {od_Table_days an_Table_days : Option Addr} {sl_Table_days : Array (Option Value)} {oc_Table_days kV_Table_days dc_Table_days pm_Table_days cd_Table_days ct_Table_days : Value}
    {f_Table_asked_rows : Addr} {od_Table_asked_rows an_Table_asked_rows : Option Addr} {sl_Table_asked_rows : Array (Option Value)} {oc_Table_asked_rows kV_Table_asked_rows dc_Table_asked_rows pm_Table_asked_rows cd_Table_asked_rows ct_Table_asked_rows : Value}
    {f_Table_on : Addr} {od_Table_on an_Table_on : Option Addr} {sl_Table_on : Array (Option Value)} {oc_Table_on kV_Table_on dc_Table_on pm_Table_on cd_Table_on ct_Table_on : Value}
    {f_Table_by : Addr} {od_Table_by an_Table_by : Option Addr} {sl_Table_by : Array (Option Value)} {oc_Table_by kV_Table_by dc_Table_by pm_Table_by cd_Table_by ct_Table_by : Value}
    {f_Table_til : Addr} {od_Table_til an_Table_til : Option Addr} {sl_Table_til : Array (Option Value)} {oc_Table_til kV_Table_til dc_Table_til pm_Table_til cd_Table_til ct_Table_til : Value}
    {f_Table___eq__ : Addr} {od_Table___eq__ an_Table___eq__ : Option Addr} {sl_Table___eq__ : Array (Option Value)} {oc_Table___eq__ kV_Table___eq__ dc_Table___eq__ pm_Table___eq__ cd_Table___eq__ ct_Table___eq__ : Value}
    {f__repeats : Addr} {od__repeats an__repeats : Option Addr} {sl__repeats : Array (Option Value)} {oc__repeats kV__repeats dc__repeats pm__repeats cd__repeats ct__repeats : Value}
    {f_Table_by_table : Addr} {od_Table_by_table an_Table_by_table : Option Addr} {sl_Table_by_table : Array (Option Value)} {oc_Table_by_table kV_Table_by_table dc_Table_by_table pm_Table_by_table cd_Table_by_table ct_Table_by_table : Value}
    {f_Table_til_table : Addr} {od_Table_til_table an_Table_til_table : Option Addr} {sl_Table_til_table : Array (Option Value)} {oc_Table_til_table kV_Table_til_table dc_Table_til_table pm_Table_til_table cd_Table_til_table ct_Table_til_table : Value}
    {f_Table_shortest : Addr} {od_Table_shortest an_Table_shortest : Option Addr} {sl_Table_shortest : Array (Option Value)} {oc_Table_shortest kV_Table_shortest dc_Table_shortest pm_Table_shortest cd_Table_shortest ct_Table_shortest : Value}
    {f_Table_is_same : Addr} {od_Table_is_same an_Table_is_same : Option Addr} {sl_Table_is_same : Array (Option Value)} {oc_Table_is_same kV_Table_is_same dc_Table_is_same pm_Table_is_same cd_Table_is_same ct_Table_is_same : Value}
    {f__common_length : Addr} {od__common_length an__common_length : Option Addr} {sl__common_length : Array (Option Value)} {oc__common_length kV__common_length dc__common_length pm__common_length cd__common_length ct__common_length : Value}
    {f_behind : Addr} {od_behind an_behind : Option Addr} {sl_behind : Array (Option Value)} {oc_behind kV_behind dc_behind pm_behind cd_behind ct_behind : Value}
    {f_later : Addr} {od_later an_later : Option Addr} {sl_later : Array (Option Value)} {oc_later kV_later dc_later pm_later cd_later ct_later : Value}
    {f_sooner : Addr} {od_sooner an_sooner : Option Addr} {sl_sooner : Array (Option Value)} {oc_sooner kV_sooner dc_sooner pm_sooner cd_sooner ct_sooner : Value}
    {f_first_above : Addr} {od_first_above an_first_above : Option Addr} {sl_first_above : Array (Option Value)} {oc_first_above kV_first_above dc_first_above pm_first_above cd_first_above ct_first_above : Value}
    {f_most_above : Addr} {od_most_above an_most_above : Option Addr} {sl_most_above : Array (Option Value)} {oc_most_above kV_most_above dc_most_above pm_most_above cd_most_above ct_most_above : Value}
    {f_first_parting : Addr} {od_first_parting an_first_parting : Option Addr} {sl_first_parting : Array (Option Value)} {oc_first_parting kV_first_parting dc_first_parting pm_first_parting cd_first_parting ct_first_parting : Value}
    {f__law_pot : Addr} {od__law_pot an__law_pot : Option Addr} {sl__law_pot : Array (Option Value)} {oc__law_pot kV__law_pot dc__law_pot pm__law_pot cd__law_pot ct__law_pot : Value}
    {f__law_draw : Addr} {od__law_draw an__law_draw : Option Addr} {sl__law_draw : Array (Option Value)} {oc__law_draw kV__law_draw dc__law_draw pm__law_draw cd__law_draw ct__law_draw : Value}
    {f__law_pick : Addr} {od__law_pick an__law_pick : Option Addr} {sl__law_pick : Array (Option Value)} {oc__law_pick kV__law_pick dc__law_pick pm__law_pick cd__law_pick ct__law_pick : Value}
    {f__law_days : Addr} {od__law_days an__law_days : Option Addr} {sl__law_days : Array (Option Value)} {oc__law_days kV__law_days dc__law_days pm__law_days cd__law_days ct__law_days : Value}
    {f__law_on : Addr} {od__law_on an__law_on : Option Addr} {sl__law_on : Array (Option Value)} {oc__law_on kV__law_on dc__law_on pm__law_on cd__law_on ct__law_on : Value}
    {f__law_common : Addr} {od__law_common an__law_common : Option Addr} {sl__law_common : Array (Option Value)} {oc__law_common kV__law_common dc__law_common pm__law_common cd__law_common ct__law_common : Value}
    {f__law_told : Addr} {od__law_told an__law_told : Option Addr} {sl__law_told : Array (Option Value)} {oc__law_told kV__law_told dc__law_told pm__law_told cd__law_told ct__law_told : Value}
    {f__law_joined_right : Addr} {od__law_joined_right an__law_joined_right : Option Addr} {sl__law_joined_right : Array (Option Value)} {oc__law_joined_right kV__law_joined_right dc__law_joined_right pm__law_joined_right cd__law_joined_right ct__law_joined_right : Value}
    {f__law_held_right : Addr} {od__law_held_right an__law_held_right : Option Addr} {sl__law_held_right : Array (Option Value)} {oc__law_held_right kV__law_held_right dc__law_held_right pm__law_held_right cd__law_held_right ct__law_held_right : Value}
    {f__law_back_right : Addr} {od__law_back_right an__law_back_right : Option Addr} {sl__law_back_right : Array (Option Value)} {oc__law_back_right kV__law_back_right dc__law_back_right pm__law_back_right cd__law_back_right ct__law_back_right : Value}
    {f__law_refusal : Addr} {od__law_refusal an__law_refusal : Option Addr} {sl__law_refusal : Array (Option Value)} {oc__law_refusal kV__law_refusal dc__law_refusal pm__law_refusal cd__law_refusal ct__law_refusal : Value}
    {f__law_long_right : Addr} {od__law_long_right an__law_long_right : Option Addr} {sl__law_long_right : Array (Option Value)} {oc__law_long_right kV__law_long_right dc__law_long_right pm__law_long_right cd__law_long_right ct__law_long_right : Value}
    {f__law_right : Addr} {od__law_right an__law_right : Option Addr} {sl__law_right : Array (Option Value)} {oc__law_right kV__law_right dc__law_right pm__law_right cd__law_right ct__law_right : Value}
    {f_law : Addr} {od_law an_law : Option Addr} {sl_law : Array (Option Value)} {oc_law kV_law dc_law pm_law cd_law ct_law : Value}
    (aC : PySem.W.nsIn K mainGlobals "Table" = some (some (.ref C)))
    (pg : PySem.W.plainGet K C Str.empty = true)
    (hd : PySem.W.hasDictIn K C = true)
    (po : PySem.W.plainOver K C = true)
    (sa : PySem.W.findIn K (.ref C) "__setattr__" = some (some (.builtin "object.__setattr__")))
    (mk : PySem.W.makesIn K C = true)
    (kc : PySem.W.keepIn K (.ref C) = true)
    (n_days : PySem.W.findIn K (.ref C) "_days" = some none)
    (rd : PySem.W.readsIn K C (.type "type") = true)
    (ga : PySem.W.specialIn K (.ref C) "__getattribute__" = some (some (.builtin "type.__getattribute__")))
    (xMOST_LENGTH : PySem.W.findCls K (.ref C) (.type "type") "MOST_LENGTH" = some (.val (.int 600 tq_MOST_LENGTH)))
    (ne : PySem.W.findIn K (.ref C) "__ne__" = some (some (.builtin "object.__ne__")))
    (mo : PySem.W.mroIn K C (.type "object") = some true)
    (tc1 : PySem.W.findIn K (.ref C) "__class__" = some (some (.builtin "object.__class__")))
    (tc2 : PySem.W.specialIn K (.builtin "object.__class__") "__get__" = some (some (.builtin "getset_descriptor.__get__")))
    (tc3 : PySem.W.takesIn K (.builtin "object.__class__") = some true)
    (aC_TooMany : PySem.W.nsIn K mainGlobals "TooMany" = some (some (.ref C_TooMany)))
    (xC_TooMany : K.lookup C_TooMany = some (excClassObj nm_TooMany q_TooMany C_TooMany N_TooMany bs_TooMany [.ref TooMany_o0, .type "ArithmeticError", .type "Exception", .type "BaseException", .type "object"] true sn_TooMany sub_TooMany ab_TooMany col_TooMany dd_TooMany m0_TooMany m1_TooMany m2_TooMany m3_TooMany m5_TooMany "ArithmeticError.__new__"))
    (saC_TooMany : PySem.W.findIn K (.ref C_TooMany) "__setattr__" = some (some (.builtin "object.__setattr__")))
    (gaC_TooMany : PySem.W.findIn K (.ref C_TooMany) "__getattribute__" = some (some (.builtin "BaseException.__getattribute__")))
    (ggC_TooMany : PySem.W.findIn K (.ref C_TooMany) "__getattr__" = some none)
    (n_what_TooMany : PySem.W.findIn K (.ref C_TooMany) "what" = some none)
    (n_limit_TooMany : PySem.W.findIn K (.ref C_TooMany) "limit" = some none)
    (iC_TooMany : PySem.W.findIn K (.ref C_TooMany) "__init__" = some (some (.ref f_TooMany___init__)))
    (tI_TooMany : PySem.W.typeIn K (.ref f_TooMany___init__) = some (.type "function"))
    (l_TooMany___init__ : K.lookup f_TooMany___init__ = some ⟨oc_TooMany___init__, od_TooMany___init__, .func (PySem.W.fnOf "__init__" "TooMany.__init__" (defArgs s_TooMany___init__) (defBody s_TooMany___init__) (defScope s_TooMany___init__) .none kV_TooMany___init__ dc_TooMany___init__ pm_TooMany___init__ an_TooMany___init__ cd_TooMany___init__ ct_TooMany___init__), sl_TooMany___init__⟩)
    (c_TooMany___init__ : PySem.W.codeIn K cd_TooMany___init__ "TooMany.__init__" = true)
    (k_TooMany___init__ : PySem.W.keepIn K (.ref f_TooMany___init__) = true)
    (kC_TooMany : PySem.W.keepIn K (.ref C_TooMany) = true)
    (eC_TooMany : PySem.W.subIn K (.ref C_TooMany) (.type "BaseException") = some true)
    (tC_TooMany : PySem.W.typeIn K (.ref C_TooMany) = some (.type "type"))
    (hC_TooMany : PySem.W.hasDictIn K C_TooMany = true)
    (jC_TooMany : PySem.W.isClsIn K C_TooMany = true)
    (sC_TooMany : PySem.W.subIn K (.ref C_TooMany) (.ref C_TooMany) = some true)
    (a_is_day : PySem.W.nsIn K mainGlobals "is_day" = some (some (.ref f_is_day)))
    (l_is_day : K.lookup f_is_day = some ⟨oc_is_day, od_is_day, .func (PySem.W.fnOf "is_day" "is_day" (defArgs s_is_day) (defBody s_is_day) (defScope s_is_day) .none kV_is_day dc_is_day pm_is_day an_is_day cd_is_day ct_is_day), sl_is_day⟩)
    (c_is_day : PySem.W.codeIn K cd_is_day "is_day" = true)
    (k_is_day : PySem.W.keepIn K (.ref f_is_day) = true)
    (a_need_day : PySem.W.nsIn K mainGlobals "need_day" = some (some (.ref f_need_day)))
    (l_need_day : K.lookup f_need_day = some ⟨oc_need_day, od_need_day, .func (PySem.W.fnOf "need_day" "need_day" (defArgs s_need_day) (defBody s_need_day) (defScope s_need_day) .none kV_need_day dc_need_day pm_need_day an_need_day cd_need_day ct_need_day), sl_need_day⟩)
    (c_need_day : PySem.W.codeIn K cd_need_day "need_day" = true)
    (k_need_day : PySem.W.keepIn K (.ref f_need_day) = true)
    (a_is_list : PySem.W.nsIn K mainGlobals "is_list" = some (some (.ref f_is_list)))
    (l_is_list : K.lookup f_is_list = some ⟨oc_is_list, od_is_list, .func (PySem.W.fnOf "is_list" "is_list" (defArgs s_is_list) (defBody s_is_list) (defScope s_is_list) .none kV_is_list dc_is_list pm_is_list an_is_list cd_is_list ct_is_list), sl_is_list⟩)
    (c_is_list : PySem.W.codeIn K cd_is_list "is_list" = true)
    (k_is_list : PySem.W.keepIn K (.ref f_is_list) = true)
    (a_is_table : PySem.W.nsIn K mainGlobals "is_table" = some (some (.ref f_is_table)))
    (l_is_table : K.lookup f_is_table = some ⟨oc_is_table, od_is_table, .func (PySem.W.fnOf "is_table" "is_table" (defArgs s_is_table) (defBody s_is_table) (defScope s_is_table) .none kV_is_table dc_is_table pm_is_table an_is_table cd_is_table ct_is_table), sl_is_table⟩)
    (c_is_table : PySem.W.codeIn K cd_is_table "is_table" = true)
    (k_is_table : PySem.W.keepIn K (.ref f_is_table) = true)
    (a__many_ahead : PySem.W.nsIn K mainGlobals "_many_ahead" = some (some (.ref f__many_ahead)))
    (l__many_ahead : K.lookup f__many_ahead = some ⟨oc__many_ahead, od__many_ahead, .func (PySem.W.fnOf "_many_ahead" "_many_ahead" (defArgs s__many_ahead) (defBody s__many_ahead) (defScope s__many_ahead) .none kV__many_ahead dc__many_ahead pm__many_ahead an__many_ahead cd__many_ahead ct__many_ahead), sl__many_ahead⟩)
    (c__many_ahead : PySem.W.codeIn K cd__many_ahead "_many_ahead" = true)
    (k__many_ahead : PySem.W.keepIn K (.ref f__many_ahead) = true)
    (a_Table___init__ : PySem.W.findIn K (.ref C) "__init__" = some (some (.ref f_Table___init__)))
    (i_Table___init__ : PySem.W.isFn K (.ref f_Table___init__) = true)
    (l_Table___init__ : K.lookup f_Table___init__ = some ⟨oc_Table___init__, od_Table___init__, .func (PySem.W.fnOf "__init__" "Table.__init__" (defArgs s_Table___init__) (defBody s_Table___init__) (defScope s_Table___init__) .none kV_Table___init__ dc_Table___init__ pm_Table___init__ an_Table___init__ cd_Table___init__ ct_Table___init__), sl_Table___init__⟩)
    (c_Table___init__ : PySem.W.codeIn K cd_Table___init__ "Table.__init__" = true)
    (k_Table___init__ : PySem.W.keepIn K (.ref f_Table___init__) = true)
    (a_Table_length : PySem.W.findIn K (.ref C) "length" = some (some (.ref p_Table_length)))
    (g_Table_length : PySem.W.specialIn K (.ref p_Table_length) "__get__" = some (some (.builtin "property.__get__")))
    (t_Table_length : PySem.W.takesIn K (.ref p_Table_length) = some true)
    (r_Table_length : PySem.W.recIn K p_Table_length "property" = some (.ref f_Table_length :: rs_Table_length))
    (l_Table_length : K.lookup f_Table_length = some ⟨oc_Table_length, od_Table_length, .func (PySem.W.fnOf "length" "Table.length" (defArgs s_Table_length) (defBody s_Table_length) (defScope s_Table_length) .none kV_Table_length dc_Table_length pm_Table_length an_Table_length cd_Table_length ct_Table_length), sl_Table_length⟩)
    (c_Table_length : PySem.W.codeIn K cd_Table_length "Table.length" = true)
    (k_Table_length : PySem.W.keepIn K (.ref f_Table_length) = true)
    (a_Table_days : PySem.W.findIn K (.ref C) "days" = some (some (.ref f_Table_days)))
    (i_Table_days : PySem.W.isFn K (.ref f_Table_days) = true)
    (l_Table_days : K.lookup f_Table_days = some ⟨oc_Table_days, od_Table_days, .func (PySem.W.fnOf "days" "Table.days" (defArgs s_Table_days) (defBody s_Table_days) (defScope s_Table_days) .none kV_Table_days dc_Table_days pm_Table_days an_Table_days cd_Table_days ct_Table_days), sl_Table_days⟩)
    (c_Table_days : PySem.W.codeIn K cd_Table_days "Table.days" = true)
    (k_Table_days : PySem.W.keepIn K (.ref f_Table_days) = true)
    (a_Table_asked_rows : PySem.W.findIn K (.ref C) "asked_rows" = some (some (.ref f_Table_asked_rows)))
    (i_Table_asked_rows : PySem.W.isFn K (.ref f_Table_asked_rows) = true)
    (l_Table_asked_rows : K.lookup f_Table_asked_rows = some ⟨oc_Table_asked_rows, od_Table_asked_rows, .func (PySem.W.fnOf "asked_rows" "Table.asked_rows" (defArgs s_Table_asked_rows) (defBody s_Table_asked_rows) (defScope s_Table_asked_rows) .none kV_Table_asked_rows dc_Table_asked_rows pm_Table_asked_rows an_Table_asked_rows cd_Table_asked_rows ct_Table_asked_rows), sl_Table_asked_rows⟩)
    (c_Table_asked_rows : PySem.W.codeIn K cd_Table_asked_rows "Table.asked_rows" = true)
    (k_Table_asked_rows : PySem.W.keepIn K (.ref f_Table_asked_rows) = true)
    (a_Table_on : PySem.W.findIn K (.ref C) "on" = some (some (.ref f_Table_on)))
    (i_Table_on : PySem.W.isFn K (.ref f_Table_on) = true)
    (l_Table_on : K.lookup f_Table_on = some ⟨oc_Table_on, od_Table_on, .func (PySem.W.fnOf "on" "Table.on" (defArgs s_Table_on) (defBody s_Table_on) (defScope s_Table_on) .none kV_Table_on dc_Table_on pm_Table_on an_Table_on cd_Table_on ct_Table_on), sl_Table_on⟩)
    (c_Table_on : PySem.W.codeIn K cd_Table_on "Table.on" = true)
    (k_Table_on : PySem.W.keepIn K (.ref f_Table_on) = true)
    (a_Table_by : PySem.W.findIn K (.ref C) "by" = some (some (.ref f_Table_by)))
    (i_Table_by : PySem.W.isFn K (.ref f_Table_by) = true)
    (l_Table_by : K.lookup f_Table_by = some ⟨oc_Table_by, od_Table_by, .func (PySem.W.fnOf "by" "Table.by" (defArgs s_Table_by) (defBody s_Table_by) (defScope s_Table_by) .none kV_Table_by dc_Table_by pm_Table_by an_Table_by cd_Table_by ct_Table_by), sl_Table_by⟩)
    (c_Table_by : PySem.W.codeIn K cd_Table_by "Table.by" = true)
    (k_Table_by : PySem.W.keepIn K (.ref f_Table_by) = true)
    (a_Table_til : PySem.W.findIn K (.ref C) "til" = some (some (.ref f_Table_til)))
    (i_Table_til : PySem.W.isFn K (.ref f_Table_til) = true)
    (l_Table_til : K.lookup f_Table_til = some ⟨oc_Table_til, od_Table_til, .func (PySem.W.fnOf "til" "Table.til" (defArgs s_Table_til) (defBody s_Table_til) (defScope s_Table_til) .none kV_Table_til dc_Table_til pm_Table_til an_Table_til cd_Table_til ct_Table_til), sl_Table_til⟩)
    (c_Table_til : PySem.W.codeIn K cd_Table_til "Table.til" = true)
    (k_Table_til : PySem.W.keepIn K (.ref f_Table_til) = true)
    (a_Table___eq__ : PySem.W.findIn K (.ref C) "__eq__" = some (some (.ref f_Table___eq__)))
    (i_Table___eq__ : PySem.W.isFn K (.ref f_Table___eq__) = true)
    (l_Table___eq__ : K.lookup f_Table___eq__ = some ⟨oc_Table___eq__, od_Table___eq__, .func (PySem.W.fnOf "__eq__" "Table.__eq__" (defArgs s_Table___eq__) (defBody s_Table___eq__) (defScope s_Table___eq__) .none kV_Table___eq__ dc_Table___eq__ pm_Table___eq__ an_Table___eq__ cd_Table___eq__ ct_Table___eq__), sl_Table___eq__⟩)
    (c_Table___eq__ : PySem.W.codeIn K cd_Table___eq__ "Table.__eq__" = true)
    (k_Table___eq__ : PySem.W.keepIn K (.ref f_Table___eq__) = true)
    (a__repeats : PySem.W.nsIn K mainGlobals "_repeats" = some (some (.ref f__repeats)))
    (l__repeats : K.lookup f__repeats = some ⟨oc__repeats, od__repeats, .func (PySem.W.fnOf "_repeats" "_repeats" (defArgs s__repeats) (defBody s__repeats) (defScope s__repeats) .none kV__repeats dc__repeats pm__repeats an__repeats cd__repeats ct__repeats), sl__repeats⟩)
    (c__repeats : PySem.W.codeIn K cd__repeats "_repeats" = true)
    (k__repeats : PySem.W.keepIn K (.ref f__repeats) = true)
    (a_Table_by_table : PySem.W.findIn K (.ref C) "by_table" = some (some (.ref f_Table_by_table)))
    (i_Table_by_table : PySem.W.isFn K (.ref f_Table_by_table) = true)
    (l_Table_by_table : K.lookup f_Table_by_table = some ⟨oc_Table_by_table, od_Table_by_table, .func (PySem.W.fnOf "by_table" "Table.by_table" (defArgs s_Table_by_table) (defBody s_Table_by_table) (defScope s_Table_by_table) .none kV_Table_by_table dc_Table_by_table pm_Table_by_table an_Table_by_table cd_Table_by_table ct_Table_by_table), sl_Table_by_table⟩)
    (c_Table_by_table : PySem.W.codeIn K cd_Table_by_table "Table.by_table" = true)
    (k_Table_by_table : PySem.W.keepIn K (.ref f_Table_by_table) = true)
    (a_Table_til_table : PySem.W.findIn K (.ref C) "til_table" = some (some (.ref f_Table_til_table)))
    (i_Table_til_table : PySem.W.isFn K (.ref f_Table_til_table) = true)
    (l_Table_til_table : K.lookup f_Table_til_table = some ⟨oc_Table_til_table, od_Table_til_table, .func (PySem.W.fnOf "til_table" "Table.til_table" (defArgs s_Table_til_table) (defBody s_Table_til_table) (defScope s_Table_til_table) .none kV_Table_til_table dc_Table_til_table pm_Table_til_table an_Table_til_table cd_Table_til_table ct_Table_til_table), sl_Table_til_table⟩)
    (c_Table_til_table : PySem.W.codeIn K cd_Table_til_table "Table.til_table" = true)
    (k_Table_til_table : PySem.W.keepIn K (.ref f_Table_til_table) = true)
    (a_Table_shortest : PySem.W.findIn K (.ref C) "shortest" = some (some (.ref f_Table_shortest)))
    (i_Table_shortest : PySem.W.isFn K (.ref f_Table_shortest) = true)
    (l_Table_shortest : K.lookup f_Table_shortest = some ⟨oc_Table_shortest, od_Table_shortest, .func (PySem.W.fnOf "shortest" "Table.shortest" (defArgs s_Table_shortest) (defBody s_Table_shortest) (defScope s_Table_shortest) .none kV_Table_shortest dc_Table_shortest pm_Table_shortest an_Table_shortest cd_Table_shortest ct_Table_shortest), sl_Table_shortest⟩)
    (c_Table_shortest : PySem.W.codeIn K cd_Table_shortest "Table.shortest" = true)
    (k_Table_shortest : PySem.W.keepIn K (.ref f_Table_shortest) = true)
    (a_Table_is_same : PySem.W.findIn K (.ref C) "is_same" = some (some (.ref f_Table_is_same)))
    (i_Table_is_same : PySem.W.isFn K (.ref f_Table_is_same) = true)
    (l_Table_is_same : K.lookup f_Table_is_same = some ⟨oc_Table_is_same, od_Table_is_same, .func (PySem.W.fnOf "is_same" "Table.is_same" (defArgs s_Table_is_same) (defBody s_Table_is_same) (defScope s_Table_is_same) .none kV_Table_is_same dc_Table_is_same pm_Table_is_same an_Table_is_same cd_Table_is_same ct_Table_is_same), sl_Table_is_same⟩)
    (c_Table_is_same : PySem.W.codeIn K cd_Table_is_same "Table.is_same" = true)
    (k_Table_is_same : PySem.W.keepIn K (.ref f_Table_is_same) = true)
    (a__common_length : PySem.W.nsIn K mainGlobals "_common_length" = some (some (.ref f__common_length)))
    (l__common_length : K.lookup f__common_length = some ⟨oc__common_length, od__common_length, .func (PySem.W.fnOf "_common_length" "_common_length" (defArgs s__common_length) (defBody s__common_length) (defScope s__common_length) .none kV__common_length dc__common_length pm__common_length an__common_length cd__common_length ct__common_length), sl__common_length⟩)
    (c__common_length : PySem.W.codeIn K cd__common_length "_common_length" = true)
    (k__common_length : PySem.W.keepIn K (.ref f__common_length) = true)
    (a_behind : PySem.W.nsIn K mainGlobals "behind" = some (some (.ref f_behind)))
    (l_behind : K.lookup f_behind = some ⟨oc_behind, od_behind, .func (PySem.W.fnOf "behind" "behind" (defArgs s_behind) (defBody s_behind) (defScope s_behind) .none kV_behind dc_behind pm_behind an_behind cd_behind ct_behind), sl_behind⟩)
    (c_behind : PySem.W.codeIn K cd_behind "behind" = true)
    (k_behind : PySem.W.keepIn K (.ref f_behind) = true)
    (a_later : PySem.W.nsIn K mainGlobals "later" = some (some (.ref f_later)))
    (l_later : K.lookup f_later = some ⟨oc_later, od_later, .func (PySem.W.fnOf "later" "later" (defArgs s_later) (defBody s_later) (defScope s_later) .none kV_later dc_later pm_later an_later cd_later ct_later), sl_later⟩)
    (c_later : PySem.W.codeIn K cd_later "later" = true)
    (k_later : PySem.W.keepIn K (.ref f_later) = true)
    (a_sooner : PySem.W.nsIn K mainGlobals "sooner" = some (some (.ref f_sooner)))
    (l_sooner : K.lookup f_sooner = some ⟨oc_sooner, od_sooner, .func (PySem.W.fnOf "sooner" "sooner" (defArgs s_sooner) (defBody s_sooner) (defScope s_sooner) .none kV_sooner dc_sooner pm_sooner an_sooner cd_sooner ct_sooner), sl_sooner⟩)
    (c_sooner : PySem.W.codeIn K cd_sooner "sooner" = true)
    (k_sooner : PySem.W.keepIn K (.ref f_sooner) = true)
    (a_first_above : PySem.W.nsIn K mainGlobals "first_above" = some (some (.ref f_first_above)))
    (l_first_above : K.lookup f_first_above = some ⟨oc_first_above, od_first_above, .func (PySem.W.fnOf "first_above" "first_above" (defArgs s_first_above) (defBody s_first_above) (defScope s_first_above) .none kV_first_above dc_first_above pm_first_above an_first_above cd_first_above ct_first_above), sl_first_above⟩)
    (c_first_above : PySem.W.codeIn K cd_first_above "first_above" = true)
    (k_first_above : PySem.W.keepIn K (.ref f_first_above) = true)
    (a_most_above : PySem.W.nsIn K mainGlobals "most_above" = some (some (.ref f_most_above)))
    (l_most_above : K.lookup f_most_above = some ⟨oc_most_above, od_most_above, .func (PySem.W.fnOf "most_above" "most_above" (defArgs s_most_above) (defBody s_most_above) (defScope s_most_above) .none kV_most_above dc_most_above pm_most_above an_most_above cd_most_above ct_most_above), sl_most_above⟩)
    (c_most_above : PySem.W.codeIn K cd_most_above "most_above" = true)
    (k_most_above : PySem.W.keepIn K (.ref f_most_above) = true)
    (a_first_parting : PySem.W.nsIn K mainGlobals "first_parting" = some (some (.ref f_first_parting)))
    (l_first_parting : K.lookup f_first_parting = some ⟨oc_first_parting, od_first_parting, .func (PySem.W.fnOf "first_parting" "first_parting" (defArgs s_first_parting) (defBody s_first_parting) (defScope s_first_parting) .none kV_first_parting dc_first_parting pm_first_parting an_first_parting cd_first_parting ct_first_parting), sl_first_parting⟩)
    (c_first_parting : PySem.W.codeIn K cd_first_parting "first_parting" = true)
    (k_first_parting : PySem.W.keepIn K (.ref f_first_parting) = true)
    (a__law_pot : PySem.W.nsIn K mainGlobals "_law_pot" = some (some (.ref f__law_pot)))
    (l__law_pot : K.lookup f__law_pot = some ⟨oc__law_pot, od__law_pot, .func (PySem.W.fnOf "_law_pot" "_law_pot" (defArgs s__law_pot) (defBody s__law_pot) (defScope s__law_pot) .none kV__law_pot dc__law_pot pm__law_pot an__law_pot cd__law_pot ct__law_pot), sl__law_pot⟩)
    (c__law_pot : PySem.W.codeIn K cd__law_pot "_law_pot" = true)
    (k__law_pot : PySem.W.keepIn K (.ref f__law_pot) = true)
    (a__law_draw : PySem.W.nsIn K mainGlobals "_law_draw" = some (some (.ref f__law_draw)))
    (l__law_draw : K.lookup f__law_draw = some ⟨oc__law_draw, od__law_draw, .func (PySem.W.fnOf "_law_draw" "_law_draw" (defArgs s__law_draw) (defBody s__law_draw) (defScope s__law_draw) .none kV__law_draw dc__law_draw pm__law_draw an__law_draw cd__law_draw ct__law_draw), sl__law_draw⟩)
    (c__law_draw : PySem.W.codeIn K cd__law_draw "_law_draw" = true)
    (k__law_draw : PySem.W.keepIn K (.ref f__law_draw) = true)
    (a__law_pick : PySem.W.nsIn K mainGlobals "_law_pick" = some (some (.ref f__law_pick)))
    (l__law_pick : K.lookup f__law_pick = some ⟨oc__law_pick, od__law_pick, .func (PySem.W.fnOf "_law_pick" "_law_pick" (defArgs s__law_pick) (defBody s__law_pick) (defScope s__law_pick) .none kV__law_pick dc__law_pick pm__law_pick an__law_pick cd__law_pick ct__law_pick), sl__law_pick⟩)
    (c__law_pick : PySem.W.codeIn K cd__law_pick "_law_pick" = true)
    (k__law_pick : PySem.W.keepIn K (.ref f__law_pick) = true)
    (a__law_days : PySem.W.nsIn K mainGlobals "_law_days" = some (some (.ref f__law_days)))
    (l__law_days : K.lookup f__law_days = some ⟨oc__law_days, od__law_days, .func (PySem.W.fnOf "_law_days" "_law_days" (defArgs s__law_days) (defBody s__law_days) (defScope s__law_days) .none kV__law_days dc__law_days pm__law_days an__law_days cd__law_days ct__law_days), sl__law_days⟩)
    (c__law_days : PySem.W.codeIn K cd__law_days "_law_days" = true)
    (k__law_days : PySem.W.keepIn K (.ref f__law_days) = true)
    (a__law_on : PySem.W.nsIn K mainGlobals "_law_on" = some (some (.ref f__law_on)))
    (l__law_on : K.lookup f__law_on = some ⟨oc__law_on, od__law_on, .func (PySem.W.fnOf "_law_on" "_law_on" (defArgs s__law_on) (defBody s__law_on) (defScope s__law_on) .none kV__law_on dc__law_on pm__law_on an__law_on cd__law_on ct__law_on), sl__law_on⟩)
    (c__law_on : PySem.W.codeIn K cd__law_on "_law_on" = true)
    (k__law_on : PySem.W.keepIn K (.ref f__law_on) = true)
    (a__law_common : PySem.W.nsIn K mainGlobals "_law_common" = some (some (.ref f__law_common)))
    (l__law_common : K.lookup f__law_common = some ⟨oc__law_common, od__law_common, .func (PySem.W.fnOf "_law_common" "_law_common" (defArgs s__law_common) (defBody s__law_common) (defScope s__law_common) .none kV__law_common dc__law_common pm__law_common an__law_common cd__law_common ct__law_common), sl__law_common⟩)
    (c__law_common : PySem.W.codeIn K cd__law_common "_law_common" = true)
    (k__law_common : PySem.W.keepIn K (.ref f__law_common) = true)
    (a__law_told : PySem.W.nsIn K mainGlobals "_law_told" = some (some (.ref f__law_told)))
    (l__law_told : K.lookup f__law_told = some ⟨oc__law_told, od__law_told, .func (PySem.W.fnOf "_law_told" "_law_told" (defArgs s__law_told) (defBody s__law_told) (defScope s__law_told) .none kV__law_told dc__law_told pm__law_told an__law_told cd__law_told ct__law_told), sl__law_told⟩)
    (c__law_told : PySem.W.codeIn K cd__law_told "_law_told" = true)
    (k__law_told : PySem.W.keepIn K (.ref f__law_told) = true)
    (a__law_joined_right : PySem.W.nsIn K mainGlobals "_law_joined_right" = some (some (.ref f__law_joined_right)))
    (l__law_joined_right : K.lookup f__law_joined_right = some ⟨oc__law_joined_right, od__law_joined_right, .func (PySem.W.fnOf "_law_joined_right" "_law_joined_right" (defArgs s__law_joined_right) (defBody s__law_joined_right) (defScope s__law_joined_right) .none kV__law_joined_right dc__law_joined_right pm__law_joined_right an__law_joined_right cd__law_joined_right ct__law_joined_right), sl__law_joined_right⟩)
    (c__law_joined_right : PySem.W.codeIn K cd__law_joined_right "_law_joined_right" = true)
    (k__law_joined_right : PySem.W.keepIn K (.ref f__law_joined_right) = true)
    (a__law_held_right : PySem.W.nsIn K mainGlobals "_law_held_right" = some (some (.ref f__law_held_right)))
    (l__law_held_right : K.lookup f__law_held_right = some ⟨oc__law_held_right, od__law_held_right, .func (PySem.W.fnOf "_law_held_right" "_law_held_right" (defArgs s__law_held_right) (defBody s__law_held_right) (defScope s__law_held_right) .none kV__law_held_right dc__law_held_right pm__law_held_right an__law_held_right cd__law_held_right ct__law_held_right), sl__law_held_right⟩)
    (c__law_held_right : PySem.W.codeIn K cd__law_held_right "_law_held_right" = true)
    (k__law_held_right : PySem.W.keepIn K (.ref f__law_held_right) = true)
    (a__law_back_right : PySem.W.nsIn K mainGlobals "_law_back_right" = some (some (.ref f__law_back_right)))
    (l__law_back_right : K.lookup f__law_back_right = some ⟨oc__law_back_right, od__law_back_right, .func (PySem.W.fnOf "_law_back_right" "_law_back_right" (defArgs s__law_back_right) (defBody s__law_back_right) (defScope s__law_back_right) .none kV__law_back_right dc__law_back_right pm__law_back_right an__law_back_right cd__law_back_right ct__law_back_right), sl__law_back_right⟩)
    (c__law_back_right : PySem.W.codeIn K cd__law_back_right "_law_back_right" = true)
    (k__law_back_right : PySem.W.keepIn K (.ref f__law_back_right) = true)
    (a__law_refusal : PySem.W.nsIn K mainGlobals "_law_refusal" = some (some (.ref f__law_refusal)))
    (l__law_refusal : K.lookup f__law_refusal = some ⟨oc__law_refusal, od__law_refusal, .func (PySem.W.fnOf "_law_refusal" "_law_refusal" (defArgs s__law_refusal) (defBody s__law_refusal) (defScope s__law_refusal) .none kV__law_refusal dc__law_refusal pm__law_refusal an__law_refusal cd__law_refusal ct__law_refusal), sl__law_refusal⟩)
    (c__law_refusal : PySem.W.codeIn K cd__law_refusal "_law_refusal" = true)
    (k__law_refusal : PySem.W.keepIn K (.ref f__law_refusal) = true)
    (a__law_long_right : PySem.W.nsIn K mainGlobals "_law_long_right" = some (some (.ref f__law_long_right)))
    (l__law_long_right : K.lookup f__law_long_right = some ⟨oc__law_long_right, od__law_long_right, .func (PySem.W.fnOf "_law_long_right" "_law_long_right" (defArgs s__law_long_right) (defBody s__law_long_right) (defScope s__law_long_right) .none kV__law_long_right dc__law_long_right pm__law_long_right an__law_long_right cd__law_long_right ct__law_long_right), sl__law_long_right⟩)
    (c__law_long_right : PySem.W.codeIn K cd__law_long_right "_law_long_right" = true)
    (k__law_long_right : PySem.W.keepIn K (.ref f__law_long_right) = true)
    (a__law_right : PySem.W.nsIn K mainGlobals "_law_right" = some (some (.ref f__law_right)))
    (l__law_right : K.lookup f__law_right = some ⟨oc__law_right, od__law_right, .func (PySem.W.fnOf "_law_right" "_law_right" (defArgs s__law_right) (defBody s__law_right) (defScope s__law_right) .none kV__law_right dc__law_right pm__law_right an__law_right cd__law_right ct__law_right), sl__law_right⟩)
    (c__law_right : PySem.W.codeIn K cd__law_right "_law_right" = true)
    (k__law_right : PySem.W.keepIn K (.ref f__law_right) = true)
    (a_law : PySem.W.nsIn K mainGlobals "law" = some (some (.ref f_law)))
    (l_law : K.lookup f_law = some ⟨oc_law, od_law, .func (PySem.W.fnOf "law" "law" (defArgs s_law) (defBody s_law) (defScope s_law) .none kV_law dc_law pm_law an_law cd_law ct_law), sl_law⟩)
    (c_law : PySem.W.codeIn K cd_law "law" = true)
    (k_law : PySem.W.keepIn K (.ref f_law) = true)
    (b_isinstance : PySem.W.nsIn K mainGlobals "isinstance" = some none)
    (b_int : PySem.W.nsIn K mainGlobals "int" = some none)
    (b_bool : PySem.W.nsIn K mainGlobals "bool" = some none)
    (b_list : PySem.W.nsIn K mainGlobals "list" = some none)
    (b_tuple : PySem.W.nsIn K mainGlobals "tuple" = some none)
    (b_len : PySem.W.nsIn K mainGlobals "len" = some none)
    (b_enumerate : PySem.W.nsIn K mainGlobals "enumerate" = some none)
    (b_range : PySem.W.nsIn K mainGlobals "range" = some none)
    (b_divmod : PySem.W.nsIn K mainGlobals "divmod" = some none)
    (b_min : PySem.W.nsIn K mainGlobals "min" = some none)
    (b_max : PySem.W.nsIn K mainGlobals "max" = some none)
    (b_all : PySem.W.nsIn K mainGlobals "all" = some none)
    (b_abs : PySem.W.nsIn K mainGlobals "abs" = some none)
    (b_repr : PySem.W.nsIn K mainGlobals "repr" = some none)
    (b_lcm : PySem.W.nsIn K mainGlobals "lcm" = some (some (.builtin "math.lcm")))
    : ∃ fd : FuncData, (∀ (s : Shared) (u : Value), BindsTo s fd ⟨[u], []⟩ [("_law_script", u)]) ∧ ∀ base : Heap, K.In base → base.Ns mainGlobals mg → FnG P w K mg base CX0 11 fa fd ["_law_script"] (sp_law K) := by
  have ef : fa = f_law := by
    have z := PySem.W.mg_of X G a_law
    rw [hmg] at z
    cases z
    rfl
  subst ef
  have T : Txt K mg C C_TooMany f_TooMany___init__ := { cl := ⟨pg, hd, po, sa⟩, nD := n_days, kc := kc, mki := mk, mg_Table := PySem.W.mg_of X G aC, tyC := fun H a dx fs e => .ins e ⟨pg, hd, po, sa⟩ tc1 tc2 tc3 mo, cM := ⟨_, _, ⟨rd, ga⟩, ⟨xMOST_LENGTH, ⟨_, rfl⟩⟩⟩, own_TooMany := ⟨PySem.F.excBase_ArithmeticError, tail_arith, ⟨_, _, _, _, _, _, _, _, _, _, _, _, _, _, _, xC_TooMany, [TooMany_o0], rfl⟩, saC_TooMany, eC_TooMany, tC_TooMany, kC_TooMany⟩, iC_TooMany := iC_TooMany, tI_TooMany := tI_TooMany, no_what := n_what_TooMany, no_limit := n_limit_TooMany, xf := ⟨gaC_TooMany, ggC_TooMany, eC_TooMany, hC_TooMany⟩, te := exm_at eC_TooMany jC_TooMany tC_TooMany sC_TooMany, mg_TooMany := PySem.W.mg_of X G aC_TooMany, b_isinstance := PySem.W.mg_none_of X G b_isinstance, b_int := PySem.W.mg_none_of X G b_int, b_bool := PySem.W.mg_none_of X G b_bool, b_list := PySem.W.mg_none_of X G b_list, b_tuple := PySem.W.mg_none_of X G b_tuple, b_len := PySem.W.mg_none_of X G b_len, b_enumerate := PySem.W.mg_none_of X G b_enumerate, b_range := PySem.W.mg_none_of X G b_range, b_divmod := PySem.W.mg_none_of X G b_divmod, b_min := PySem.W.mg_none_of X G b_min, b_max := PySem.W.mg_none_of X G b_max, b_all := PySem.W.mg_none_of X G b_all, b_abs := PySem.W.mg_none_of X G b_abs, b_repr := PySem.W.mg_none_of X G b_repr, b_lcm := PySem.W.mg_of X G b_lcm }
  have F_is_day := fun_mk (K := K) (st := s_is_day) l_is_day c_is_day k_is_day
  have bd_is_day : Binds K _ ["value"] [] := F_is_day.binds (fun _ _ _ _ _ _ us hl => match us, hl with | [_], _ => rfl)
  have F_need_day := fun_mk (K := K) (st := s_need_day) l_need_day c_need_day k_need_day
  have bd_need_day : Binds K _ ["value"] [] := F_need_day.binds (fun _ _ _ _ _ _ us hl => match us, hl with | [_], _ => rfl)
  have F_is_list := fun_mk (K := K) (st := s_is_list) l_is_list c_is_list k_is_list
  have bd_is_list : Binds K _ ["value"] [] := F_is_list.binds (fun _ _ _ _ _ _ us hl => match us, hl with | [_], _ => rfl)
  have F_is_table := fun_mk (K := K) (st := s_is_table) l_is_table c_is_table k_is_table
  have bd_is_table : Binds K _ ["value"] [] := F_is_table.binds (fun _ _ _ _ _ _ us hl => match us, hl with | [_], _ => rfl)
  have F__many_ahead := fun_mk (K := K) (st := s__many_ahead) l__many_ahead c__many_ahead k__many_ahead
  have bd__many_ahead : Binds K _ ["days", "day"] [] := F__many_ahead.binds (fun _ _ _ _ _ _ us hl => match us, hl with | [_, _], _ => rfl)
  have F_Table___init__ := fun_mk (K := K) (st := s_Table___init__) l_Table___init__ c_Table___init__ k_Table___init__
  have bd_Table___init__ : Binds K _ ["self", "days"] [] := F_Table___init__.binds (fun _ _ _ _ _ _ us hl => match us, hl with | [_, _], _ => rfl)
  have F_Table_length := fun_mk (K := K) (st := s_Table_length) l_Table_length c_Table_length k_Table_length
  have bd_Table_length : Binds K _ ["self"] [] := F_Table_length.binds (fun _ _ _ _ _ _ us hl => match us, hl with | [_], _ => rfl)
  have F_Table_days := fun_mk (K := K) (st := s_Table_days) l_Table_days c_Table_days k_Table_days
  have bd_Table_days : Binds K _ ["self"] [] := F_Table_days.binds (fun _ _ _ _ _ _ us hl => match us, hl with | [_], _ => rfl)
  have F_Table_asked_rows := fun_mk (K := K) (st := s_Table_asked_rows) l_Table_asked_rows c_Table_asked_rows k_Table_asked_rows
  have bd_Table_asked_rows : Binds K _ ["self"] [] := F_Table_asked_rows.binds (fun _ _ _ _ _ _ us hl => match us, hl with | [_], _ => rfl)
  have F_Table_on := fun_mk (K := K) (st := s_Table_on) l_Table_on c_Table_on k_Table_on
  have bd_Table_on : Binds K _ ["self", "day"] [] := F_Table_on.binds (fun _ _ _ _ _ _ us hl => match us, hl with | [_, _], _ => rfl)
  have F_Table_by := fun_mk (K := K) (st := s_Table_by) l_Table_by c_Table_by k_Table_by
  have bd_Table_by : Binds K _ ["self", "day"] [] := F_Table_by.binds (fun _ _ _ _ _ _ us hl => match us, hl with | [_, _], _ => rfl)
  have F_Table_til := fun_mk (K := K) (st := s_Table_til) l_Table_til c_Table_til k_Table_til
  have bd_Table_til : Binds K _ ["self", "day"] [] := F_Table_til.binds (fun _ _ _ _ _ _ us hl => match us, hl with | [_, _], _ => rfl)
  have F_Table___eq__ := fun_mk (K := K) (st := s_Table___eq__) l_Table___eq__ c_Table___eq__ k_Table___eq__
  have bd_Table___eq__ : Binds K _ ["self", "other"] [] := F_Table___eq__.binds (fun _ _ _ _ _ _ us hl => match us, hl with | [_, _], _ => rfl)
  have F__repeats := fun_mk (K := K) (st := s__repeats) l__repeats c__repeats k__repeats
  have bd__repeats : Binds K _ ["table", "length"] [] := F__repeats.binds (fun _ _ _ _ _ _ us hl => match us, hl with | [_, _], _ => rfl)
  have F_Table_by_table := fun_mk (K := K) (st := s_Table_by_table) l_Table_by_table c_Table_by_table k_Table_by_table
  have bd_Table_by_table : Binds K _ ["self"] [] := F_Table_by_table.binds (fun _ _ _ _ _ _ us hl => match us, hl with | [_], _ => rfl)
  have F_Table_til_table := fun_mk (K := K) (st := s_Table_til_table) l_Table_til_table c_Table_til_table k_Table_til_table
  have bd_Table_til_table : Binds K _ ["self"] [] := F_Table_til_table.binds (fun _ _ _ _ _ _ us hl => match us, hl with | [_], _ => rfl)
  have F_Table_shortest := fun_mk (K := K) (st := s_Table_shortest) l_Table_shortest c_Table_shortest k_Table_shortest
  have bd_Table_shortest : Binds K _ ["self"] [] := F_Table_shortest.binds (fun _ _ _ _ _ _ us hl => match us, hl with | [_], _ => rfl)
  have F_Table_is_same := fun_mk (K := K) (st := s_Table_is_same) l_Table_is_same c_Table_is_same k_Table_is_same
  have bd_Table_is_same : Binds K _ ["self", "other_table"] [] := F_Table_is_same.binds (fun _ _ _ _ _ _ us hl => match us, hl with | [_, _], _ => rfl)
  have F__common_length := fun_mk (K := K) (st := s__common_length) l__common_length c__common_length k__common_length
  have bd__common_length : Binds K _ ["table", "other_table"] [] := F__common_length.binds (fun _ _ _ _ _ _ us hl => match us, hl with | [_, _], _ => rfl)
  have F_behind := fun_mk (K := K) (st := s_behind) l_behind c_behind k_behind
  have bd_behind : Binds K _ ["table", "other_table"] [] := F_behind.binds (fun _ _ _ _ _ _ us hl => match us, hl with | [_, _], _ => rfl)
  have F_later := fun_mk (K := K) (st := s_later) l_later c_later k_later
  have bd_later : Binds K _ ["table", "other_table"] [] := F_later.binds (fun _ _ _ _ _ _ us hl => match us, hl with | [_, _], _ => rfl)
  have F_sooner := fun_mk (K := K) (st := s_sooner) l_sooner c_sooner k_sooner
  have bd_sooner : Binds K _ ["table", "other_table"] [] := F_sooner.binds (fun _ _ _ _ _ _ us hl => match us, hl with | [_, _], _ => rfl)
  have F_first_above := fun_mk (K := K) (st := s_first_above) l_first_above c_first_above k_first_above
  have bd_first_above : Binds K _ ["table", "other_table"] [] := F_first_above.binds (fun _ _ _ _ _ _ us hl => match us, hl with | [_, _], _ => rfl)
  have F_most_above := fun_mk (K := K) (st := s_most_above) l_most_above c_most_above k_most_above
  have bd_most_above : Binds K _ ["table", "other_table"] [] := F_most_above.binds (fun _ _ _ _ _ _ us hl => match us, hl with | [_, _], _ => rfl)
  have F_first_parting := fun_mk (K := K) (st := s_first_parting) l_first_parting c_first_parting k_first_parting
  have bd_first_parting : Binds K _ ["table", "other_table"] [] := F_first_parting.binds (fun _ _ _ _ _ _ us hl => match us, hl with | [_, _], _ => rfl)
  have F__law_pot := fun_mk (K := K) (st := s__law_pot) l__law_pot c__law_pot k__law_pot
  have bd__law_pot : Binds K _ ["_law_script", "_law_k"] [] := F__law_pot.binds (fun _ _ _ _ _ _ us hl => match us, hl with | [_, _], _ => rfl)
  have F__law_draw := fun_mk (K := K) (st := s__law_draw) l__law_draw c__law_draw k__law_draw
  have bd__law_draw : Binds K _ ["_law_pot_here", "_law_size"] [] := F__law_draw.binds (fun _ _ _ _ _ _ us hl => match us, hl with | [_, _], _ => rfl)
  have F__law_pick := fun_mk (K := K) (st := s__law_pick) l__law_pick c__law_pick k__law_pick
  have bd__law_pick : Binds K _ ["_law_pot_here", "_law_some"] [] := F__law_pick.binds (fun _ _ _ _ _ _ us hl => match us, hl with | [_, _], _ => rfl)
  have F__law_days := fun_mk (K := K) (st := s__law_days) l__law_days c__law_days k__law_days
  have bd__law_days : Binds K _ ["_law_pot_here", "_law_length", "_law_first"] [] := F__law_days.binds (fun _ _ _ _ _ _ us hl => match us, hl with | [_, _, _], _ => rfl)
  have F__law_on := fun_mk (K := K) (st := s__law_on) l__law_on c__law_on k__law_on
  have bd__law_on : Binds K _ ["_law_days_here", "_law_day"] [] := F__law_on.binds (fun _ _ _ _ _ _ us hl => match us, hl with | [_, _], _ => rfl)
  have F__law_common := fun_mk (K := K) (st := s__law_common) l__law_common c__law_common k__law_common
  have bd__law_common : Binds K _ ["_law_one", "_law_other"] [] := F__law_common.binds (fun _ _ _ _ _ _ us hl => match us, hl with | [_, _], _ => rfl)
  have F__law_told := fun_mk (K := K) (st := s__law_told) l__law_told c__law_told k__law_told
  have bd__law_told : Binds K _ ["_law_table"] [] := F__law_told.binds (fun _ _ _ _ _ _ us hl => match us, hl with | [_], _ => rfl)
  have F__law_joined_right := fun_mk (K := K) (st := s__law_joined_right) l__law_joined_right c__law_joined_right k__law_joined_right
  have bd__law_joined_right : Binds K _ ["_law_table", "_law_days_here", "_law_other_table", "_law_others"] [] := F__law_joined_right.binds (fun _ _ _ _ _ _ us hl => match us, hl with | [_, _, _, _], _ => rfl)
  have F__law_held_right := fun_mk (K := K) (st := s__law_held_right) l__law_held_right c__law_held_right k__law_held_right
  have bd__law_held_right : Binds K _ ["_law_table", "_law_days_here", "_law_other_table", "_law_others"] [] := F__law_held_right.binds (fun _ _ _ _ _ _ us hl => match us, hl with | [_, _, _, _], _ => rfl)
  have F__law_back_right := fun_mk (K := K) (st := s__law_back_right) l__law_back_right c__law_back_right k__law_back_right
  have bd__law_back_right : Binds K _ ["_law_table", "_law_other_table"] [] := F__law_back_right.binds (fun _ _ _ _ _ _ us hl => match us, hl with | [_, _], _ => rfl)
  have F__law_refusal := fun_mk (K := K) (st := s__law_refusal) l__law_refusal c__law_refusal k__law_refusal
  have bd__law_refusal : Binds K _ ["_law_deed", "_law_table", "_law_other_table"] [] := F__law_refusal.binds (fun _ _ _ _ _ _ us hl => match us, hl with | [_, _, _], _ => rfl)
  have F__law_long_right := fun_mk (K := K) (st := s__law_long_right) l__law_long_right c__law_long_right k__law_long_right
  have bd__law_long_right : Binds K _ ["_law_pot_here"] [] := F__law_long_right.binds (fun _ _ _ _ _ _ us hl => match us, hl with | [_], _ => rfl)
  have F__law_right := fun_mk (K := K) (st := s__law_right) l__law_right c__law_right k__law_right
  have bd__law_right : Binds K _ ["_law_pot_here"] [] := F__law_right.binds (fun _ _ _ _ _ _ us hl => match us, hl with | [_], _ => rfl)
  have F_law := fun_mk (K := K) (st := s_law) l_law c_law k_law
  have bd_law : Binds K _ ["_law_script"] [] := F_law.binds (fun _ _ _ _ _ _ us hl => match us, hl with | [_], _ => rfl)
  have F_TooMany___init__ := fun_mk (K := K) (st := s_TooMany___init__) l_TooMany___init__ c_TooMany___init__ k_TooMany___init__
  have bd_TooMany___init__ : Binds K _ ["self", "what", "limit"] [] := F_TooMany___init__.binds (fun _ _ _ _ _ _ us hl => match us, hl with | [_, _, _], _ => rfl)
  have kb_behind_other_table_table := kb_of (ps := ["table", "other_table"]) (ks := ["other_table", "table"]) (n := 0) (g := fun us ws => us ++ ws.reverse) (gV := fun vs zs => vs ++ zs.reverse) F_behind (fun _ _ _ _ _ _ us ws h1 h2 => match us, ws, h1, h2 with | [], [_, _], _, _ => rfl) (fun a b => a.append (vals_rev b))
  have kb_later_other_table_table := kb_of (ps := ["table", "other_table"]) (ks := ["other_table", "table"]) (n := 0) (g := fun us ws => us ++ ws.reverse) (gV := fun vs zs => vs ++ zs.reverse) F_later (fun _ _ _ _ _ _ us ws h1 h2 => match us, ws, h1, h2 with | [], [_, _], _, _ => rfl) (fun a b => a.append (vals_rev b))
  have kb_sooner_other_table_table := kb_of (ps := ["table", "other_table"]) (ks := ["other_table", "table"]) (n := 0) (g := fun us ws => us ++ ws.reverse) (gV := fun vs zs => vs ++ zs.reverse) F_sooner (fun _ _ _ _ _ _ us ws h1 h2 => match us, ws, h1, h2 with | [], [_, _], _, _ => rfl) (fun a b => a.append (vals_rev b))
  have kb_first_above_other_table_table := kb_of (ps := ["table", "other_table"]) (ks := ["other_table", "table"]) (n := 0) (g := fun us ws => us ++ ws.reverse) (gV := fun vs zs => vs ++ zs.reverse) F_first_above (fun _ _ _ _ _ _ us ws h1 h2 => match us, ws, h1, h2 with | [], [_, _], _, _ => rfl) (fun a b => a.append (vals_rev b))
  have kb_most_above_other_table_table := kb_of (ps := ["table", "other_table"]) (ks := ["other_table", "table"]) (n := 0) (g := fun us ws => us ++ ws.reverse) (gV := fun vs zs => vs ++ zs.reverse) F_most_above (fun _ _ _ _ _ _ us ws h1 h2 => match us, ws, h1, h2 with | [], [_, _], _, _ => rfl) (fun a b => a.append (vals_rev b))
  have kb_first_parting_other_table_table := kb_of (ps := ["table", "other_table"]) (ks := ["other_table", "table"]) (n := 0) (g := fun us ws => us ++ ws.reverse) (gV := fun vs zs => vs ++ zs.reverse) F_first_parting (fun _ _ _ _ _ _ us ws h1 h2 => match us, ws, h1, h2 with | [], [_, _], _, _ => rfl) (fun a b => a.append (vals_rev b))
  refine ⟨PySem.W.fnOf "law" "law" (defArgs s_law) (defBody s_law) (defScope s_law) .none kV_law dc_law pm_law an_law cd_law ct_law, ?bb, fun base kb nb => ?_⟩
  rotate_left
  have mkI : Mk K C f_Table___init__ := ⟨mk, a_Table___init__, i_Table___init__, kc⟩
  have c_is_day : Cal P w K mg base "is_day" f_is_day _ _ _ _ := ⟨ok_is_day (P := P) (w := w) (base := base) F_is_day T, PySem.W.mg_of X G a_is_day, k_is_day, bd_is_day⟩
  have c_need_day : Cal P w K mg base "need_day" f_need_day _ _ _ _ := ⟨ok_need_day (P := P) (w := w) (base := base) F_need_day T c_is_day, PySem.W.mg_of X G a_need_day, k_need_day, bd_need_day⟩
  have c_is_list : Cal P w K mg base "is_list" f_is_list _ _ _ _ := ⟨ok_is_list (P := P) (w := w) (base := base) F_is_list T, PySem.W.mg_of X G a_is_list, k_is_list, bd_is_list⟩
  have c_is_table : Cal P w K mg base "is_table" f_is_table _ _ _ _ := ⟨ok_is_table (P := P) (w := w) (base := base) F_is_table T c_is_list c_is_day, PySem.W.mg_of X G a_is_table, k_is_table, bd_is_table⟩
  have c__many_ahead : Cal P w K mg base "_many_ahead" f__many_ahead _ _ _ _ := ⟨ok_many (P := P) (w := w) (base := base) F__many_ahead T, PySem.W.mg_of X G a__many_ahead, k__many_ahead, bd__many_ahead⟩
  have m_init : Ini P w K mg base C f_Table___init__ _ := ⟨ok_init (P := P) (w := w) (base := base) F_Table___init__ T c_is_table, bd_Table___init__⟩
  have m_length : Prp P w K mg base C "length" p_Table_length f_Table_length _ _ _ _ := ⟨ok_length (P := P) (w := w) (base := base) F_Table_length T, ⟨a_Table_length, g_Table_length, t_Table_length, ⟨_, r_Table_length⟩⟩, bd_Table_length⟩
  have m_days : Met P w K mg base C "days" f_Table_days _ _ _ _ := ⟨ok_days (P := P) (w := w) (base := base) F_Table_days T, ⟨a_Table_days, i_Table_days, k_Table_days⟩, bd_Table_days⟩
  have m_asked_rows : Met P w K mg base C "asked_rows" f_Table_asked_rows _ _ _ _ := ⟨ok_rows (P := P) (w := w) (base := base) F_Table_asked_rows T, ⟨a_Table_asked_rows, i_Table_asked_rows, k_Table_asked_rows⟩, bd_Table_asked_rows⟩
  have m_on : Met P w K mg base C "on" f_Table_on _ _ _ _ := ⟨ok_on (P := P) (w := w) (base := base) F_Table_on T c_need_day m_length, ⟨a_Table_on, i_Table_on, k_Table_on⟩, bd_Table_on⟩
  have m_by : Met P w K mg base C "by" f_Table_by _ _ _ _ := ⟨ok_by (P := P) (w := w) (base := base) F_Table_by T c_need_day m_length c__many_ahead, ⟨a_Table_by, i_Table_by, k_Table_by⟩, bd_Table_by⟩
  have m_til : Met P w K mg base C "til" f_Table_til _ _ _ _ := ⟨ok_til (P := P) (w := w) (base := base) F_Table_til T c_need_day m_by, ⟨a_Table_til, i_Table_til, k_Table_til⟩, bd_Table_til⟩
  have c__law_pot : Cal P w K mg base "_law_pot" f__law_pot _ _ _ _ := ⟨ok_pot (P := P) (w := w) (base := base) F__law_pot T, PySem.W.mg_of X G a__law_pot, k__law_pot, bd__law_pot⟩
  have c__law_draw : Cal P w K mg base "_law_draw" f__law_draw _ _ _ _ := ⟨ok_draw (P := P) (w := w) (base := base) F__law_draw T, PySem.W.mg_of X G a__law_draw, k__law_draw, bd__law_draw⟩
  have c__law_pick : Cal P w K mg base "_law_pick" f__law_pick _ _ _ _ := ⟨ok_pick (P := P) (w := w) (base := base) F__law_pick T c__law_draw, PySem.W.mg_of X G a__law_pick, k__law_pick, bd__law_pick⟩
  have c__law_days : Cal P w K mg base "_law_days" f__law_days _ _ _ _ := ⟨ok_ldays (P := P) (w := w) (base := base) F__law_days T c__law_pick, PySem.W.mg_of X G a__law_days, k__law_days, bd__law_days⟩
  have c__law_on : Cal P w K mg base "_law_on" f__law_on _ _ _ _ := ⟨ok_lon (P := P) (w := w) (base := base) F__law_on T, PySem.W.mg_of X G a__law_on, k__law_on, bd__law_on⟩
  have m_eq : Met P w K mg base C "__eq__" f_Table___eq__ _ _ _ _ := ⟨ok_eq (P := P) (w := w) (base := base) F_Table___eq__ T, ⟨a_Table___eq__, i_Table___eq__, k_Table___eq__⟩, bd_Table___eq__⟩
  have i_TooMany : IniX P w K mg base C_TooMany f_TooMany___init__ _ := ⟨ok_tm (P := P) (w := w) (base := base) F_TooMany___init__ T, bd_TooMany___init__⟩
  have c__common_length : CalX P w K mg base "_common_length" f__common_length _ _ _ _ := ⟨ok_common (P := P) (w := w) (base := base) F__common_length T m_length i_TooMany, PySem.W.mg_of X G a__common_length, k__common_length, bd__common_length⟩
  have c__repeats : Cal P w K mg base "_repeats" f__repeats _ _ _ _ := ⟨ok_repeats (P := P) (w := w) (base := base) F__repeats T m_on m_asked_rows, PySem.W.mg_of X G a__repeats, k__repeats, bd__repeats⟩
  have m_shortest : Met P w K mg base C "shortest" f_Table_shortest _ _ _ _ := ⟨ok_shortest (P := P) (w := w) (base := base) F_Table_shortest T mkI m_length c__repeats m_init, ⟨a_Table_shortest, i_Table_shortest, k_Table_shortest⟩, bd_Table_shortest⟩
  have m_by_table : Met P w K mg base C "by_table" f_Table_by_table _ _ _ _ := ⟨ok_byT (P := P) (w := w) (base := base) F_Table_by_table T mkI m_length m_by m_init, ⟨a_Table_by_table, i_Table_by_table, k_Table_by_table⟩, bd_Table_by_table⟩
  have m_til_table : Met P w K mg base C "til_table" f_Table_til_table _ _ _ _ := ⟨ok_tilT (P := P) (w := w) (base := base) F_Table_til_table T mkI m_length m_til m_init, ⟨a_Table_til_table, i_Table_til_table, k_Table_til_table⟩, bd_Table_til_table⟩
  have m_is_same : Met P w K mg base C "is_same" f_Table_is_same _ _ _ _ := ⟨ok_same (P := P) (w := w) (base := base) F_Table_is_same T m_shortest m_eq, ⟨a_Table_is_same, i_Table_is_same, k_Table_is_same⟩, bd_Table_is_same⟩
  have c_behind : CalX P w K mg base "behind" f_behind _ _ _ _ := ⟨ok_behind (P := P) (w := w) (base := base) F_behind T mkI c__common_length m_on m_init, PySem.W.mg_of X G a_behind, k_behind, bd_behind⟩
  have c_later : CalX P w K mg base "later" f_later _ _ _ _ := ⟨ok_later (P := P) (w := w) (base := base) F_later T mkI c__common_length m_on m_init, PySem.W.mg_of X G a_later, k_later, bd_later⟩
  have c_sooner : CalX P w K mg base "sooner" f_sooner _ _ _ _ := ⟨ok_sooner (P := P) (w := w) (base := base) F_sooner T mkI c__common_length m_on m_init, PySem.W.mg_of X G a_sooner, k_sooner, bd_sooner⟩
  have c_most_above : CalX P w K mg base "most_above" f_most_above _ _ _ _ := ⟨ok_most (P := P) (w := w) (base := base) F_most_above T c__common_length m_on, PySem.W.mg_of X G a_most_above, k_most_above, bd_most_above⟩
  have c_first_above : CalX P w K mg base "first_above" f_first_above _ _ _ _ := ⟨ok_above (P := P) (w := w) (base := base) F_first_above T c__common_length m_on, PySem.W.mg_of X G a_first_above, k_first_above, bd_first_above⟩
  have c_first_parting : CalX P w K mg base "first_parting" f_first_parting _ _ _ _ := ⟨ok_parting (P := P) (w := w) (base := base) F_first_parting T c__common_length m_on, PySem.W.mg_of X G a_first_parting, k_first_parting, bd_first_parting⟩
  have c__law_common : Cal P w K mg base "_law_common" f__law_common _ _ _ _ := ⟨ok_lcommon (P := P) (w := w) (base := base) F__law_common T, PySem.W.mg_of X G a__law_common, k__law_common, bd__law_common⟩
  have c__law_told : Cal P w K mg base "_law_told" f__law_told _ _ _ _ := ⟨ok_told (P := P) (w := w) (base := base) F__law_told T m_days m_length, PySem.W.mg_of X G a__law_told, k__law_told, bd__law_told⟩
  have c__law_joined_right : CalG P w K mg base "_law_joined_right" f__law_joined_right _ _ _ _ := ⟨ok_joinedR (P := P) (w := w) (base := base) F__law_joined_right T c__law_common c__law_on c__law_told c_behind c_later c_sooner kb_behind_other_table_table kb_later_other_table_table kb_sooner_other_table_table, PySem.W.mg_of X G a__law_joined_right, k__law_joined_right, bd__law_joined_right⟩
  have c__law_held_right : CalG P w K mg base "_law_held_right" f__law_held_right _ _ _ _ := ⟨ok_heldR (P := P) (w := w) (base := base) F__law_held_right T c__law_common c__law_on c_first_above c_most_above c_first_parting m_is_same kb_first_above_other_table_table kb_most_above_other_table_table kb_first_parting_other_table_table, PySem.W.mg_of X G a__law_held_right, k__law_held_right, bd__law_held_right⟩
  have c__law_back_right : Cal P w K mg base "_law_back_right" f__law_back_right _ _ _ _ := ⟨ok_backR (P := P) (w := w) (base := base) F__law_back_right T c_behind c_later c_sooner c_first_above m_is_same m_by_table m_til_table, PySem.W.mg_of X G a__law_back_right, k__law_back_right, bd__law_back_right⟩
  have c__law_refusal : Cal P w K mg base "_law_refusal" f__law_refusal _ _ _ _ := ⟨ok_refusal (P := P) (w := w) (base := base) F__law_refusal T c_behind c_later c_sooner c_first_above c_most_above c_first_parting, PySem.W.mg_of X G a__law_refusal, k__law_refusal, bd__law_refusal⟩
  have c__law_long_right : CalG P w K mg base "_law_long_right" f__law_long_right _ _ _ _ := ⟨ok_longR (P := P) (w := w) (base := base) F__law_long_right T mkI c__law_days c__law_draw c__law_pick m_init c__law_joined_right c__law_held_right c__law_refusal c_behind c_later c_sooner c_first_above c_most_above c_first_parting, PySem.W.mg_of X G a__law_long_right, k__law_long_right, bd__law_long_right⟩
  have c__law_right : CalG P w K mg base "_law_right" f__law_right _ _ _ _ := ⟨ok_right (P := P) (w := w) (base := base) F__law_right T mkI c__law_days c__law_draw c__law_pick m_init c__law_joined_right c__law_held_right c__law_back_right c__law_long_right c__law_told c__law_on, PySem.W.mg_of X G a__law_right, k__law_right, bd__law_right⟩
  exact ok_law (P := P) (w := w) (base := base) F_law T c__law_pot c__law_right
  exact fun s u => BindsTo.of_looks fun M => PySem.W.Looks.of_pure rfl
end
end K13
end
section
open PySem PySem.W PyProof.Rows L2
set_option maxHeartbeats 0 in
theorem PySem.Challenge.cw_leadrules_k13_whole_tables_made_of_two_holds : PySem.Challenge.rw_leadrules_k13_whole_tables_made_of_two.Holds := by
  w_on; o_law; k_head; (case hw => w_witness2)
  k_fill
  refine G.walkG (l := PySem.Challenge.rw_leadrules_k13_whole_tables_made_of_two) (n := 63) (k := 11) (x := "_law_script") (CX := CX0) (sp := K13.sp_law) rfl (by decide) rfl ⟨rfl, by decide, by decide⟩ (fun w h Y => PySem.W.kIn_of Y) ?Fq ?Sq ?Nq
  case Sq => exact fun K H a ns hl hO hS => ⟨a, ns, rfl, hS, hl, fun H2 e => rfl⟩
  case Nq => exact fun H s e s' h => h
  case Fq =>
    intro w mg fa h KX G0 hmg
    refine' K13.all_mk KX G0 hmg ?aC ?pg ?hd ?po ?sa ?mk ?kc ?n_days ?rd ?ga ?xMOST_LENGTH ?ne ?mo ?tc1 ?tc2 ?tc3 ?aC_TooMany ?xC_TooMany ?saC_TooMany ?gaC_TooMany ?ggC_TooMany ?n_what_TooMany ?n_limit_TooMany ?iC_TooMany ?tI_TooMany ?l_TooMany___init__ ?c_TooMany___init__ ?k_TooMany___init__ ?kC_TooMany ?eC_TooMany ?tC_TooMany ?hC_TooMany ?jC_TooMany ?sC_TooMany ?a_is_day ?l_is_day ?c_is_day ?k_is_day ?a_need_day ?l_need_day ?c_need_day ?k_need_day ?a_is_list ?l_is_list ?c_is_list ?k_is_list ?a_is_table ?l_is_table ?c_is_table ?k_is_table ?a__many_ahead ?l__many_ahead ?c__many_ahead ?k__many_ahead ?a_Table___init__ ?i_Table___init__ ?l_Table___init__ ?c_Table___init__ ?k_Table___init__ ?a_Table_length ?g_Table_length ?t_Table_length ?r_Table_length ?l_Table_length ?c_Table_length ?k_Table_length ?a_Table_days ?i_Table_days ?l_Table_days ?c_Table_days ?k_Table_days ?a_Table_asked_rows ?i_Table_asked_rows ?l_Table_asked_rows ?c_Table_asked_rows ?k_Table_asked_rows ?a_Table_on ?i_Table_on ?l_Table_on ?c_Table_on ?k_Table_on ?a_Table_by ?i_Table_by ?l_Table_by ?c_Table_by ?k_Table_by ?a_Table_til ?i_Table_til ?l_Table_til ?c_Table_til ?k_Table_til ?a_Table___eq__ ?i_Table___eq__ ?l_Table___eq__ ?c_Table___eq__ ?k_Table___eq__ ?a__repeats ?l__repeats ?c__repeats ?k__repeats ?a_Table_by_table ?i_Table_by_table ?l_Table_by_table ?c_Table_by_table ?k_Table_by_table ?a_Table_til_table ?i_Table_til_table ?l_Table_til_table ?c_Table_til_table ?k_Table_til_table ?a_Table_shortest ?i_Table_shortest ?l_Table_shortest ?c_Table_shortest ?k_Table_shortest ?a_Table_is_same ?i_Table_is_same ?l_Table_is_same ?c_Table_is_same ?k_Table_is_same ?a__common_length ?l__common_length ?c__common_length ?k__common_length ?a_behind ?l_behind ?c_behind ?k_behind ?a_later ?l_later ?c_later ?k_later ?a_sooner ?l_sooner ?c_sooner ?k_sooner ?a_first_above ?l_first_above ?c_first_above ?k_first_above ?a_most_above ?l_most_above ?c_most_above ?k_most_above ?a_first_parting ?l_first_parting ?c_first_parting ?k_first_parting ?a__law_pot ?l__law_pot ?c__law_pot ?k__law_pot ?a__law_draw ?l__law_draw ?c__law_draw ?k__law_draw ?a__law_pick ?l__law_pick ?c__law_pick ?k__law_pick ?a__law_days ?l__law_days ?c__law_days ?k__law_days ?a__law_on ?l__law_on ?c__law_on ?k__law_on ?a__law_common ?l__law_common ?c__law_common ?k__law_common ?a__law_told ?l__law_told ?c__law_told ?k__law_told ?a__law_joined_right ?l__law_joined_right ?c__law_joined_right ?k__law_joined_right ?a__law_held_right ?l__law_held_right ?c__law_held_right ?k__law_held_right ?a__law_back_right ?l__law_back_right ?c__law_back_right ?k__law_back_right ?a__law_refusal ?l__law_refusal ?c__law_refusal ?k__law_refusal ?a__law_long_right ?l__law_long_right ?c__law_long_right ?k__law_long_right ?a__law_right ?l__law_right ?c__law_right ?k__law_right ?a_law ?l_law ?c_law ?k_law ?b_isinstance ?b_int ?b_bool ?b_list ?b_tuple ?b_len ?b_enumerate ?b_range ?b_divmod ?b_min ?b_max ?b_all ?b_abs ?b_repr ?b_lcm
    (case aC => k_is)
    (case pg => k_is)
    (case hd => k_is)
    (case po => k_is)
    (case sa => k_is)
    (case mk => k_is)
    (case kc => k_is)
    (case n_days => k_is)
    (case rd => k_is)
    (case ga => k_is)
    (case xMOST_LENGTH => k_is)
    (case ne => k_is)
    (case mo => k_is)
    (case tc1 => k_is)
    (case tc2 => k_is)
    (case tc3 => k_is)
    (case aC_TooMany => k_is)
    (case xC_TooMany => k_is)
    (case saC_TooMany => k_is)
    (case gaC_TooMany => k_is)
    (case ggC_TooMany => k_is)
    (case n_what_TooMany => k_is)
    (case n_limit_TooMany => k_is)
    (case iC_TooMany => k_is)
    (case tI_TooMany => k_is)
    (case l_TooMany___init__ => k_is)
    (case c_TooMany___init__ => k_is)
    (case k_TooMany___init__ => k_is)
    (case kC_TooMany => k_is)
    (case eC_TooMany => k_is)
    (case tC_TooMany => k_is)
    (case hC_TooMany => k_is)
    (case jC_TooMany => k_is)
    (case sC_TooMany => k_is)
    (case a_is_day => k_is)
    (case l_is_day => k_is)
    (case c_is_day => k_is)
    (case k_is_day => k_is)
    (case a_need_day => k_is)
    (case l_need_day => k_is)
    (case c_need_day => k_is)
    (case k_need_day => k_is)
    (case a_is_list => k_is)
    (case l_is_list => k_is)
    (case c_is_list => k_is)
    (case k_is_list => k_is)
    (case a_is_table => k_is)
    (case l_is_table => k_is)
    (case c_is_table => k_is)
    (case k_is_table => k_is)
    (case a__many_ahead => k_is)
    (case l__many_ahead => k_is)
    (case c__many_ahead => k_is)
    (case k__many_ahead => k_is)
    (case a_Table___init__ => k_is)
    (case i_Table___init__ => k_is)
    (case l_Table___init__ => k_is)
    (case c_Table___init__ => k_is)
    (case k_Table___init__ => k_is)
    (case a_Table_length => k_is)
    (case g_Table_length => k_is)
    (case t_Table_length => k_is)
    (case r_Table_length => k_is)
    (case l_Table_length => k_is)
    (case c_Table_length => k_is)
    (case k_Table_length => k_is)
    (case a_Table_days => k_is)
    (case i_Table_days => k_is)
    (case l_Table_days => k_is)
    (case c_Table_days => k_is)
    (case k_Table_days => k_is)
    (case a_Table_asked_rows => k_is)
    (case i_Table_asked_rows => k_is)
    (case l_Table_asked_rows => k_is)
    (case c_Table_asked_rows => k_is)
    (case k_Table_asked_rows => k_is)
    (case a_Table_on => k_is)
    (case i_Table_on => k_is)
    (case l_Table_on => k_is)
    (case c_Table_on => k_is)
    (case k_Table_on => k_is)
    (case a_Table_by => k_is)
    (case i_Table_by => k_is)
    (case l_Table_by => k_is)
    (case c_Table_by => k_is)
    (case k_Table_by => k_is)
    (case a_Table_til => k_is)
    (case i_Table_til => k_is)
    (case l_Table_til => k_is)
    (case c_Table_til => k_is)
    (case k_Table_til => k_is)
    (case a_Table___eq__ => k_is)
    (case i_Table___eq__ => k_is)
    (case l_Table___eq__ => k_is)
    (case c_Table___eq__ => k_is)
    (case k_Table___eq__ => k_is)
    (case a__repeats => k_is)
    (case l__repeats => k_is)
    (case c__repeats => k_is)
    (case k__repeats => k_is)
    (case a_Table_by_table => k_is)
    (case i_Table_by_table => k_is)
    (case l_Table_by_table => k_is)
    (case c_Table_by_table => k_is)
    (case k_Table_by_table => k_is)
    (case a_Table_til_table => k_is)
    (case i_Table_til_table => k_is)
    (case l_Table_til_table => k_is)
    (case c_Table_til_table => k_is)
    (case k_Table_til_table => k_is)
    (case a_Table_shortest => k_is)
    (case i_Table_shortest => k_is)
    (case l_Table_shortest => k_is)
    (case c_Table_shortest => k_is)
    (case k_Table_shortest => k_is)
    (case a_Table_is_same => k_is)
    (case i_Table_is_same => k_is)
    (case l_Table_is_same => k_is)
    (case c_Table_is_same => k_is)
    (case k_Table_is_same => k_is)
    (case a__common_length => k_is)
    (case l__common_length => k_is)
    (case c__common_length => k_is)
    (case k__common_length => k_is)
    (case a_behind => k_is)
    (case l_behind => k_is)
    (case c_behind => k_is)
    (case k_behind => k_is)
    (case a_later => k_is)
    (case l_later => k_is)
    (case c_later => k_is)
    (case k_later => k_is)
    (case a_sooner => k_is)
    (case l_sooner => k_is)
    (case c_sooner => k_is)
    (case k_sooner => k_is)
    (case a_first_above => k_is)
    (case l_first_above => k_is)
    (case c_first_above => k_is)
    (case k_first_above => k_is)
    (case a_most_above => k_is)
    (case l_most_above => k_is)
    (case c_most_above => k_is)
    (case k_most_above => k_is)
    (case a_first_parting => k_is)
    (case l_first_parting => k_is)
    (case c_first_parting => k_is)
    (case k_first_parting => k_is)
    (case a__law_pot => k_is)
    (case l__law_pot => k_is)
    (case c__law_pot => k_is)
    (case k__law_pot => k_is)
    (case a__law_draw => k_is)
    (case l__law_draw => k_is)
    (case c__law_draw => k_is)
    (case k__law_draw => k_is)
    (case a__law_pick => k_is)
    (case l__law_pick => k_is)
    (case c__law_pick => k_is)
    (case k__law_pick => k_is)
    (case a__law_days => k_is)
    (case l__law_days => k_is)
    (case c__law_days => k_is)
    (case k__law_days => k_is)
    (case a__law_on => k_is)
    (case l__law_on => k_is)
    (case c__law_on => k_is)
    (case k__law_on => k_is)
    (case a__law_common => k_is)
    (case l__law_common => k_is)
    (case c__law_common => k_is)
    (case k__law_common => k_is)
    (case a__law_told => k_is)
    (case l__law_told => k_is)
    (case c__law_told => k_is)
    (case k__law_told => k_is)
    (case a__law_joined_right => k_is)
    (case l__law_joined_right => k_is)
    (case c__law_joined_right => k_is)
    (case k__law_joined_right => k_is)
    (case a__law_held_right => k_is)
    (case l__law_held_right => k_is)
    (case c__law_held_right => k_is)
    (case k__law_held_right => k_is)
    (case a__law_back_right => k_is)
    (case l__law_back_right => k_is)
    (case c__law_back_right => k_is)
    (case k__law_back_right => k_is)
    (case a__law_refusal => k_is)
    (case l__law_refusal => k_is)
    (case c__law_refusal => k_is)
    (case k__law_refusal => k_is)
    (case a__law_long_right => k_is)
    (case l__law_long_right => k_is)
    (case c__law_long_right => k_is)
    (case k__law_long_right => k_is)
    (case a__law_right => k_is)
    (case l__law_right => k_is)
    (case c__law_right => k_is)
    (case k__law_right => k_is)
    (case a_law => k_is)
    (case l_law => k_is)
    (case c_law => k_is)
    (case k_law => k_is)
    (case b_isinstance => k_is)
    (case b_int => k_is)
    (case b_bool => k_is)
    (case b_list => k_is)
    (case b_tuple => k_is)
    (case b_len => k_is)
    (case b_enumerate => k_is)
    (case b_range => k_is)
    (case b_divmod => k_is)
    (case b_min => k_is)
    (case b_max => k_is)
    (case b_all => k_is)
    (case b_abs => k_is)
    (case b_repr => k_is)
    (case b_lcm => k_is)
end
