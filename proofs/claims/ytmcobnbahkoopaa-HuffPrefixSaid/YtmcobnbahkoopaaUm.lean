/-
  Plain mathematics for layer 9 (huff): lengths that may be, that are whole; their codes, none of which begins another; their cost. It speaks of no program. No condition.
-/
import Derived.Test.YtmcobnbahkoopaaIn
namespace Go.Proofs.Ytmcobnbahkoopaa.Bm

/-- Lengths that may be. -/
def LenR (l : List Int) : Prop := l.length ≤ 256 ∧ ∀ x ∈ l, 0 ≤ x ∧ x ≤ 11
instance (l : List Int) : Decidable (LenR l) := by unfold LenR; exact inferInstance
/-- A length's part of 2048. -/
def partL (n : Nat) : Nat := if n = 0 then 0 else 2 ^ (11 - n)
def krN (l : List Nat) : Nat := (l.map partL).sum
def someN (l : List Nat) : Nat := l.countP fun n => decide (0 < n)
/-- Are they whole? -/
def WholeN (l : List Nat) : Prop := l.length ≤ 256 ∧ (∀ x ∈ l, x ≤ 11) ∧ (krN l = 2048 ∨ (someN l = 1 ∧ krN l = 1024))
instance (l : List Nat) : Decidable (WholeN l) := by unfold WholeN; exact inferInstance
def WholeI (l : List Int) : Prop := LenR l ∧ WholeN (l.map Int.toNat)
instance (l : List Int) : Decidable (WholeI l) := by unfold WholeI; exact inferInstance
theorem lenR_nat (l : List Int) (h : LenR l) : l = (l.map Int.toNat).map (fun n : Nat => (n : Int)) ∧ (∀ x ∈ l.map Int.toNat, x ≤ 11) ∧ (l.map Int.toNat).length = l.length := by
  refine ⟨?_, ?_, by simp⟩
  · rw [List.map_map]
    conv => lhs; rw [← List.map_id l]
    apply List.map_congr_left
    intro x hx
    have := h.2 x hx
    simp only [Function.comp_apply, id]
    omega
  · intro x hx
    obtain ⟨y, hy, rfl⟩ := List.mem_map.1 hx
    have := h.2 y hy
    omega
/-- Does k's code come ahead of i's? -/
def beforeB (l : List Nat) (k i : Nat) : Bool := decide (0 < l[k]?.getD 0) && (decide (l[k]?.getD 0 < l[i]?.getD 0) || (decide (l[k]?.getD 0 = l[i]?.getD 0) && decide (k < i)))
/-- What comes ahead of i, of the first q. -/
def aheadQ (l : List Nat) (i q : Nat) : Nat := ((List.range q).map fun k => if beforeB l k i then partL (l[k]?.getD 0) else 0).sum
def aheadN (l : List Nat) (i : Nat) : Nat := aheadQ l i l.length
/-- A symbol's code. -/
def codeN9 (l : List Nat) (i : Nat) : Nat := if l[i]?.getD 0 = 0 then 0 else aheadN l i / 2 ^ (11 - l[i]?.getD 0)
def codesN (l : List Nat) : List Nat := (List.range l.length).map (codeN9 l)
theorem aheadQ_succ (l : List Nat) (i q : Nat) : aheadQ l i (q + 1) = aheadQ l i q + if beforeB l q i then partL (l[q]?.getD 0) else 0 := by
  unfold aheadQ
  rw [List.range_succ, List.map_append, List.sum_append_nat]
  simp
theorem sum_map_le {α : Type} (f g : α → Nat) : ∀ (L : List α), (∀ x ∈ L, f x ≤ g x) → (L.map f).sum ≤ (L.map g).sum
  | [], _ => by simp
  | a :: L, h => by
    have h1 := h a List.mem_cons_self
    have h2 := sum_map_le f g L (fun x hx => h x (List.mem_cons_of_mem _ hx))
    rw [List.map_cons, List.map_cons, List.sum_cons, List.sum_cons]
    omega
theorem sum_map_add {α : Type} (f g : α → Nat) : ∀ (L : List α), (L.map fun x => f x + g x).sum = (L.map f).sum + (L.map g).sum
  | [] => by simp
  | a :: L => by
    have h2 := sum_map_add f g L
    simp only [List.map_cons, List.sum_cons]
    omega
theorem krN_range (l : List Nat) : krN l = ((List.range l.length).map fun k => partL (l[k]?.getD 0)).sum := by
  unfold krN
  congr 1
  apply List.ext_getElem
  · simp
  · intro i h1 h2
    simp only [List.length_map] at h1
    simp [h1]
/-- One place's share of a sum. -/
theorem sum_single (i v : Nat) : ∀ q, ((List.range q).map fun k => if k = i then v else 0).sum = if i < q then v else 0
  | 0 => by simp
  | q + 1 => by
    rw [List.range_succ, List.map_append, List.sum_append_nat, sum_single i v q]
    simp only [List.map_cons, List.map_nil, List.sum_cons, List.sum_nil]
    by_cases h1 : i < q
    · have h2 : ¬ q = i := by omega
      have h3 : i < q + 1 := by omega
      simp [h1, h2, h3]
    · by_cases h2 : q = i
      · subst h2
        simp
      · have h3 : ¬ i < q + 1 := by omega
        simp [h1, h2, h3]
/-- What comes ahead of i, and i's own part, come ahead of what i comes ahead of. -/
theorem ahead_before (l : List Nat) (i k : Nat) (hi : i < l.length) (h : beforeB l i k = true) : aheadN l i + partL (l[i]?.getD 0) ≤ aheadN l k := by
  have e : partL (l[i]?.getD 0) = ((List.range l.length).map fun q => if q = i then partL (l[i]?.getD 0) else 0).sum := by
    rw [sum_single, if_pos hi]
  unfold aheadN aheadQ
  rw [e, ← sum_map_add]
  apply sum_map_le
  intro q _
  by_cases hq : q = i
  · subst hq
    have h0 : beforeB l q q = false := by simp [beforeB]
    rw [h0, h]
    simp
  · rw [if_neg hq, Nat.add_zero]
    by_cases hb : beforeB l q i = true
    · have hk : beforeB l q k = true := by
        unfold beforeB at h hb ⊢
        simp only [Bool.and_eq_true, Bool.or_eq_true, decide_eq_true_eq] at h hb ⊢
        omega
      rw [hb, hk]
      exact Nat.le_refl _
    · rw [if_neg hb]; exact Nat.zero_le _
theorem ahead_all (l : List Nat) (i : Nat) (hi : i < l.length) : aheadN l i + partL (l[i]?.getD 0) ≤ krN l := by
  have e : partL (l[i]?.getD 0) = ((List.range l.length).map fun q => if q = i then partL (l[i]?.getD 0) else 0).sum := by
    rw [sum_single, if_pos hi]
  rw [krN_range]
  unfold aheadN aheadQ
  rw [e, ← sum_map_add]
  apply sum_map_le
  intro q _
  by_cases hq : q = i
  · subst hq
    have h0 : beforeB l q q = false := by simp [beforeB]
    rw [h0]
    simp
  · rw [if_neg hq, Nat.add_zero]
    split <;> omega
theorem ahead_dvd (l : List Nat) (i : Nat) : 2 ^ (11 - l[i]?.getD 0) ∣ aheadN l i := by
  unfold aheadN aheadQ
  have : ∀ L : List Nat, 2 ^ (11 - l[i]?.getD 0) ∣ (L.map fun k => if beforeB l k i then partL (l[k]?.getD 0) else 0).sum := fun L => by
    induction L with
    | nil => simp
    | cons k L ih =>
      rw [List.map_cons, List.sum_cons]
      refine Nat.dvd_add ?_ ih
      split
      · next hb =>
        unfold beforeB at hb
        simp only [Bool.and_eq_true, Bool.or_eq_true, decide_eq_true_eq] at hb
        unfold partL
        rw [if_neg (by omega)]
        exact Nat.pow_dvd_pow 2 (by omega)
      · exact Nat.dvd_zero _
  exact this _
/-- A code has no more bits than its length. -/
theorem code_lt9 (l : List Nat) (i : Nat) (hi : i < l.length) (h : WholeN l) (h0 : 0 < l[i]?.getD 0) : codeN9 l i < 2 ^ (l[i]?.getD 0) := by
  have h11 : l[i]?.getD 0 ≤ 11 := by rw [List.getElem?_eq_getElem hi, Option.getD_some]; exact h.2.1 _ (List.getElem_mem hi)
  have ha := ahead_all l i hi
  have hk : krN l ≤ 2048 := by have := h.2.2; omega
  unfold codeN9
  rw [if_neg (by omega)]
  unfold partL at ha
  rw [if_neg (by omega)] at ha
  have hp : 0 < 2 ^ (11 - l[i]?.getD 0) := Nat.two_pow_pos _
  rw [Nat.div_lt_iff_lt_mul hp, ← Nat.pow_add, show l[i]?.getD 0 + (11 - l[i]?.getD 0) = 11 by omega]
  have : (2 : Nat) ^ 11 = 2048 := by decide
  omega
/-- No code begins another one. -/
theorem code_prefix (l : List Nat) (i k : Nat) (hi : i < l.length) (hk : k < l.length) (h : WholeN l) (hik : i ≠ k) (h0 : 0 < l[i]?.getD 0) (h1 : l[i]?.getD 0 ≤ l[k]?.getD 0) : codeN9 l k / 2 ^ (l[k]?.getD 0 - l[i]?.getD 0) ≠ codeN9 l i := by
  have h11 : l[k]?.getD 0 ≤ 11 := by rw [List.getElem?_eq_getElem hk, Option.getD_some]; exact h.2.1 _ (List.getElem_mem hk)
  have hp : 0 < 2 ^ (11 - l[i]?.getD 0) := Nat.two_pow_pos _
  obtain ⟨q, hq⟩ := ahead_dvd l i
  have ei : codeN9 l i = q := by
    unfold codeN9
    rw [if_neg (by omega), hq, Nat.mul_div_cancel_left _ hp]
  have ek : codeN9 l k / 2 ^ (l[k]?.getD 0 - l[i]?.getD 0) = aheadN l k / 2 ^ (11 - l[i]?.getD 0) := by
    unfold codeN9
    rw [if_neg (by omega), Nat.div_div_eq_div_mul, ← Nat.pow_add, show 11 - l[k]?.getD 0 + (l[k]?.getD 0 - l[i]?.getD 0) = 11 - l[i]?.getD 0 by omega]
  rw [ei, ek]
  by_cases hb : beforeB l i k = true
  · have h2 := ahead_before l i k hi hb
    unfold partL at h2
    rw [if_neg (by omega), hq] at h2
    have h3 : q + 1 ≤ aheadN l k / 2 ^ (11 - l[i]?.getD 0) := by
      rw [Nat.le_div_iff_mul_le hp, Nat.add_mul, Nat.one_mul, Nat.mul_comm]
      exact h2
    omega
  · have hb2 : beforeB l k i = true := by
      unfold beforeB at hb ⊢
      simp only [Bool.and_eq_true, Bool.or_eq_true, decide_eq_true_eq] at hb ⊢
      omega
    have he : l[k]?.getD 0 = l[i]?.getD 0 := by
      unfold beforeB at hb2
      simp only [Bool.and_eq_true, Bool.or_eq_true, decide_eq_true_eq] at hb2
      omega
    have h2 := ahead_before l k i hk hb2
    unfold partL at h2
    rw [if_neg (by omega), hq, he] at h2
    have h3 : aheadN l k / 2 ^ (11 - l[i]?.getD 0) < q := by
      rw [Nat.div_lt_iff_lt_mul hp, Nat.mul_comm q]
      omega
    omega
/-- The cost of lengths for counts; none: they don't fit. -/
def costN (cs ls : List Nat) : Nat := ((List.range cs.length).map fun i => cs[i]?.getD 0 * ls[i]?.getD 0).sum
def FitN (cs ls : List Nat) : Prop := ∀ i, i < cs.length → 0 < cs[i]?.getD 0 → 0 < ls[i]?.getD 0
end Go.Proofs.Ytmcobnbahkoopaa.Bm
