/-
  Plain mathematics for layer 13 (codes): numbers as codes and bits behind them; offsets as numbers; it speaks of no program. No condition.
-/
import Derived.Test.YtlimiiimgblggaaTm
namespace Go.Proofs.Ytlimiiimgblggaa.Bm

/-- How many bits are behind a code; -1: there is no such code. -/
def extraI (c : Nat) : Int := if c < 16 then 0 else if 27 < c then -1 else ((c - 12 : Nat) : Int)
/-- A number's code, the bits behind it, how many. -/
def codeN (v : Nat) : Nat := if v < 16 then v else 11 + wid v
def moreN (v : Nat) : Nat := if v < 16 then 0 else v % 2 ^ (wid v - 1)
def bitsK (v : Nat) : Nat := if v < 16 then 0 else wid v - 1
/-- The number of a code and the bits behind it. -/
def valueK (c m : Nat) : Option Nat := if c < 16 then (if m = 0 then some c else none) else if 27 < c then none else if m < 2 ^ (c - 12) then some (2 ^ (c - 12) + m) else none

theorem wid_mid (v k : Nat) (h1 : 2 ^ k ≤ v) (h2 : v < 2 ^ (k + 1)) : wid v = k + 1 := by
  have hv : 0 < v := Nat.lt_of_lt_of_le (Nat.two_pow_pos k) h1
  rw [wid_pos v hv]
  have a1 : k ≤ v.log2 := (Nat.le_log2 (by omega)).2 h1
  have a2 : v.log2 < k + 1 := (Nat.log2_lt (by omega)).2 h2
  omega
theorem wid_has (v : Nat) (h : 16 ≤ v) (h2 : v ≤ 65535) : ∃ k, 4 ≤ k ∧ k ≤ 15 ∧ 2 ^ k ≤ v ∧ v < 2 ^ (k + 1) ∧ wid v = k + 1 := by
  have hv : v ≠ 0 := by omega
  have h1 : 2 ^ v.log2 ≤ v := Nat.log2_self_le hv
  have h3 : v < 2 ^ (v.log2 + 1) := Nat.lt_log2_self
  refine ⟨v.log2, (Nat.le_log2 hv).2 h, ?_, h1, h3, wid_pos v (by omega)⟩
  have : v.log2 < 16 := (Nat.log2_lt hv).2 (by omega)
  omega
theorem code_spec (v : Nat) (h : v ≤ 65535) : codeN v ≤ 27 ∧ moreN v ≤ 65535 ∧ bitsK v ≤ 15 ∧ valueK (codeN v) (moreN v) = some v := by
  by_cases h16 : v < 16
  · unfold codeN moreN bitsK
    rw [if_pos h16, if_pos h16, if_pos h16]
    refine ⟨by omega, by omega, by omega, ?_⟩
    unfold valueK
    rw [if_pos h16, if_pos rfl]
  · obtain ⟨k, k1, k2, h1, h2, hw⟩ := wid_has v (by omega) h
    unfold codeN moreN bitsK
    rw [if_neg h16, if_neg h16, if_neg h16, hw, Nat.add_sub_cancel]
    have hlt := Nat.mod_lt v (Nat.two_pow_pos k)
    have hm := Nat.mod_le v (2 ^ k)
    refine ⟨by omega, by omega, by omega, ?_⟩
    unfold valueK
    rw [if_neg (by omega), if_neg (by omega), show 11 + (k + 1) - 12 = k by omega, if_pos hlt]
    have hp : 2 ^ (k + 1) = 2 ^ k + 2 ^ k := by rw [Nat.pow_succ]; omega
    have : v % 2 ^ k = v - 2 ^ k := by
      rw [Nat.mod_eq_sub_mod h1, Nat.mod_eq_of_lt (by omega)]
    rw [this]
    congr 1
    omega
theorem value_spec (c m g : Nat) (h : valueK c m = some g) : c ≤ 27 ∧ g ≤ 65535 ∧ codeN g = c ∧ moreN g = m := by
  unfold valueK at h
  by_cases h16 : c < 16
  · rw [if_pos h16] at h
    by_cases h0 : m = 0
    · rw [if_pos h0] at h
      injection h with h
      subst h h0
      unfold codeN moreN
      rw [if_pos h16, if_pos h16]
      exact ⟨by omega, by omega, rfl, rfl⟩
    · rw [if_neg h0] at h; cases h
  · rw [if_neg h16] at h
    by_cases h27 : 27 < c
    · rw [if_pos h27] at h; cases h
    · rw [if_neg h27] at h
      by_cases hm : m < 2 ^ (c - 12)
      · rw [if_pos hm] at h
        injection h with h
        obtain ⟨k, rfl⟩ : ∃ k, c = k + 12 := ⟨c - 12, by omega⟩
        rw [Nat.add_sub_cancel] at hm h
        have hp : 2 ^ (k + 1) = 2 ^ k + 2 ^ k := by rw [Nat.pow_succ]; omega
        have h4 : 2 ^ 4 ≤ 2 ^ k := Nat.pow_le_pow_right (by omega) (by omega)
        have h15 : 2 ^ k ≤ 2 ^ 15 := Nat.pow_le_pow_right (by omega) (by omega)
        have hw := wid_mid g k (by omega) (by omega)
        have hg : ¬ g < 16 := by omega
        unfold codeN moreN
        rw [if_neg hg, if_neg hg, hw, Nat.add_sub_cancel]
        refine ⟨by omega, by omega, by omega, ?_⟩
        rw [Nat.mod_eq_sub_mod (by omega), Nat.mod_eq_of_lt (by omega)]
        omega
      · rw [if_neg hm] at h; cases h
/-- Where a code has bits behind it, there is a number just if they are few enough. -/
theorem value_none (c m k : Nat) (hk : extraI c = (k : Int)) : valueK c m = none ↔ m / 2 ^ k ≠ 0 := by
  have hp := Nat.two_pow_pos k
  have e : m / 2 ^ k ≠ 0 ↔ ¬ m < 2 ^ k := by
    rw [ne_eq, Nat.div_eq_zero_iff]
    omega
  rw [e]
  unfold extraI at hk
  unfold valueK
  by_cases h16 : c < 16
  · rw [if_pos h16] at hk
    have : k = 0 := by omega
    subst this
    rw [if_pos h16]
    by_cases h0 : m = 0
    · simp [h0]
    · rw [if_neg h0]
      simp only [Nat.pow_zero, true_iff]
      omega
  · rw [if_neg h16] at hk
    by_cases h27 : 27 < c
    · rw [if_pos h27] at hk; omega
    · rw [if_neg h27] at hk
      have : k = c - 12 := by omega
      subst this
      rw [if_neg h16, if_neg h27]
      by_cases hm : m < 2 ^ (c - 12)
      · simp [hm]
      · simp [hm]
theorem value_no (c m : Nat) (hk : extraI c < 0) : valueK c m = none := by
  unfold extraI at hk
  unfold valueK
  by_cases h16 : c < 16
  · rw [if_pos h16] at hk; omega
  · rw [if_neg h16] at hk
    by_cases h27 : 27 < c
    · rw [if_neg h16, if_pos h27]
    · rw [if_neg h27] at hk; omega
theorem extra_le (c : Nat) : extraI c = -1 ∨ ∃ k : Nat, extraI c = (k : Int) ∧ k ≤ 15 := by
  unfold extraI
  split
  · exact .inr ⟨0, rfl, by omega⟩
  · split
    · exact .inl rfl
    · exact .inr ⟨c - 12, rfl, by omega⟩

/-- The number of an offset, by three recent ones; -1: it has none. -/
def numI (a b c x : Int) : Int := if x < 1 ∨ 65533 < x then -1 else if a = x then 0 else if b = x then 1 else if c = x then 2 else x + 2
/-- The recent ones behind an offset. -/
def behI (a b c x : Int) : Int × Int × Int := if a = x then (x, b, c) else if b = x then (x, a, c) else (x, a, b)
/-- The offset whose number this is. -/
def offX (a b c n : Int) : Int := if 2 < n then n - 2 else if n = 0 then a else if n = 1 then b else c
def offI (a b c n : Int) : Option Int := if n < 0 ∨ 65535 < n then none else if numI a b c (offX a b c n) = n then some (offX a b c n) else none
theorem numI_cases (a b c x : Int) : numI a b c x = -1 ∨ (0 ≤ numI a b c x ∧ numI a b c x ≤ 65535) := by
  unfold numI
  split
  · exact .inl rfl
  · refine .inr ?_
    split
    · omega
    · split
      · omega
      · split <;> omega
theorem numI_range (a b c x : Int) (h : 0 ≤ numI a b c x) : 1 ≤ x ∧ x ≤ 65533 := by
  unfold numI at h
  by_cases h1 : x < 1 ∨ 65533 < x
  · rw [if_pos h1] at h; omega
  · omega
theorem offX_zero (a b c : Int) : offX a b c 0 = a := by unfold offX; rw [if_neg (by omega), if_pos rfl]
theorem offX_one (a b c : Int) : offX a b c 1 = b := by unfold offX; rw [if_neg (by omega), if_neg (by omega), if_pos rfl]
theorem offX_two (a b c : Int) : offX a b c 2 = c := by unfold offX; rw [if_neg (by omega), if_neg (by omega), if_neg (by omega)]
theorem offX_more (a b c x : Int) (h : 0 < x) : offX a b c (x + 2) = x := by unfold offX; rw [if_pos (by omega)]; omega
theorem off_num (a b c x : Int) (h : 0 ≤ numI a b c x) : offI a b c (numI a b c x) = some x := by
  have hx : offX a b c (numI a b c x) = x := by
    unfold numI at *
    by_cases h1 : x < 1 ∨ 65533 < x
    · rw [if_pos h1] at h; omega
    · rw [if_neg h1] at *
      by_cases ha : a = x
      · rw [if_pos ha, offX_zero, ha]
      · rw [if_neg ha]
        by_cases hb : b = x
        · rw [if_pos hb, offX_one, hb]
        · rw [if_neg hb]
          by_cases hc : c = x
          · rw [if_pos hc, offX_two, hc]
          · rw [if_neg hc, offX_more _ _ _ _ (by omega)]
  have hr := numI_cases a b c x
  unfold offI
  rw [if_neg (by omega), hx, if_pos rfl]
theorem off_some (a b c n x : Int) (h : offI a b c n = some x) : 0 ≤ n ∧ n ≤ 65535 ∧ numI a b c x = n := by
  unfold offI at h
  by_cases h1 : n < 0 ∨ 65535 < n
  · rw [if_pos h1] at h; cases h
  · rw [if_neg h1] at h
    by_cases h2 : numI a b c (offX a b c n) = n
    · rw [if_pos h2] at h
      injection h with h
      exact ⟨by omega, by omega, by rw [← h]; exact h2⟩
    · rw [if_neg h2] at h; cases h
theorem off_none (a b c n : Int) (h : offI a b c n = none) : n < 0 ∨ 65535 < n ∨ (2 < n ∧ n ≤ 65535 ∧ numI a b c (n - 2) ≠ n) ∨ (n = 0 ∧ numI a b c a ≠ n) ∨ (n = 1 ∧ numI a b c b ≠ n) ∨ (n = 2 ∧ numI a b c c ≠ n) := by
  unfold offI at h
  by_cases h1 : n < 0 ∨ 65535 < n
  · omega
  · rw [if_neg h1] at h
    by_cases h2 : numI a b c (offX a b c n) = n
    · rw [if_pos h2] at h; cases h
    · unfold offX at h2
      by_cases h3 : 2 < n
      · rw [if_pos h3] at h2
        exact .inr (.inr (.inl ⟨h3, by omega, h2⟩))
      · rw [if_neg h3] at h2
        by_cases h4 : n = 0
        · rw [if_pos h4] at h2
          exact .inr (.inr (.inr (.inl ⟨h4, h2⟩)))
        · rw [if_neg h4] at h2
          by_cases h5 : n = 1
          · rw [if_pos h5] at h2
            exact .inr (.inr (.inr (.inr (.inl ⟨h5, h2⟩))))
          · rw [if_neg h5] at h2
            exact .inr (.inr (.inr (.inr (.inr ⟨by omega, h2⟩))))
end Go.Proofs.Ytlimiiimgblggaa.Bm
