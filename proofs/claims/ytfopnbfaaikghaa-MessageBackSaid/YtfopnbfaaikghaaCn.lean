/-
  Plain mathematics for layer 3 (cursor): which bytes are a number in groups, read byte by byte. It speaks of no program. No condition.
-/
import Derived.Test.YtfopnbfaaikghaaCm
namespace Go.Proofs.Ytfopnbfaaikghaa.Bm

theorem val7_append (a b : List Nat) : val7 (a ++ b) = val7 a + 128 ^ a.length * val7 b := by
  induction a with
  | nil => simp [val7]
  | cons x xs ih =>
    rw [List.cons_append, val7, ih, val7, List.length_cons, Nat.pow_succ, Nat.mul_add, ← Nat.mul_assoc, Nat.mul_comm 128 (128 ^ xs.length)]
    omega
theorem val7_lt (s : List Nat) : val7 s < 128 ^ s.length := by
  induction s with
  | nil => simp [val7]
  | cons x xs ih =>
    rw [val7, List.length_cons, Nat.pow_succ]
    omega
theorem val7_snoc (s : List Nat) (x : Nat) : val7 (s ++ [x]) = val7 s + x % 128 * 128 ^ s.length := by
  rw [val7_append]; simp [val7, Nat.mul_comm]
theorem grp_val7 : ∀ (front : List Nat) (last : Nat), (∀ b ∈ front, 128 ≤ b ∧ b < 256) → last < 128 → (last ≠ 0 ∨ front = []) → val7 (front ++ [last]) < 2 ^ 64 → grp (val7 (front ++ [last])) = front ++ [last]
  | [], last, _, hl, _, _ => by
    have e : val7 ([] ++ [last]) = last := by simp [val7]; omega
    rw [e, grp_small last hl]; rfl
  | b :: fs, last, hf, hl, h0, h64 => by
    have hl0 : last ≠ 0 := by rcases h0 with h | h; exact h; cases h
    have hb := hf b List.mem_cons_self
    rw [List.cons_append, val7] at h64 ⊢
    have ih := grp_val7 fs last (fun x hx => hf x (List.mem_cons_of_mem _ hx)) hl (.inl hl0) (by omega)
    have h1 : 1 ≤ val7 (fs ++ [last]) := by
      rw [val7_snoc]
      have h2 : 1 ≤ last % 128 * 128 ^ fs.length := Nat.mul_pos (by omega) (Nat.pow_pos (by omega))
      omega
    rw [grp_big _ (by omega) h64, show (b % 128 + 128 * val7 (fs ++ [last])) / 128 = val7 (fs ++ [last]) by omega, ih]
    congr 1
    omega
/-- What the first number in groups is, where its last byte is known. -/
theorem firstG_at (s : List Nat) (hb : ∀ x ∈ s, x < 256) (i : Nat) (hi : i < s.length) (h9 : i ≤ 9) (hlead : lead s = i) :
    firstG s = if (i = 9 ∧ s[i] = 1) ∨ (i ≠ 9 ∧ (s[i] ≠ 0 ∨ i = 0)) then (val7 (s.take (i + 1)), i + 1) else (0, 0) := by
  have hlow : s[i] < 128 := by
    have h1 := lead_low s (by omega)
    simpa [hlead] using h1
  have htake : s.take (i + 1) = s.take i ++ [s[i]] := List.take_succ_eq_append_getElem hi
  have hlen : (s.take i).length = i := by rw [List.length_take]; omega
  have hfront : ∀ b ∈ s.take i, 128 ≤ b ∧ b < 256 := by
    intro b hbm
    obtain ⟨j, hj, rfl⟩ := List.mem_iff_getElem.1 hbm
    rw [hlen] at hj
    rw [List.getElem_take]
    exact ⟨lead_high s j (by omega) (by omega), hb _ (List.getElem_mem _)⟩
  have hval : val7 (s.take (i + 1)) = val7 (s.take i) + s[i] * 128 ^ i := by rw [htake, val7_snoc, hlen, Nat.mod_eq_of_lt hlow]
  have hvl : val7 (s.take i) < 128 ^ i := by have h1 := val7_lt (s.take i); rw [hlen] at h1; exact h1
  unfold firstG
  rw [hlead, if_neg (by omega)]
  by_cases hc : (i = 9 ∧ s[i] = 1) ∨ (i ≠ 9 ∧ (s[i] ≠ 0 ∨ i = 0))
  · rw [if_pos hc]
    have h64 : val7 (s.take (i + 1)) < 2 ^ 64 := by
      rcases hc with ⟨h, h1⟩ | ⟨h, _⟩
      · rw [hval, h1]
        rw [h] at hvl ⊢
        have : (128 : Nat) ^ 9 + 1 * 128 ^ 9 = 2 ^ 64 := by decide
        omega
      · have h1 := val7_lt (s.take (i + 1))
        have h2 : 128 ^ (s.take (i + 1)).length ≤ 128 ^ 9 := Nat.pow_le_pow_right (by omega) (by rw [List.length_take]; omega)
        have h3 : (128 : Nat) ^ 9 ≤ 2 ^ 64 := by decide
        omega
    have hg : grp (val7 (s.take (i + 1))) = s.take (i + 1) := by
      rw [htake] at h64 ⊢
      refine grp_val7 _ _ hfront hlow ?_ h64
      rcases hc with ⟨_, h1⟩ | ⟨_, h1 | h1⟩
      · left; omega
      · left; exact h1
      · right; subst h1; simp
    rw [if_pos ⟨h64, hg⟩]
  · rw [if_neg hc, if_neg]
    rintro ⟨h64, hg⟩
    by_cases h0 : s[i] = 0
    · have hi0 : 0 < i := by
        rcases Nat.eq_zero_or_pos i with h | h
        · exact absurd (Or.inr ⟨by omega, Or.inr h⟩) hc
        · exact h
      have h1 : val7 (s.take (i + 1)) < 128 ^ i := by rw [hval, h0]; omega
      have h2 := (grp_len _ h64 i hi0).2 h1
      rw [hg, List.length_take] at h2
      omega
    · have h9' : i = 9 := by
        rcases Nat.lt_or_ge i 9 with h | h
        · exact absurd (Or.inr ⟨by omega, Or.inl h0⟩) hc
        · omega
      have h1 : s[i] ≠ 1 := fun h => hc (Or.inl ⟨h9', h⟩)
      have h4 : 128 ^ i = 128 ^ 9 := by rw [h9']
      rw [hval, h4] at h64
      have h2 : 2 * 128 ^ 9 ≤ s[i] * 128 ^ 9 := Nat.mul_le_mul_right _ (by omega)
      have h3 : 2 * (128 : Nat) ^ 9 = 2 ^ 64 := by decide
      omega
theorem firstG_long (s : List Nat) (h : lead s = s.length ∨ 9 < lead s) : firstG s = (0, 0) := by
  unfold firstG; rw [if_pos h]
theorem lead_up (s : List Nat) (i : Nat) (h : i ≤ lead s) (hi : i < s.length) (h1 : 128 ≤ s[i]) : i + 1 ≤ lead s := by
  rcases Nat.lt_or_ge i (lead s) with h2 | h2
  · exact h2
  · have e : lead s = i := by omega
    have h3 := lead_low s (by omega)
    simp only [e] at h3
    omega
theorem lead_at (s : List Nat) (i : Nat) (h : i ≤ lead s) (hi : i < s.length) (h1 : s[i] < 128) : lead s = i := by
  rcases Nat.lt_or_ge i (lead s) with h2 | h2
  · have := lead_high s i hi h2
    omega
  · omega
theorem val7_take (s : List Nat) (i : Nat) (hi : i < s.length) : val7 (s.take (i + 1)) = val7 (s.take i) + s[i] % 128 * 128 ^ i := by
  rw [List.take_succ_eq_append_getElem hi, val7_snoc, List.length_take, Nat.min_eq_left (by omega)]
end Go.Proofs.Ytfopnbfaaikghaa.Bm
