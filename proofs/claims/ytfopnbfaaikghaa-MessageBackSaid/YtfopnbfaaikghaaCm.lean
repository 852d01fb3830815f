/-
  Plain mathematics for layer 3 (cursor): a number in groups. It speaks of no program. No condition.
-/
import Derived.Test.YtfopnbfaaikghaaBm
namespace Go.Proofs.Ytfopnbfaaikghaa.Bm

/-- A number in groups: seven bits each, the lowest first, 128 more in each but the last one. -/
def grpF : Nat → Nat → List Nat
  | 0, v => [v % 128]
  | f + 1, v => if v < 128 then [v] else (v % 128 + 128) :: grpF f (v / 128)
def grp (v : Nat) : List Nat := grpF 64 v
theorem grpF_fuel : ∀ (f v : Nat), v < 128 ^ (f + 1) → ∀ g, f ≤ g → grpF g v = grpF f v
  | 0, v, h, g, _ => by
    have h1 : v < 128 := by simpa using h
    cases g with
    | zero => rfl
    | succ g => simp [grpF, h1, Nat.mod_eq_of_lt h1]
  | f + 1, v, h, g, hg => by
    obtain ⟨g', rfl⟩ : ∃ k, g = k + 1 := ⟨g - 1, by omega⟩
    simp only [grpF]
    split
    · rfl
    · rw [grpF_fuel f (v / 128) (by rw [Nat.div_lt_iff_lt_mul (by omega), ← Nat.pow_succ]; exact h) g' (by omega)]
theorem grp_small (v : Nat) (h : v < 128) : grp v = [v] := by simp [grp, grpF, h]
theorem grp_big (v : Nat) (h : 128 ≤ v) (h64 : v < 2 ^ 64) : grp v = (v % 128 + 128) :: grp (v / 128) := by
  have h1 : v / 128 < 128 ^ (63 + 1) := by
    have : (2 : Nat) ^ 64 ≤ 128 ^ (63 + 1) := by decide +kernel
    have := Nat.div_le_self v 128
    omega
  unfold grp
  rw [grpF_fuel 63 (v / 128) h1 64 (by omega), show (64 : Nat) = 63 + 1 from rfl, grpF, if_neg (by omega)]
/-- The number whose groups these are. -/
def val7 : List Nat → Nat
  | [] => 0
  | b :: bs => b % 128 + 128 * val7 bs
theorem grp_induct {P : Nat → Prop} (small : ∀ v, v < 128 → P v) (big : ∀ v, 128 ≤ v → v < 2 ^ 64 → P (v / 128) → P v) : ∀ v, v < 2 ^ 64 → P v := by
  intro v
  induction v using Nat.strongRecOn with
  | _ v ih =>
    intro h
    by_cases h1 : v < 128
    · exact small v h1
    · exact big v (by omega) h (ih (v / 128) (by omega) (by omega))
theorem grp_val (v : Nat) (h : v < 2 ^ 64) : val7 (grp v) = v := by
  refine grp_induct (P := fun v => val7 (grp v) = v) ?_ ?_ v h
  · intro v h; rw [grp_small v h]; simp [val7]; omega
  · intro v h1 h2 ih; rw [grp_big v h1 h2, val7, ih]; omega
theorem grp_lt (v : Nat) (h : v < 2 ^ 64) : ∀ b ∈ grp v, b < 256 := by
  refine grp_induct (P := fun v => ∀ b ∈ grp v, b < 256) ?_ ?_ v h
  · intro v h b hb; rw [grp_small v h] at hb; simp at hb; omega
  · intro v h1 h2 ih b hb
    rw [grp_big v h1 h2] at hb
    rcases List.mem_cons.1 hb with rfl | hb
    · omega
    · exact ih b hb
theorem grp_pos (v : Nat) (h : v < 2 ^ 64) : 0 < (grp v).length := by
  by_cases h1 : v < 128
  · rw [grp_small v h1]; simp
  · rw [grp_big v (by omega) h]; simp
/-- How long the groups are: no more than k just if the number is below 128 ^ k. -/
theorem grp_len (v : Nat) (h : v < 2 ^ 64) : ∀ k, 0 < k → ((grp v).length ≤ k ↔ v < 128 ^ k) := by
  refine grp_induct (P := fun v => ∀ k, 0 < k → ((grp v).length ≤ k ↔ v < 128 ^ k)) ?_ ?_ v h
  · intro v h k hk
    rw [grp_small v h]
    obtain ⟨j, rfl⟩ : ∃ j, k = j + 1 := ⟨k - 1, by omega⟩
    have : 128 ≤ 128 ^ (j + 1) := by
      rw [Nat.pow_succ]
      have := Nat.pow_pos (n := j) (show 0 < 128 by omega)
      omega
    simp; omega
  · intro v h1 h2 ih k hk
    rw [grp_big v h1 h2]
    obtain ⟨j, rfl⟩ : ∃ j, k = j + 1 := ⟨k - 1, by omega⟩
    rcases Nat.eq_zero_or_pos j with h0 | h0
    · subst h0
      have := grp_pos (v / 128) (by omega)
      rw [List.length_cons, Nat.zero_add, Nat.pow_one]
      omega
    · have h3 := ih j h0
      rw [Nat.div_lt_iff_lt_mul (by omega), ← Nat.pow_succ] at h3
      rw [List.length_cons, ← h3]
      omega
theorem grp_ten (v : Nat) (h : v < 2 ^ 64) : (grp v).length ≤ 10 := by
  refine (grp_len v h 10 (by omega)).2 (Nat.lt_of_lt_of_le h ?_)
  decide +kernel
theorem grp_mono (a b : Nat) (hb : b < 2 ^ 64) (h : a ≤ b) : (grp a).length ≤ (grp b).length := by
  have h1 := grp_pos b hb
  refine (grp_len a (by omega) _ h1).2 (Nat.lt_of_le_of_lt h ((grp_len b hb _ h1).1 (Nat.le_refl _)))
theorem grp_inj (a b : Nat) (ha : a < 2 ^ 64) (hb : b < 2 ^ 64) (h : grp a = grp b) : a = b := by
  rw [← grp_val a ha, ← grp_val b hb, h]
/-- All but the last one have their highest bit, and the last one has not. -/
theorem grp_high (v : Nat) (h : v < 2 ^ 64) : ∃ front last, grp v = front ++ [last] ∧ last < 128 ∧ ∀ b ∈ front, 128 ≤ b := by
  refine grp_induct (P := fun v => ∃ front last, grp v = front ++ [last] ∧ last < 128 ∧ ∀ b ∈ front, 128 ≤ b) ?_ ?_ v h
  · intro v h; exact ⟨[], v, by rw [grp_small v h]; rfl, h, by simp⟩
  · intro v h1 h2 ⟨front, last, e, hl, hf⟩
    refine ⟨(v % 128 + 128) :: front, last, by rw [grp_big v h1 h2, e]; rfl, hl, ?_⟩
    intro b hb
    rcases List.mem_cons.1 hb with rfl | hb
    · omega
    · exact hf b hb
/-- What is behind the first k groups is what is left of the number. -/
theorem grp_drop (v : Nat) (h : v < 2 ^ 64) : ∀ k, k < (grp v).length → (grp v).drop k = grp (v / 128 ^ k) := by
  refine grp_induct (P := fun v => ∀ k, k < (grp v).length → (grp v).drop k = grp (v / 128 ^ k)) ?_ ?_ v h
  · intro v h k hk
    rw [grp_small v h] at hk
    obtain rfl : k = 0 := by simpa using hk
    simp
  · intro v h1 h2 ih k hk
    cases k with
    | zero => simp
    | succ k =>
      rw [grp_big v h1 h2] at hk ⊢
      rw [List.drop_succ_cons, ih k (by simpa using hk), Nat.div_div_eq_div_mul, Nat.pow_succ, Nat.mul_comm 128]
/-- How many bytes ahead have their highest bit. -/
def lead : List Nat → Nat
  | [] => 0
  | b :: bs => if 128 ≤ b then lead bs + 1 else 0
theorem lead_le (s : List Nat) : lead s ≤ s.length := by
  induction s with
  | nil => simp [lead]
  | cons b bs ih => simp only [lead]; split <;> simp <;> omega
theorem lead_high (s : List Nat) : ∀ i (h : i < s.length), i < lead s → 128 ≤ s[i] := by
  induction s with
  | nil => intro i h; simp at h
  | cons b bs ih =>
    intro i h hi
    simp only [lead] at hi
    split at hi
    · cases i with
      | zero => simpa
      | succ i => simpa using ih i (by simpa using h) (by omega)
    · omega
theorem lead_low (s : List Nat) (h : lead s < s.length) : s[lead s] < 128 := by
  induction s with
  | nil => simp at h
  | cons b bs ih =>
    simp only [lead] at h ⊢
    split
    · rename_i hb
      rw [if_pos hb] at h
      simpa using ih (by simpa using h)
    · simp; omega
theorem lead_front (front : List Nat) (last : Nat) (rest : List Nat) (hl : last < 128) (hf : ∀ b ∈ front, 128 ≤ b) : lead (front ++ last :: rest) = front.length := by
  induction front with
  | nil => simp [lead]; omega
  | cons b bs ih =>
    simp only [List.cons_append, lead]
    rw [if_pos (hf b List.mem_cons_self), ih (fun x hx => hf x (List.mem_cons_of_mem _ hx))]
    simp
/-- The number in groups at the beginning, and how many bytes it has; 0, 0: there is none. -/
def firstG (s : List Nat) : Nat × Nat :=
  if lead s = s.length ∨ 9 < lead s then (0, 0)
  else if val7 (s.take (lead s + 1)) < 2 ^ 64 ∧ grp (val7 (s.take (lead s + 1))) = s.take (lead s + 1) then (val7 (s.take (lead s + 1)), lead s + 1) else (0, 0)
theorem firstG_grp (v : Nat) (rest : List Nat) (h : v < 2 ^ 64) : firstG (grp v ++ rest) = (v, (grp v).length) := by
  obtain ⟨front, last, e, hl, hf⟩ := grp_high v h
  have h10 := grp_ten v h
  have hlead : lead (grp v ++ rest) = front.length := by rw [e, List.append_assoc]; exact lead_front front last rest hl hf
  have hlen : (grp v).length = front.length + 1 := by rw [e]; simp
  have htake : (grp v ++ rest).take (front.length + 1) = grp v := by rw [← hlen]; simp
  unfold firstG
  rw [hlead, htake, grp_val v h, if_neg (by rw [List.length_append, hlen]; omega), if_pos ⟨h, rfl⟩, hlen]
theorem firstG_some (s : List Nat) (v k : Nat) (hk : 0 < k) (h : firstG s = (v, k)) : v < 2 ^ 64 ∧ s.take k = grp v ∧ k ≤ s.length := by
  unfold firstG at h
  split at h
  · injection h with h1 h2; omega
  · rename_i hn
    split at h
    · rename_i hg
      injection h with h1 h2
      have := lead_le s
      subst h1 h2
      exact ⟨hg.1, hg.2.symm, by omega⟩
    · injection h with h1 h2; omega
theorem firstG_none (s : List Nat) (v : Nat) (h : firstG s = (v, 0)) : v = 0 := by
  unfold firstG at h
  split at h
  · injection h with h1 h2; exact h1.symm
  · split at h
    · injection h with h1 h2; omega
    · injection h with h1 h2; exact h1.symm
theorem val7_drop (s : List Nat) (i : Nat) (h : i < s.length) : val7 (s.drop i) = s[i] % 128 + 128 * val7 (s.drop (i + 1)) := by
  rw [List.drop_eq_getElem_cons h, val7]
theorem val7_ge (s : List Nat) (i : Nat) : 128 ^ i * val7 (s.drop i) ≤ val7 s := by
  induction i generalizing s with
  | zero => simp
  | succ i ih =>
    cases s with
    | nil => simp [val7]
    | cons b bs =>
      rw [List.drop_succ_cons, val7, Nat.pow_succ]
      have h1 := Nat.mul_le_mul_left 128 (ih bs)
      rw [Nat.mul_comm (128 ^ i) 128, Nat.mul_assoc]
      omega
theorem val7_big (s : List Nat) (i : Nat) (hi : 0 < i) (h : 144115188075855871 < val7 (s.drop i)) : ¬ val7 s < 2 ^ 64 := by
  have h1 := val7_ge s i
  obtain ⟨j, rfl⟩ : ∃ j, i = j + 1 := ⟨i - 1, by omega⟩
  rw [Nat.pow_succ, Nat.mul_assoc] at h1
  have h2 := Nat.mul_le_mul_right (128 * val7 (s.drop (j + 1))) (show 1 ≤ 128 ^ j from Nat.pow_pos (by omega))
  omega
end Go.Proofs.Ytfopnbfaaikghaa.Bm
