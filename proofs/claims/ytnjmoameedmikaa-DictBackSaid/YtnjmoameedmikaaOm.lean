/-
  Layer 20 (dict), plain mathematics: a dictionary's bytes, what any bytes are read as, that the one undoes the other, and what a byte that is another one makes of it. No condition.
-/
import Derived.Test.YtnjmoameedmikaaSm
import Derived.Test.YtnjmoameedmikaaMc
namespace Go.Proofs.Ytnjmoameedmikaa.Bm

/-- A dictionary's bytes, by the number that stands for its name. -/
def dictN (v : Nat) (t : List Nat) : List Nat := [80, 68] ++ bytesOf v 8 ++ (grp t.length ++ t)
def dictB (t : List Nat) : List Nat := dictN (sumOf t) t
/-- What any bytes are read as: the dictionary and 0, or nothing and an error. -/
def dictT (v n : Nat) (t : List Nat) : List Nat × Nat := if 256 < n then ([], 5) else if t.length ≠ n then ([], 3) else if v ≠ sumOf t then ([], 4) else (t, 0)
def dictD (s : List Nat) : List Nat × Nat :=
  if s.length < 10 ∨ s.take 2 ≠ [80, 68] ∨ (firstG (s.drop 10)).2 = 0 then ([], 3)
  else dictT (valB ((s.take 10).drop 2)) (firstG (s.drop 10)).1 ((s.drop 10).drop (firstG (s.drop 10)).2)
theorem dictN_len (v : Nat) (t : List Nat) : (dictN v t).length = 10 + ((grp t.length).length + t.length) := by
  unfold dictN; rw [List.length_append, List.length_append, List.length_append, bytesOf_length]; simp
theorem dictN_drop (v : Nat) (t : List Nat) : (dictN v t).drop 10 = grp t.length ++ t := by
  unfold dictN
  rw [List.drop_append_of_le_length (by rw [List.length_append, bytesOf_length]; simp), List.drop_of_length_le (by rw [List.length_append, bytesOf_length]; simp), List.nil_append]
theorem dictN_take (v : Nat) (t : List Nat) : (dictN v t).take 10 = [80, 68] ++ bytesOf v 8 := by
  unfold dictN
  rw [List.take_append_of_le_length (by rw [List.length_append, bytesOf_length]; simp), List.take_of_length_le (by rw [List.length_append, bytesOf_length]; simp)]
theorem dict_read (v : Nat) (t : List Nat) (hv : v < 2 ^ 64) (ht : t.length < 2 ^ 64) : dictD (dictN v t) = dictT v t.length t := by
  have h1 := firstG_grp t.length t ht
  have hp := grp_pos t.length ht
  unfold dictD
  rw [dictN_drop, h1, dictN_take, dictN_len, if_neg (by
    rintro (h | h | h)
    · omega
    · exact h (by unfold dictN; simp)
    · dsimp only at h; omega)]
  dsimp only
  have e : List.drop 2 ([80, 68] ++ bytesOf v 8) = bytesOf v 8 := rfl
  rw [List.drop_left, e, valB_bytesOf, Nat.mod_eq_of_lt (by rw [p256]; exact hv)]
theorem dict_back (t : List Nat) (ht : t.length ≤ 256) : dictD (dictB t) = (t, 0) := by
  unfold dictB
  rw [dict_read _ _ (sumOf_lt t) (by omega)]
  unfold dictT
  rw [if_neg (by omega), if_neg (by simp), if_neg (by simp)]
theorem dict_other (v : Nat) (t : List Nat) (hv : v < 2 ^ 64) (ht : t.length ≤ 256) (hne : v ≠ sumOf t) : dictD (dictN v t) = ([], 4) := by
  rw [dict_read _ _ hv (by omega)]
  unfold dictT
  rw [if_neg (by omega), if_neg (by simp), if_pos hne]
theorem dictT_err (v n : Nat) (t : List Nat) : (dictT v n t).2 ≤ 5 := by unfold dictT; split; simp; split; simp; split <;> simp
theorem dictD_err (s : List Nat) : (dictD s).2 ≤ 5 := by unfold dictD; split; simp; exact dictT_err _ _ _
theorem dictT_none (v n : Nat) (t : List Nat) (h : (dictT v n t).2 ≠ 0) : (dictT v n t).1 = [] := by
  revert h; unfold dictT; split; simp; split; simp; split <;> simp
theorem dictD_none (s : List Nat) (h : (dictD s).2 ≠ 0) : (dictD s).1 = [] := by
  revert h; unfold dictD; split; simp; exact dictT_none _ _ _
theorem dictT_some (v n : Nat) (t : List Nat) (h : (dictT v n t).2 = 0) : n ≤ 256 ∧ t.length = n ∧ v = sumOf t ∧ (dictT v n t).1 = t := by
  unfold dictT at h ⊢
  split at h
  · cases h
  · split at h
    · cases h
    · split at h
      · cases h
      · rename_i h1 h2 h3
        rw [if_neg h1, if_neg h2, if_neg h3]
        exact ⟨by omega, by omega, by simpa using h3, rfl⟩
theorem dictD_some (s : List Nat) (hs : ∀ x ∈ s, x < 256) (h : (dictD s).2 = 0) : (dictD s).1.length ≤ 256 ∧ dictB (dictD s).1 = s ∧ (∀ x ∈ (dictD s).1, x < 256) := by
  unfold dictD at h ⊢
  split at h
  · cases h
  · rename_i hn
    rw [if_neg hn]
    obtain ⟨v, k, hg⟩ : ∃ v k, firstG (s.drop 10) = (v, k) := ⟨_, _, rfl⟩
    rw [hg] at h hn ⊢
    dsimp only at h hn ⊢
    obtain ⟨h1, h2, h3, h4⟩ := dictT_some _ _ _ h
    rw [h4]
    have hk : 0 < k := by omega
    obtain ⟨g1, g2, g3⟩ := firstG_some _ v k hk hg
    refine ⟨by omega, ?_, fun x hx => hs x (List.mem_of_mem_drop (List.mem_of_mem_drop hx))⟩
    have h2' : s.take 2 = [80, 68] := Classical.byContradiction fun e => hn (Or.inr (Or.inl e))
    have e1 : bytesOf (sumOf ((s.drop 10).drop k)) 8 = (s.take 10).drop 2 := by
      rw [← h3]
      have h5 := bytesOf_valB ((s.take 10).drop 2) (fun x hx => hs x (List.mem_of_mem_take (List.mem_of_mem_drop hx)))
      have h6 : ((s.take 10).drop 2).length = 8 := by rw [List.length_drop, List.length_take]; omega
      rw [h6] at h5
      exact h5
    unfold dictB dictN
    rw [e1, h2, ← g2, ← h2', show s.take 2 = (s.take 10).take 2 by rw [List.take_take]; rfl, List.take_append_drop, List.take_append_drop, List.take_append_drop]
/-- One byte of the name is another one. -/
theorem dict_set_name (v i x : Nat) (t : List Nat) (hi : i < 8) (hx : x < 256) (hne : v / 256 ^ i % 256 ≠ x) :
    ∃ u, (dictN v t).set (2 + i) x = dictN u t ∧ u < 2 ^ 64 ∧ u ≠ v := by
  have hl : ((bytesOf v 8).set i x).length = 8 := by rw [List.length_set, bytesOf_length]
  have hlt : ∀ b ∈ (bytesOf v 8).set i x, b < 256 := by
    intro b hb
    rcases List.mem_or_eq_of_mem_set hb with h | h
    · exact bytesOf_lt v 8 b h
    · omega
  have hb := bytesOf_valB _ hlt
  rw [hl] at hb
  have h64 := valB_lt _ hlt
  rw [hl, p256] at h64
  refine ⟨valB ((bytesOf v 8).set i x), ?_, h64, ?_⟩
  · unfold dictN
    rw [hb, List.set_append_left _ _ (by rw [List.length_append, bytesOf_length]; simp; omega), List.set_append_right _ _ (by simp), show 2 + i - [80, 68].length = i by simp]
  · intro e
    rw [e] at hb
    have h1 : (bytesOf v 8)[i]? = ((bytesOf v 8).set i x)[i]? := by rw [← hb]
    rw [bytesOf_get? _ _ _ hi, List.getElem?_set_self (by rw [bytesOf_length]; exact hi)] at h1
    injection h1 with h1
    exact hne h1
/-- One byte of the text is another one. -/
theorem dict_set_text (v j x : Nat) (t : List Nat) : (dictN v t).set ((dictN v t).length - t.length + j) x = dictN v (t.set j x) := by
  rw [dictN_len]
  unfold dictN
  rw [List.length_set, List.set_append_right _ _ (by rw [List.length_append, bytesOf_length]; simp; omega), List.set_append_right _ _ (by rw [List.length_append, bytesOf_length]; simp; omega)]
  congr 3
  rw [List.length_append, bytesOf_length]
  simp
  omega
theorem dict_set_ans (v j x : Nat) (t : List Nat) (ht : t.length ≤ 256) (hv : v < 2 ^ 64) :
    dictD ((dictN v t).set ((dictN v t).length - t.length + j) x) = if v = sumOf (t.set j x) then (t.set j x, 0) else ([], 4) := by
  rw [dict_set_text, dict_read _ _ hv (by rw [List.length_set]; omega)]
  unfold dictT
  rw [List.length_set, if_neg (by omega), if_neg (by simp)]
  by_cases h : v = sumOf (t.set j x)
  · rw [if_neg (by simpa using h), if_pos h]
  · rw [if_pos h, if_neg h]
theorem dictB_lt (t : List Nat) (ht : ∀ x ∈ t, x < 256) (hl : t.length < 2 ^ 64) : ∀ x ∈ dictB t, x < 256 := by
  intro x hx
  unfold dictB dictN at hx
  rcases List.mem_append.1 hx with h | h
  · rcases List.mem_append.1 h with h | h
    · simp at h; omega
    · exact bytesOf_lt _ _ x h
  · rcases List.mem_append.1 h with h | h
    · exact grp_lt _ hl x h
    · exact ht x h
theorem xor_ne (x b : Nat) (hx : x < 256) (hb : b < 256) (h0 : b ≠ 0) : x ^^^ b ≠ x ∧ x ^^^ b < 256 := by
  refine ⟨fun e => h0 ?_, Nat.xor_lt_two_pow (n := 8) hx hb⟩
  have h1 : x ^^^ (x ^^^ b) = x ^^^ x := by rw [e]
  rw [← Nat.xor_assoc, Nat.xor_self, Nat.zero_xor] at h1
  exact h1
end Go.Proofs.Ytnjmoameedmikaa.Bm
