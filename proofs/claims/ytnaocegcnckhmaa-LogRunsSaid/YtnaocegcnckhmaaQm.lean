/-
  Mathematics of layer 18 (ring): the last of a list; places that go round. No condition.
-/
namespace Go.Proofs.Ytnaocegcnckhmaa
namespace Bm

/-- The last m. -/
def lastL {α : Type} (m : Nat) (l : List α) : List α := l.drop (l.length - m)
section
variable {α : Type}
theorem lastL_short (m : Nat) (l : List α) (h : l.length ≤ m) : lastL m l = l := by
  unfold lastL
  rw [show l.length - m = 0 by omega, List.drop_zero]
theorem lastL_length (m : Nat) (l : List α) : (lastL m l).length = min l.length m := by
  unfold lastL
  rw [List.length_drop]
  omega
theorem lastL_mem {m : Nat} {l : List α} {x : α} (h : x ∈ lastL m l) : x ∈ l := List.mem_of_mem_drop h
theorem lastL_snoc (m : Nat) (l : List α) (x : α) (hm : 0 < m) : lastL m (lastL m l ++ [x]) = lastL m (l ++ [x]) := by
  unfold lastL
  rw [← List.drop_append_of_le_length (l₂ := [x]) (by omega : l.length - m ≤ l.length), List.drop_drop, List.length_drop, List.length_append, List.length_singleton]
  congr 1
  omega
theorem lastL_room (m : Nat) (l : List α) (x : α) (h : l.length < m) : lastL m (l ++ [x]) = l ++ [x] := lastL_short m _ (by rw [List.length_append, List.length_singleton]; omega)
theorem lastL_full (m : Nat) (l : List α) (x : α) (hm : 0 < m) (h : l.length = m) : lastL m (l ++ [x]) = l.drop 1 ++ [x] := by
  unfold lastL
  rw [List.length_append, List.length_singleton, h, show m + 1 - m = 1 by omega, List.drop_append_of_le_length (by omega)]
theorem lastL_nil (m : Nat) : lastL m ([] : List α) = [] := by simp [lastL]
theorem lastL_take (m : Nat) (l : List α) (k : Nat) (hm : 0 < m) (h : k < l.length) : lastL m (lastL m (l.take k) ++ [l[k]]) = lastL m (l.take (k + 1)) := by
  rw [lastL_snoc m _ _ hm, List.take_succ_eq_append_getElem h]
end

/-- How many places are asked for, brought to 1 up to 64. -/
def placesN (n : Int) : Nat := (min (max n 1) 64).toNat
theorem places_le (n : Int) : 1 ≤ placesN n ∧ placesN n ≤ 64 ∧ min (max n 1) 64 = (placesN n : Int) := by
  unfold placesN
  omega

/-- Where the i-th one is of those that begin at place f, of m places. -/
def posR (f m i : Nat) : Nat := if f + i < m then f + i else f + i - m
theorem mod_posR (f m i : Nat) (hf : f < m) (hi : i ≤ m) : (f + i) % m = posR f m i := by
  unfold posR
  split
  · exact Nat.mod_eq_of_lt (by assumption)
  · rw [Nat.mod_eq_sub_mod (by omega), Nat.mod_eq_of_lt (by omega)]
theorem posR_lt (f m i : Nat) (hf : f < m) (hi : i ≤ m) : posR f m i < m := by
  unfold posR
  split <;> omega
theorem posR_ne (f m i j : Nat) (_hf : f < m) (hi : i < j) (hj : j < m) : posR f m i ≠ posR f m j := by
  unfold posR
  split <;> split <;> omega
theorem posR_full (f m : Nat) (_hf : f < m) : posR f m m = f := by
  unfold posR
  split <;> omega
theorem posR_next (f m i : Nat) (hf : f < m) (hi : i < m) : posR (posR f m 1) m i = posR f m (i + 1) ∨ i + 1 = m ∧ posR (posR f m 1) m i = f := by
  unfold posR
  split <;> split <;> split <;> omega
theorem posR_one (f m i : Nat) (hf : f < m) (hi : i + 1 < m) : posR (posR f m 1) m i = posR f m (i + 1) := by
  rcases posR_next f m i hf (by omega) with h | h
  · exact h
  · omega
theorem posR_end (f m i : Nat) (hf : f < m) (hi : i + 1 = m) : posR (posR f m 1) m i = f := by
  rcases posR_next f m i hf (by omega) with h | h
  · rw [h, hi, posR_full f m hf]
  · exact h.2

/-- The bytes of texts. -/
def sizeS (l : List ByteArray) : Nat := (l.map ByteArray.size).sum
theorem sizeS_take (l : List ByteArray) (k : Nat) (h : k < l.length) : sizeS (l.take (k + 1)) = sizeS (l.take k) + l[k].size := by
  unfold sizeS
  rw [List.take_succ_eq_append_getElem h, List.map_append, List.sum_append]
  simp
theorem sizeS_le (B : Nat) (l : List ByteArray) (h : ∀ s ∈ l, s.size ≤ B) : sizeS l ≤ l.length * B := by
  unfold sizeS
  induction l with
  | nil => simp
  | cons x l ih =>
    have h1 := h x List.mem_cons_self
    have h2 := ih (fun s hs => h s (List.mem_cons_of_mem _ hs))
    rw [List.map_cons, List.sum_cons, List.length_cons, Nat.add_mul]
    omega
theorem sizeS_bound (l : List ByteArray) (n : Nat) (hn : l.length ≤ n) (h : ∀ s ∈ l, s.size ≤ 281474976710656) : sizeS l ≤ n * 281474976710656 :=
  Nat.le_trans (sizeS_le _ l h) (Nat.mul_le_mul_right _ hn)
/-- A list of texts, made so far: the first k, the others empty. -/
def fillS (l : List ByteArray) (k : Nat) : List ByteArray := l.take k ++ List.replicate (l.length - k) ⟨#[]⟩
theorem fillS_zero (l : List ByteArray) : fillS l 0 = List.replicate l.length ⟨#[]⟩ := by simp [fillS]
theorem fillS_all (l : List ByteArray) : fillS l l.length = l := by simp [fillS]
theorem fillS_length (l : List ByteArray) (k : Nat) (h : k ≤ l.length) : (fillS l k).length = l.length := by
  rw [fillS, List.length_append, List.length_take, List.length_replicate]
  omega
theorem fillS_next (l : List ByteArray) (k : Nat) (h : k < l.length) : (fillS l k).set k l[k] = fillS l (k + 1) := by
  have e : (l.take k).length = k := by rw [List.length_take]; omega
  rw [fillS, fillS, List.take_succ_eq_append_getElem h, show l.length - k = (l.length - (k + 1)) + 1 by omega, List.replicate_succ, List.set_append, if_neg (by omega), e, Nat.sub_self, List.set_cons_zero, List.append_assoc]
  rfl
end Bm
end Go.Proofs.Ytnaocegcnckhmaa
