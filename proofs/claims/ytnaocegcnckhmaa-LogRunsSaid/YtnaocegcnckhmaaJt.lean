/-
  Mathematics of layer 26 (log): what Append, At and Truncate answer, and what becomes of the records and of how many are old. No condition.
-/
namespace Go.Proofs.Ytnaocegcnckhmaa
namespace Bm

/-- Append: the place, the error, the records. -/
def lgApp (l : List ByteArray) (s : ByteArray) : Nat × Nat × List ByteArray := if 512 < s.size then (0, 5, l) else if l.length = 400 then (0, 2, l) else (l.length, 0, l ++ [s])
theorem lgApp_long (l : List ByteArray) (s : ByteArray) (h : 512 < s.size) : lgApp l s = (0, 5, l) := by unfold lgApp; rw [if_pos h]
theorem lgApp_full (l : List ByteArray) (s : ByteArray) (h : ¬ 512 < s.size) (h2 : l.length = 400) : lgApp l s = (0, 2, l) := by unfold lgApp; rw [if_neg h, if_pos h2]
theorem lgApp_yes (l : List ByteArray) (s : ByteArray) (h : ¬ 512 < s.size) (h2 : ¬ l.length = 400) : lgApp l s = (l.length, 0, l ++ [s]) := by unfold lgApp; rw [if_neg h, if_neg h2]
theorem lgApp_len (l : List ByteArray) (s : ByteArray) : l.length ≤ (lgApp l s).2.2.length ∧ (lgApp l s).2.2.length ≤ l.length + 1 := by
  unfold lgApp
  split
  · exact ⟨Nat.le_refl _, Nat.le_succ _⟩
  · split
    · exact ⟨Nat.le_refl _, Nat.le_succ _⟩
    · simp
/-- At: the record, the error. -/
def lgAt (l : List ByteArray) (k : Nat) (i : Int) : ByteArray × Nat := if h : 0 ≤ i ∧ i < (l.length : Int) then if i < (k : Int) then (⟨#[]⟩, 7) else (l[i.toNat]'(by omega), 0) else (⟨#[]⟩, 10)
theorem lgAt_none (l : List ByteArray) (k : Nat) (i : Int) (h : ¬ (0 ≤ i ∧ i < (l.length : Int))) : lgAt l k i = (⟨#[]⟩, 10) := by unfold lgAt; rw [dif_neg h]
theorem lgAt_old (l : List ByteArray) (k j : Nat) (h : j < l.length) (h2 : j < k) : lgAt l k (j : Int) = (⟨#[]⟩, 7) := by unfold lgAt; rw [dif_pos ⟨by omega, by omega⟩, if_pos (by omega)]
theorem lgAt_yes (l : List ByteArray) (k j : Nat) (h : j < l.length) (h2 : k ≤ j) : lgAt l k (j : Int) = (l[j], 0) := by
  unfold lgAt
  rw [dif_pos ⟨by omega, by omega⟩, if_neg (by omega)]
  rfl
/-- Truncate: is it done, how many are old. -/
def lgTr (l : List ByteArray) (k : Nat) (n : Int) : Bool × Nat := if (k : Int) < n ∧ n ≤ (l.length : Int) then (true, n.toNat) else (false, k)
theorem lgTr_no (l : List ByteArray) (k : Nat) (n : Int) (h : ¬ ((k : Int) < n ∧ n ≤ (l.length : Int))) : lgTr l k n = (false, k) := by unfold lgTr; rw [if_neg h]
theorem lgTr_yes (l : List ByteArray) (k j : Nat) (h : k < j) (h2 : j ≤ l.length) : lgTr l k (j : Int) = (true, j) := by
  unfold lgTr
  rw [if_pos ⟨by omega, by omega⟩]
  rfl
theorem lgTr_le (l : List ByteArray) (k : Nat) (n : Int) (h : k ≤ l.length) : (lgTr l k n).2 ≤ l.length := by
  unfold lgTr
  split
  · show n.toNat ≤ _; omega
  · exact h
end Bm
end Go.Proofs.Ytnaocegcnckhmaa
