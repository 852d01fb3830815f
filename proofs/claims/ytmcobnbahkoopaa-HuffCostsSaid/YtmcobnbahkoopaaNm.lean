/-
  Plain mathematics for layer 5 (count): the share of counts of a size, and what it sums to; a log for counts. It speaks of no program. No condition.
-/
import Derived.Test.YtmcobnbahkoopaaIn
namespace Go.Proofs.Ytmcobnbahkoopaa.Bm

/-- The greatest of these (0: there are none), and the first place where it lies. -/
def maxL : List Nat → Nat
  | [] => 0
  | x :: l => max x (maxL l)
def firstMax (l : List Nat) : Nat := l.idxOf (maxL l)
theorem maxL_le (l : List Nat) : ∀ x ∈ l, x ≤ maxL l := by
  induction l with
  | nil => intro x h; cases h
  | cons a l ih =>
    intro x h
    rw [maxL]
    rcases List.mem_cons.1 h with rfl | h
    · omega
    · have := ih x h; omega
theorem maxL_mem (l : List Nat) (h : l ≠ []) : maxL l ∈ l := by
  induction l with
  | nil => exact absurd rfl h
  | cons a l ih =>
    rw [maxL]
    by_cases hl : l = []
    · subst hl; simp [maxL]
    · have h1 := ih hl
      by_cases h2 : maxL l ≤ a
      · rw [Nat.max_eq_left h2]; exact List.mem_cons_self
      · rw [Nat.max_eq_right (by omega)]; exact List.mem_cons_of_mem _ h1
theorem firstMax_lt (l : List Nat) (h : l ≠ []) : firstMax l < l.length := List.idxOf_lt_length_of_mem (maxL_mem l h)
theorem firstMax_get (l : List Nat) (h : firstMax l < l.length) : l[firstMax l] = maxL l := List.getElem_idxOf h
theorem maxL_append (a b : List Nat) : maxL (a ++ b) = max (maxL a) (maxL b) := by
  induction a with
  | nil => simp [maxL]
  | cons x a ih => rw [List.cons_append, maxL, ih, maxL]; omega
/-- One number more: the place of the first greatest goes on only if it is greater than all. -/
theorem firstMax_snoc (a : List Nat) (x : Nat) (h : a ≠ []) : firstMax (a ++ [x]) = if maxL a < x then a.length else firstMax a := by
  have hm := maxL_mem a h
  have e : maxL [x] = x := by simp [maxL]
  unfold firstMax
  rw [maxL_append, e]
  split
  · next hlt =>
    rw [Nat.max_eq_right (by omega), List.idxOf_append, if_neg (fun hx => by have := maxL_le a x hx; omega)]
    simp
  · next hlt =>
    rw [Nat.max_eq_left (by omega), List.idxOf_append, if_pos hm]
theorem sum_modify (p : List Nat) (k : Nat) (f : Nat → Nat) (h : k < p.length) : (p.modify k f).sum + p[k] = p.sum + f p[k] := by
  induction p generalizing k with
  | nil => simp at h
  | cons a p ih =>
    cases k with
    | zero => simp; omega
    | succ k =>
      have := ih k (by simpa using h)
      simp [List.modify_succ_cons] at this ⊢
      omega
theorem get_modify (p : List Nat) (k i : Nat) (f : Nat → Nat) : (p.modify k f)[i]? = if k = i then p[i]?.map f else p[i]? := by
  rw [List.getElem?_modify]
  cases h : p[i]? <;> split <;> simp
/-- Are they above 0 at the same places? -/
def SamePos (p q : List Nat) : Prop := p.length = q.length ∧ ∀ i : Nat, 0 < p[i]?.getD 0 ↔ 0 < q[i]?.getD 0
theorem SamePos.refl (p : List Nat) : SamePos p p := ⟨rfl, fun _ => Iff.rfl⟩
theorem SamePos.trans {p q r : List Nat} (h : SamePos p q) (k : SamePos q r) : SamePos p r := ⟨h.1.trans k.1, fun i => (h.2 i).trans (k.2 i)⟩
/-- How many are above 0. -/
def posN (l : List Nat) : Nat := l.countP fun n => decide (0 < n)
theorem SamePos.posN : ∀ {p q : List Nat}, SamePos p q → posN p = posN q
  | [], [], _ => rfl
  | [], _ :: _, h => by have := h.1; simp at this
  | _ :: _, [], h => by have := h.1; simp at this
  | a :: p, b :: q, h => by
    have h0 := h.2 0
    have h1 : SamePos p q := ⟨by have := h.1; simpa using this, fun i => by have := h.2 (i + 1); simpa using this⟩
    have h2 := h1.posN
    unfold Bm.posN at h2 ⊢
    rw [List.countP_cons, List.countP_cons, h2]
    simp at h0
    by_cases ha : 0 < a <;> simp [ha, h0.1] <;> simp_all
theorem sum_le_posN (l : List Nat) (h : ∀ x ∈ l, x ≤ 1) : l.sum ≤ posN l := by
  induction l with
  | nil => simp
  | cons a l ih =>
    have h1 := ih (fun x hx => h x (List.mem_cons_of_mem _ hx))
    have h2 := h a List.mem_cons_self
    unfold posN at h1 ⊢
    rw [List.sum_cons, List.countP_cons]
    by_cases ha : 0 < a
    · simp [ha]; omega
    · simp [ha]; omega
/-- k times one less at the first greatest. -/
def decs : Nat → List Nat → List Nat
  | 0, p => p
  | k + 1, p => decs k (p.modify (firstMax p) (· - 1))
theorem decs_spec (size : Nat) : ∀ (k : Nat) (p : List Nat), posN p ≤ size → p.sum = size + k → (decs k p).sum = size ∧ SamePos (decs k p) p
  | 0, p, _, hs => ⟨by simpa [decs] using hs, SamePos.refl p⟩
  | k + 1, p, hp, hs => by
    have hne : p ≠ [] := by rintro rfl; simp at hs
    have hlt := firstMax_lt p hne
    have hget := firstMax_get p hlt
    have h2 : 2 ≤ maxL p := by
      rcases Nat.lt_or_ge (maxL p) 2 with h1 | h1
      · have := sum_le_posN p (fun x hx => by have := maxL_le p x hx; omega)
        omega
      · exact h1
    have hsum := sum_modify p (firstMax p) (· - 1) hlt
    rw [hget] at hsum
    have hsame : SamePos (p.modify (firstMax p) (· - 1)) p := by
      refine ⟨by simp, fun i => ?_⟩
      rw [get_modify]
      split
      · next e =>
        subst e
        rw [List.getElem?_eq_getElem hlt, hget]
        simp
        omega
      · exact Iff.rfl
    have h3 := decs_spec size k (p.modify (firstMax p) (· - 1)) (by rw [hsame.posN]; exact hp) (by omega)
    exact ⟨h3.1, h3.2.trans hsame⟩
/-- A count's part of the size. -/
def partN (size total c : Nat) : Nat := if c * size / total = 0 ∧ 0 < c then 1 else c * size / total
def parts (cs : List Nat) (size : Nat) : List Nat := cs.map (partN size cs.sum)
/-- The share of counts of a size. -/
def shareM (cs : List Nat) (size : Nat) : List Nat :=
  if (parts cs size).sum < size then (parts cs size).modify (firstMax cs) (· + (size - (parts cs size).sum)) else decs ((parts cs size).sum - size) (parts cs size)
theorem partN_pos (size total c : Nat) : 0 < partN size total c ↔ 0 < c := by
  unfold partN
  split
  · next h => simp [h.2]
  · next h =>
    constructor
    · intro h1
      rcases Nat.eq_zero_or_pos c with h2 | h2
      · subst h2; simp at h1
      · exact h2
    · intro h1
      rcases Nat.eq_zero_or_pos (c * size / total) with h2 | h2
      · exact absurd ⟨h2, h1⟩ h
      · exact h2
theorem parts_same (cs : List Nat) (size : Nat) : SamePos (parts cs size) cs := by
  refine ⟨by simp [parts], fun i => ?_⟩
  unfold parts
  rw [List.getElem?_map]
  cases h : cs[i]? with
  | none => simp
  | some c => simp [partN_pos]
theorem share_spec (cs : List Nat) (size : Nat) (h0 : 0 < cs.sum) (h : posN cs ≤ size) : (shareM cs size).sum = size ∧ SamePos (shareM cs size) cs := by
  have hsame := parts_same cs size
  unfold shareM
  split
  · next hlt =>
    have hne : cs ≠ [] := by rintro rfl; simp at h0
    have hlt2 := firstMax_lt cs hne
    have hlt3 : firstMax cs < (parts cs size).length := by rw [hsame.1]; exact hlt2
    have hs := sum_modify (parts cs size) (firstMax cs) (· + (size - (parts cs size).sum)) hlt3
    refine ⟨by omega, ⟨by simp [hsame.1], fun i => ?_⟩⟩
    rw [get_modify]
    split
    · next e =>
      subst e
      have h1 := hsame.2 (firstMax cs)
      have hp : 0 < cs[firstMax cs]?.getD 0 := by
        rw [List.getElem?_eq_getElem hlt2, firstMax_get cs hlt2]
        simp
        rcases Nat.eq_zero_or_pos (maxL cs) with h2 | h2
        · have h3 : cs.sum = 0 := by
            have : ∀ (l : List Nat), (∀ x ∈ l, x = 0) → l.sum = 0 := fun l => by
              induction l with
              | nil => simp
              | cons a l ih => intro hh; rw [List.sum_cons, hh a List.mem_cons_self, ih (fun x hx => hh x (List.mem_cons_of_mem _ hx))]
            exact this cs (fun x hx => by have := maxL_le cs x hx; omega)
          omega
        · exact h2
      rw [List.getElem?_eq_getElem hlt3] at h1 ⊢
      simp at h1 ⊢
      have := h1.2 hp
      omega
    · exact hsame.2 i
  · next hlt =>
    have h1 := decs_spec size ((parts cs size).sum - size) (parts cs size) (by rw [hsame.posN]; exact h) (by omega)
    exact ⟨h1.1, h1.2.trans hsame⟩
/-- Counts that may be. -/
def Right (l : List Int) : Prop := l.length ≤ 256 ∧ (∀ x ∈ l, 0 ≤ x ∧ x ≤ 1048576) ∧ ∃ x ∈ l, 0 < x
/-- A log for so many symbols, an eighth of whose sum is q. -/
def logM (sym q : Nat) : Nat :=
  if 4 * sym ≤ 32 ∧ q ≤ 32 then 5 else if 4 * sym ≤ 64 ∧ q ≤ 64 then 6 else if 4 * sym ≤ 128 ∧ q ≤ 128 then 7 else if 4 * sym ≤ 256 ∧ q ≤ 256 then 8 else 9
theorem logM_ok (sym q : Nat) (h : sym ≤ 256) : 5 ≤ logM sym q ∧ logM sym q ≤ 9 ∧ sym ≤ 2 ^ logM sym q := by
  unfold logM
  split
  · refine ⟨by omega, by omega, ?_⟩
    have : (2 : Nat) ^ 5 = 32 := by decide
    omega
  split
  · refine ⟨by omega, by omega, ?_⟩
    have : (2 : Nat) ^ 6 = 64 := by decide
    omega
  split
  · refine ⟨by omega, by omega, ?_⟩
    have : (2 : Nat) ^ 7 = 128 := by decide
    omega
  split
  · refine ⟨by omega, by omega, ?_⟩
    have : (2 : Nat) ^ 8 = 256 := by decide
    omega
  · refine ⟨by omega, by omega, ?_⟩
    have : (2 : Nat) ^ 9 = 512 := by decide
    omega
end Go.Proofs.Ytmcobnbahkoopaa.Bm
