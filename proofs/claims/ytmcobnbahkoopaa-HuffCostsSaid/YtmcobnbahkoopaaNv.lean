/-
  Plain mathematics for layer 5 (count): how many numbers are above 0; one more than the greatest of bytes; how often each comes. No condition.
-/
import Derived.Test.YtmcobnbahkoopaaIn
namespace Go.Proofs.Ytmcobnbahkoopaa
open Go.RowKit
namespace Bm
/-- How many of these are above 0. -/
def symN (l : List Int) : Nat := l.countP fun z => decide (0 < z)
theorem symN_take (l : List Int) (k : Nat) (h : k < l.length) : symN (l.take (k + 1)) = symN (l.take k) + (if 0 < l[k] then 1 else 0) := by
  unfold symN
  rw [List.take_succ_eq_append_getElem h, List.countP_append, List.countP_singleton]
  simp
theorem symN_le (l : List Int) : symN l ≤ l.length := List.countP_le_length
end Bm
namespace Bm
/-- One more than the greatest of these (0: there are none). -/
def topB : List Nat → Nat
  | [] => 0
  | b :: bs => max (b + 1) (topB bs)
/-- How often each symbol comes. -/
def countsOf (bs : List Nat) : List Nat := (List.range (topB bs)).map fun s => bs.count s
theorem topB_append (a b : List Nat) : topB (a ++ b) = max (topB a) (topB b) := by
  induction a with
  | nil => simp [topB]
  | cons x a ih => rw [List.cons_append, topB, ih, topB]; omega
theorem topB_take (bs : List Nat) (k : Nat) (h : k < bs.length) : topB (bs.take (k + 1)) = max (topB (bs.take k)) (bs[k] + 1) := by
  rw [List.take_succ_eq_append_getElem h, topB_append]
  simp [topB]
theorem topB_le (bs : List Nat) (h : ∀ x ∈ bs, x < 256) : topB bs ≤ 256 := by
  induction bs with
  | nil => simp [topB]
  | cons x a ih =>
    have h1 := ih (fun y hy => h y (List.mem_cons_of_mem _ hy))
    have h2 := h x List.mem_cons_self
    rw [topB]; omega
theorem topB_mem (bs : List Nat) (b : Nat) (h : b ∈ bs) : b < topB bs := by
  induction bs with
  | nil => cases h
  | cons x a ih =>
    rw [topB]
    rcases List.mem_cons.1 h with rfl | h1
    · omega
    · have := ih h1; omega
/-- Counts of the first k. -/
def countsTo (bs : List Nat) (k : Nat) : List Nat := (List.range (topB bs)).map fun s => (bs.take k).count s
theorem countsTo_zero (bs : List Nat) : countsTo bs 0 = List.replicate (topB bs) 0 := by
  unfold countsTo
  rw [List.take_zero]
  simp only [List.count_nil]
  rw [List.map_const', List.length_range]
theorem countsTo_all (bs : List Nat) : countsTo bs bs.length = countsOf bs := by unfold countsTo countsOf; rw [List.take_length]
theorem countsTo_length (bs : List Nat) (k : Nat) : (countsTo bs k).length = topB bs := by simp [countsTo]
theorem countsTo_get (bs : List Nat) (k b : Nat) (h : b < topB bs) : (countsTo bs k)[b]? = some ((bs.take k).count b) := by simp [countsTo, h]
theorem countsTo_next (bs : List Nat) (k : Nat) (h : k < bs.length) : countsTo bs (k + 1) = (countsTo bs k).set bs[k] ((bs.take k).count bs[k] + 1) := by
  apply List.ext_getElem
  · simp [countsTo_length]
  · intro i h1 h2
    rw [List.getElem_set]
    simp only [countsTo, List.getElem_map, List.getElem_range]
    rw [List.take_succ_eq_append_getElem h, List.count_append, List.count_singleton]
    by_cases e : bs[k] = i
    · subst e; simp
    · simp [e]
end Bm
theorem max_top (T b : Nat) : max ((T : Int) - 1) (b : Int) = ((max T (b + 1) : Nat) : Int) - 1 := by omega
end Go.Proofs.Ytmcobnbahkoopaa
