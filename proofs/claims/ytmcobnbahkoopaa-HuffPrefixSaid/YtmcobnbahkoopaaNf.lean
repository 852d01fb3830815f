/-
  The reference of layer 5 (count), by its walk: Fair. Conditions: as each theorem's premises say.
-/
import Derived.Test.YtmcobnbahkoopaaNr
namespace Go.Proofs.Ytmcobnbahkoopaa
open Go.RowKit
namespace Bm
/-- Are these a share of that log's size? -/
def Fair (l : List Int) (log : Int) : Prop := 5 ≤ log ∧ log ≤ 9 ∧ l.length ≤ 256 ∧ (∀ x ∈ l, 0 ≤ x ∧ x ≤ 1000) ∧ l.sum = ((2 ^ log.toNat : Nat) : Int)
instance (l : List Int) (log : Int) : Decidable (Fair l log) := by unfold Fair; exact inferInstance
def fairB (l : List Int) (log : Int) : Bool := decide (Fair l log)
theorem sum_take (l : List Int) (k : Nat) (h : k < l.length) : (l.take (k + 1)).sum = (l.take k).sum + l[k] := by
  rw [List.take_succ_eq_append_getElem h, List.sum_append_int, List.sum_singleton]
theorem all_take (p : Int → Prop) (l : List Int) (k : Nat) (h : k < l.length) (h0 : ∀ x ∈ l.take k, p x) (h1 : p l[k]) : ∀ x ∈ l.take (k + 1), p x := by
  rw [List.take_succ_eq_append_getElem h]
  intro x hx
  rcases List.mem_append.1 hx with h2 | h2
  · exact h0 x h2
  · rw [List.mem_singleton.1 h2]; exact h1
theorem sum_bound (l : List Int) (h : ∀ x ∈ l, 0 ≤ x ∧ x ≤ 1000) : 0 ≤ l.sum ∧ l.sum ≤ 1000 * l.length := by
  induction l with
  | nil => simp
  | cons a l ih =>
    have h1 := ih (fun x hx => h x (List.mem_cons_of_mem _ hx))
    have h2 := h a List.mem_cons_self
    rw [List.sum_cons, List.length_cons]
    omega
end Bm

end Go.Proofs.Ytmcobnbahkoopaa
