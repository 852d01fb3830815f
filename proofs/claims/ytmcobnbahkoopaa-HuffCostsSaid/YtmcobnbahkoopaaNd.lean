/-
  The program's layer 5 (count), by its walk: sized, Fair. Conditions: as each theorem's premises say.
-/
import Derived.Test.YtmcobnbahkoopaaNf
namespace Go.Proofs.Ytmcobnbahkoopaa
open Go.RowKit
namespace Bm
def sizedB (log : Int) : Bool := decide (5 ≤ log ∧ log ≤ 9)
end Bm
theorem wrap_in (x : Int) (h0 : -9223372036854775808 ≤ x) (h1 : x ≤ 9223372036854775807) : wrap64 x = x := by unfold wrap64; omega
namespace Bm
theorem sum_nn (l : List Int) (h : ∀ x ∈ l, 0 ≤ x) : 0 ≤ l.sum := by
  induction l with
  | nil => simp
  | cons a l ih =>
    have h1 := ih (fun x hx => h x (List.mem_cons_of_mem _ hx))
    have h2 := h a List.mem_cons_self
    rw [List.sum_cons]; omega
theorem sum_take_le (l : List Int) (k : Nat) (h : ∀ x ∈ l, 0 ≤ x) : (l.take k).sum ≤ l.sum := by
  have h1 := sum_nn (l.drop k) (fun x hx => h x (List.mem_of_mem_drop hx))
  have h2 : l.sum = (l.take k).sum + (l.drop k).sum := by
    conv => lhs; rw [← List.take_append_drop k l]
    rw [List.sum_append_int]
  omega
theorem mem_le_sumI (l : List Int) (h : ∀ x ∈ l, 0 ≤ x) (x : Int) (hx : x ∈ l) : x ≤ l.sum := by
  induction l with
  | nil => cases hx
  | cons a l ih =>
    have h1 := sum_nn l (fun x hx => h x (List.mem_cons_of_mem _ hx))
    have h2 := h a List.mem_cons_self
    rw [List.sum_cons]
    rcases List.mem_cons.1 hx with rfl | hx
    · omega
    · have := ih (fun x hx => h x (List.mem_cons_of_mem _ hx)) hx; omega
theorem pow_log (b : Nat) (h5 : 5 ≤ b) (h9 : b ≤ 9) : 32 ≤ 2 ^ b ∧ 2 ^ b ≤ 512 :=
  ⟨Nat.pow_le_pow_right (n := 2) (i := 5) (by omega) h5, Nat.pow_le_pow_right (n := 2) (j := 9) (by omega) h9⟩
end Bm

end Go.Proofs.Ytmcobnbahkoopaa
