/-
  Layer 4 (sum), each by its walk: New, Byte, Sum. Conditions: as each theorem's premises say.
-/
import Derived.Test.YtfopnbfaaikghaaSm
namespace Go.Proofs.Ytfopnbfaaikghaa
open Go.RowKit

set_option maxHeartbeats 400000 in
set_option maxRecDepth 100000 in
theorem snew_any (w : World) : Calls Try.prog 46 #[] w fun e w' => e = .returned (.agg #[.int .u64 7640891576956012808, .int .u64 0]) ∧ Below w.heap.size w w' := by
  go_enter Try.func46, Try.ntmps46
  go_wp2
  refine bodyPost_ret (v := .agg #[.int .u64 7640891576956012808, .int .u64 0]) (by simp [results, Try.results46, go_sem]) rfl ⟨rfl, ?_⟩
  exact (Below.refl _ _).alloc (Nat.le_refl _) _

set_option maxHeartbeats 400000 in
set_option maxRecDepth 100000 in
theorem sbyte_any (h n b : Nat) (w : World) (hh : h < 18446744073709551616) (hb : b < 256) :
    Calls Try.prog 51 #[.agg #[.int .u64 (h : Int), .int .u64 (n : Int)], .int .u8 (b : Int)] w fun e w' => e = .returned (.agg #[.int .u64 (Bm.stepH h b : Int), .int .u64 (((n + 1) % 18446744073709551616 : Nat) : Int)]) ∧ Below w.heap.size w w' := by
  have e1 := step_1 h b hh hb
  have e2 := step_2 h b
  generalize Bm.mulH h b = m at e1 e2
  generalize Bm.stepH h b = r at e2 ⊢
  go_enter Try.func51, Try.ntmps51
  go_wp2
  refine bodyPost_ret (v := .agg #[.int .u64 (r : Int), .int .u64 (IntKind.u64.wrap ((n : Int) + 1))]) (by simp [results, Try.results51, go_sem]) rfl ⟨?_, ?_⟩
  · rw [IntKind.wrap_u64]
    simp
  · exact ((Below.refl _ _).alloc (Nat.le_refl _) _).alloc (by simp) _

set_option maxHeartbeats 400000 in
set_option maxRecDepth 100000 in
theorem ssum_any (h n : Nat) (w : World) : Calls Try.prog 48 #[.agg #[.int .u64 (h : Int), .int .u64 (n : Int)]] w fun e w' => e = .returned (.int .u64 (Bm.sumH h n : Int)) ∧ Below w.heap.size w w' := by
  have e1 := sum_1 h n
  have e2 := sum_2 h n
  generalize Bm.mulS h n = m at e1 e2
  generalize Bm.sumH h n = r at e2 ⊢
  go_enter Try.func48, Try.ntmps48
  go_wp2
  go_ret
  exact ⟨rfl, (Below.refl _ _).alloc (Nat.le_refl _) _⟩
end Go.Proofs.Ytfopnbfaaikghaa
