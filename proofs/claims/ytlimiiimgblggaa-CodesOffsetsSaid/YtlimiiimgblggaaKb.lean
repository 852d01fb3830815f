/-
  Layer 13 (codes): the reference's Behind, by its walk. No condition.
-/
import Derived.Test.YtlimiiimgblggaaKm
import Derived.Test.YtlimiiimgblggaaQl
import Derived.Deep.DeepCutAuto
import Derived.LoopN
namespace Go.Proofs.Ytlimiiimgblggaa
open Go.RowKit

set_option maxHeartbeats 1000000 in
set_option maxRecDepth 100000 in
theorem krbeh_at (a b c x : Int) (r : Int × Int × Int) (w : World) (ta tb tc : Bool) (da : (a == x) = ta) (db : (b == x) = tb) (dc : (c == x) = tc) (hr : r = cond ta (x, b, c) (cond tb (x, a, c) (x, a, b))) : Calls Try.prog 14 #[.agg #[.int .i64 a, .int .i64 b, .int .i64 c], .int .i64 x] w fun e w' => e = .returned (.agg #[.int .i64 r.1, .int .i64 r.2.1, .int .i64 r.2.2]) ∧ Below w.heap.size w w' := by
  cases ta <;> cases tb <;> cases tc
  all_goals
    subst hr
    go_enter Try.func14, Try.ntmps14
    go_wp2
    refine wp_loop_rounds 4 ?_
    rw [rounds_succ]
    go_wp2
    rw [rounds_succ]
    go_wp2
    rw [rounds_succ]
    go_wp2
    try
      rw [rounds_succ]
      go_wp2
    refine bodyPost_ret (by simp [results, Try.results14, go_sem]) rfl ⟨rfl, (((Below.refl _ _).alloc (Nat.le_refl _) _).alloc (by simp) _).alloc (by simp; omega) _⟩
theorem krbeh_any (a b c x : Int) (w : World) : Calls Try.prog 14 #[.agg #[.int .i64 a, .int .i64 b, .int .i64 c], .int .i64 x] w fun e w' => e = .returned (.agg #[.int .i64 (Bm.behI a b c x).1, .int .i64 (Bm.behI a b c x).2.1, .int .i64 (Bm.behI a b c x).2.2]) ∧ Below w.heap.size w w' := by
  refine krbeh_at a b c x _ w _ _ _ rfl rfl rfl ?_
  unfold Bm.behI
  by_cases ha : a = x
  · rw [if_pos ha, show (a == x) = true by simp [ha]]; rfl
  · rw [if_neg ha, show (a == x) = false by simp [ha]]
    by_cases hb : b = x
    · rw [if_pos hb, show (b == x) = true by simp [hb]]; rfl
    · rw [if_neg hb, show (b == x) = false by simp [hb]]; rfl
end Go.Proofs.Ytlimiiimgblggaa
