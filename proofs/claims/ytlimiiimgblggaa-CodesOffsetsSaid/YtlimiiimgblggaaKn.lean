/-
  Layer 13 (codes): the reference's Number, by its walk. No condition.
-/
import Derived.Test.YtlimiiimgblggaaKm
import Derived.Test.YtlimiiimgblggaaQl
import Derived.Deep.DeepCutAuto
import Derived.LoopN
namespace Go.Proofs.Ytlimiiimgblggaa
open Go.RowKit

set_option maxHeartbeats 1000000 in
set_option maxRecDepth 100000 in
theorem krnum_any (a b c x : Int) (w : World) (hx : -9223372036854775808 ≤ x ∧ x ≤ 9223372036854775807) : Calls Try.prog 13 #[.agg #[.int .i64 a, .int .i64 b, .int .i64 c], .int .i64 x] w fun e w' => e = .returned (.int .i64 (Bm.numI a b c x)) ∧ Below w.heap.size w w' := by
  obtain ⟨r, hr⟩ : ∃ r, r = Bm.numI a b c x := ⟨_, rfl⟩
  have hr2 := hr
  rw [← hr]
  unfold Bm.numI at hr2
  clear hr
  go_enter Try.func13, Try.ntmps13
  by_cases h1 : x < 1
  · rw [if_pos (.inl h1)] at hr2
    subst hr2
    have d1 : decide (x < 1) = true := decide_eq_true h1
    go_wp2
    go_ret
    exact ⟨rfl, (Below.refl _ _).alloc (Nat.le_refl _) _⟩
  · have d1 : decide (x < 1) = false := decide_eq_false h1
    by_cases h2 : 65533 < x
    · rw [if_pos (.inr h2)] at hr2
      subst hr2
      have d2 : decide (65533 < x) = true := decide_eq_true h2
      go_wp2
      go_ret
      exact ⟨rfl, (Below.refl _ _).alloc (Nat.le_refl _) _⟩
    · have d2 : decide (65533 < x) = false := decide_eq_false h2
      rw [if_neg (by omega)] at hr2
      go_wp2
      refine wp_loop_rounds 4 ?_
      by_cases ha : a = x
      · rw [if_pos ha] at hr2
        have da : (a == x) = true := by simp [ha]
        subst hr2
        rw [rounds_succ]
        go_wp2
        go_ret
        exact ⟨rfl, (Below.refl _ _).alloc (Nat.le_refl _) _⟩
      · have da : (a == x) = false := by simp [ha]
        rw [if_neg ha] at hr2
        rw [rounds_succ]
        go_wp2
        by_cases hb : b = x
        · rw [if_pos hb] at hr2
          have db : (b == x) = true := by simp [hb]
          subst hr2
          rw [rounds_succ]
          go_wp2
          go_ret
          exact ⟨rfl, (Below.refl _ _).alloc (Nat.le_refl _) _⟩
        · have db : (b == x) = false := by simp [hb]
          rw [if_neg hb] at hr2
          rw [rounds_succ]
          go_wp2
          by_cases hc : c = x
          · rw [if_pos hc] at hr2
            have dc : (c == x) = true := by simp [hc]
            subst hr2
            rw [rounds_succ]
            go_wp2
            go_ret
            exact ⟨rfl, (Below.refl _ _).alloc (Nat.le_refl _) _⟩
          · have dc : (c == x) = false := by simp [hc]
            rw [if_neg hc] at hr2
            subst hr2
            rw [rounds_succ]
            go_wp2
            rw [rounds_succ]
            go_wp2
            go_ret
            exact ⟨rfl, (Below.refl _ _).alloc (Nat.le_refl _) _⟩
end Go.Proofs.Ytlimiiimgblggaa
