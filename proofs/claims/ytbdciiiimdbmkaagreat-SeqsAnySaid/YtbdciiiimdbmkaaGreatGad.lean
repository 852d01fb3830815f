/-
  Layer 13 (codes): the reference's Number, by its walk. No condition.
  Layer 13 (codes): the reference's Behind, by its walk. No condition.
-/
import Derived.Test.YtbdciiiimdbmkaaGreatGaa
import Derived.Test.YtbdciiiimdbmkaaGreatGac
import Derived.Deep.DeepCutAuto
import Derived.LoopN
namespace Go.Proofs.YtbdciiiimdbmkaaGreat
open Go.RowKit

set_option maxHeartbeats 1000000 in
set_option maxRecDepth 100000 in
theorem krnum_any (a b c x : Int) (w : World) (hx : -9223372036854775808 ≤ x ∧ x ≤ 9223372036854775807) : Calls Tryz.prog 47 #[.agg #[.int .i64 a, .int .i64 b, .int .i64 c], .int .i64 x] w fun e w' => e = .returned (.int .i64 (Bm.numI a b c x)) ∧ Below w.heap.size w w' := by
  obtain ⟨r, hr⟩ : ∃ r, r = Bm.numI a b c x := ⟨_, rfl⟩
  have hr2 := hr
  rw [← hr]
  unfold Bm.numI at hr2
  clear hr
  go_enter Tryz.func47, Tryz.ntmps47
  by_cases h1 : x < 1
  · rw [if_pos (.inl h1)] at hr2
    subst hr2
    have d1 : decide (x < 1) = true := decide_eq_true h1
    go_wp2
    go_ret
    exact ⟨rfl, (Below.refl _ _).alloc (Nat.le_refl _) _⟩
  · have d1 : decide (x < 1) = false := decide_eq_false h1
    by_cases h2 : 65533 < x
    · rw [if_pos (.inr h2)] at hr2
      subst hr2
      have d2 : decide (65533 < x) = true := decide_eq_true h2
      go_wp2
      go_ret
      exact ⟨rfl, (Below.refl _ _).alloc (Nat.le_refl _) _⟩
    · have d2 : decide (65533 < x) = false := decide_eq_false h2
      rw [if_neg (by omega)] at hr2
      go_wp2
      refine wp_loop_rounds 4 ?_
      by_cases ha : a = x
      · rw [if_pos ha] at hr2
        have da : (a == x) = true := by simp [ha]
        subst hr2
        rw [rounds_succ]
        go_wp2
        go_ret
        exact ⟨rfl, (Below.refl _ _).alloc (Nat.le_refl _) _⟩
      · have da : (a == x) = false := by simp [ha]
        rw [if_neg ha] at hr2
        rw [rounds_succ]
        go_wp2
        by_cases hb : b = x
        · rw [if_pos hb] at hr2
          have db : (b == x) = true := by simp [hb]
          subst hr2
          rw [rounds_succ]
          go_wp2
          go_ret
          exact ⟨rfl, (Below.refl _ _).alloc (Nat.le_refl _) _⟩
        · have db : (b == x) = false := by simp [hb]
          rw [if_neg hb] at hr2
          rw [rounds_succ]
          go_wp2
          by_cases hc : c = x
          · rw [if_pos hc] at hr2
            have dc : (c == x) = true := by simp [hc]
            subst hr2
            rw [rounds_succ]
            go_wp2
            go_ret
            exact ⟨rfl, (Below.refl _ _).alloc (Nat.le_refl _) _⟩
          · have dc : (c == x) = false := by simp [hc]
            rw [if_neg hc] at hr2
            subst hr2
            rw [rounds_succ]
            go_wp2
            rw [rounds_succ]
            go_wp2
            go_ret
            exact ⟨rfl, (Below.refl _ _).alloc (Nat.le_refl _) _⟩
end Go.Proofs.YtbdciiiimdbmkaaGreat

namespace Go.Proofs.YtbdciiiimdbmkaaGreat
open Go.RowKit

set_option maxHeartbeats 1000000 in
set_option maxRecDepth 100000 in
theorem krbeh_at (a b c x : Int) (r : Int × Int × Int) (w : World) (ta tb tc : Bool) (da : (a == x) = ta) (db : (b == x) = tb) (dc : (c == x) = tc) (hr : r = cond ta (x, b, c) (cond tb (x, a, c) (x, a, b))) : Calls Tryz.prog 27 #[.agg #[.int .i64 a, .int .i64 b, .int .i64 c], .int .i64 x] w fun e w' => e = .returned (.agg #[.int .i64 r.1, .int .i64 r.2.1, .int .i64 r.2.2]) ∧ Below w.heap.size w w' := by
  cases ta <;> cases tb <;> cases tc
  all_goals
    subst hr
    go_enter Tryz.func27, Tryz.ntmps27
    go_wp2
    refine wp_loop_rounds 4 ?_
    rw [rounds_succ]
    go_wp2
    rw [rounds_succ]
    go_wp2
    rw [rounds_succ]
    go_wp2
    try
      rw [rounds_succ]
      go_wp2
    refine bodyPost_ret (by simp [results, Tryz.results27, go_sem]) rfl ⟨rfl, (((Below.refl _ _).alloc (Nat.le_refl _) _).alloc (by simp) _).alloc (by simp; omega) _⟩
theorem krbeh_any (a b c x : Int) (w : World) : Calls Tryz.prog 27 #[.agg #[.int .i64 a, .int .i64 b, .int .i64 c], .int .i64 x] w fun e w' => e = .returned (.agg #[.int .i64 (Bm.behI a b c x).1, .int .i64 (Bm.behI a b c x).2.1, .int .i64 (Bm.behI a b c x).2.2]) ∧ Below w.heap.size w w' := by
  refine krbeh_at a b c x _ w _ _ _ rfl rfl rfl ?_
  unfold Bm.behI
  by_cases ha : a = x
  · rw [if_pos ha, show (a == x) = true by simp [ha]]; rfl
  · rw [if_neg ha, show (a == x) = false by simp [ha]]
    by_cases hb : b = x
    · rw [if_pos hb, show (b == x) = true by simp [hb]]; rfl
    · rw [if_neg hb, show (b == x) = false by simp [hb]]; rfl
end Go.Proofs.YtbdciiiimdbmkaaGreat
