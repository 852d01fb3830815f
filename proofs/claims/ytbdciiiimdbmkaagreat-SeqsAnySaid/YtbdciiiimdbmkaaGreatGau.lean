/-
  Layer 13 (codes): the reference's Extra, Code, by their walks. No condition.
-/
import Derived.Test.YtbdciiiimdbmkaaGreatGaa
import Derived.Test.YtbdciiiimdbmkaaGreatGae
import Derived.Test.YtbdciiiimdbmkaaGreatGap
import Derived.Test.YtbdciiiimdbmkaaGreatGac
import Derived.Deep.RegionHeld3
import Derived.OwnWalk
import Derived.Deep.DeepCutAuto
namespace Go.Proofs.YtbdciiiimdbmkaaGreat
open Go.RowKit

set_option maxHeartbeats 400000 in
set_option maxRecDepth 100000 in
theorem krextra_any (c : Nat) (w : World) (hc : c < 256) : Calls Tryz.prog 23 #[.int .i64 (c : Int)] w fun e w' => e = .returned (.int .i64 (Bm.extraI c)) ∧ w = w' := by
  obtain ⟨r, hr⟩ : ∃ r, r = Bm.extraI c := ⟨_, rfl⟩
  have hr2 := hr
  rw [← hr]
  unfold Bm.extraI at hr2
  clear hr
  go_enter Tryz.func23, Tryz.ntmps23
  by_cases h1 : c < 16
  · rw [if_pos h1] at hr2
    subst hr2
    have d1 : decide (c < 16) = true := decide_eq_true h1
    go_wp2
    go_ret
    exact ⟨rfl, rfl⟩
  · rw [if_neg h1] at hr2
    have d1 : decide (c < 16) = false := decide_eq_false h1
    by_cases h2 : 27 < c
    · rw [if_pos h2] at hr2
      subst hr2
      have d2 : decide (27 < c) = true := decide_eq_true h2
      go_wp2
      go_ret
      exact ⟨rfl, rfl⟩
    · rw [if_neg h2] at hr2
      have d2 : decide (27 < c) = false := decide_eq_false h2
      have hs : (c : Int) - 12 = r := by omega
      clear hr2
      go_wp2
      go_ret
      exact ⟨rfl, rfl⟩

end Go.Proofs.YtbdciiiimdbmkaaGreat
