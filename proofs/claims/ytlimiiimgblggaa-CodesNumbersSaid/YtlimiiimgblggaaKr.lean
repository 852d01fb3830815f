/-
  Layer 13 (codes): the reference's Extra, Code, by their walks. No condition.
-/
import Derived.Test.YtlimiiimgblggaaKm
import Derived.Test.YtlimiiimgblggaaRw
import Derived.Test.YtlimiiimgblggaaNr
import Derived.Test.YtlimiiimgblggaaQl
import Derived.Deep.RegionHeld3
import Derived.OwnWalk
import Derived.Deep.DeepCutAuto
namespace Go.Proofs.Ytlimiiimgblggaa
open Go.RowKit

set_option maxHeartbeats 400000 in
set_option maxRecDepth 100000 in
theorem krextra_any (c : Nat) (w : World) (hc : c < 256) : Calls Try.prog 10 #[.int .i64 (c : Int)] w fun e w' => e = .returned (.int .i64 (Bm.extraI c)) ∧ w = w' := by
  obtain ⟨r, hr⟩ : ∃ r, r = Bm.extraI c := ⟨_, rfl⟩
  have hr2 := hr
  rw [← hr]
  unfold Bm.extraI at hr2
  clear hr
  go_enter Try.func10, Try.ntmps10
  by_cases h1 : c < 16
  · rw [if_pos h1] at hr2
    subst hr2
    have d1 : decide (c < 16) = true := decide_eq_true h1
    go_wp2
    go_ret
    exact ⟨rfl, rfl⟩
  · rw [if_neg h1] at hr2
    have d1 : decide (c < 16) = false := decide_eq_false h1
    by_cases h2 : 27 < c
    · rw [if_pos h2] at hr2
      subst hr2
      have d2 : decide (27 < c) = true := decide_eq_true h2
      go_wp2
      go_ret
      exact ⟨rfl, rfl⟩
    · rw [if_neg h2] at hr2
      have d2 : decide (27 < c) = false := decide_eq_false h2
      have hs : (c : Int) - 12 = r := by omega
      clear hr2
      go_wp2
      go_ret
      exact ⟨rfl, rfl⟩

set_option maxHeartbeats 1000000 in
set_option maxRecDepth 100000 in
theorem krcode_any (v : Nat) (w : World) (hv : v ≤ 65535) : Calls Try.prog 8 #[.int .i64 (v : Int)] w fun e w' => e = .returned (.tuple #[.int .i64 (Bm.codeN v : Int), .int .i64 (Bm.moreN v : Int), .int .i64 (Bm.bitsK v : Int)]) ∧ ∃ m, w' = w.drewN m := by
  by_cases h16 : v < 16
  · have e1 : Bm.codeN v = v := by unfold Bm.codeN; rw [if_pos h16]
    have e2 : Bm.moreN v = 0 := by unfold Bm.moreN; rw [if_pos h16]
    have e3 : Bm.bitsK v = 0 := by unfold Bm.bitsK; rw [if_pos h16]
    rw [e1, e2, e3]
    clear e1 e2 e3
    have d1 : decide (v < 16) = true := decide_eq_true h16
    go_enter Try.func8, Try.ntmps8
    go_wp2
    go_ret3
    exact ⟨rfl, 0, rfl⟩
  · obtain ⟨k, k1, k2, h1, h2, hw⟩ := Bm.wid_has v (by omega) hv
    have e1 : Bm.codeN v = 11 + (k + 1) := by unfold Bm.codeN; rw [if_neg h16, hw]
    have e2 : Bm.moreN v = v % 2 ^ k := by unfold Bm.moreN; rw [if_neg h16, hw, Nat.add_sub_cancel]
    have e3 : Bm.bitsK v = k := by unfold Bm.bitsK; rw [if_neg h16, hw, Nat.add_sub_cancel]
    rw [e1, e2, e3]
    clear e1 e2 e3
    have hP := Nat.two_pow_pos k
    have hPv : 2 ^ k ≤ 65535 := by omega
    have Hw := Lib.hid (fun W => rwidth_wid v W (by omega))
    rw [hw] at Hw
    have Hs := Lib.hid (fun W => hsize_any (k : Int) W (by omega))
    rw [Int.toNat_natCast] at Hs
    clear h1 h2 hw
    generalize 2 ^ k = P at *
    obtain ⟨r, hr⟩ : ∃ r, r = v % P := ⟨_, rfl⟩
    have hrm : (v : Int).tmod (P : Int) = (r : Int) := by rw [hr]; exact (Int.ofNat_tmod v P).symm
    have hrl : r ≤ 65535 := by rw [hr]; have := Nat.mod_le v P; omega
    rw [← hr]
    clear hr
    have d1 : decide (v < 16) = false := decide_eq_false h16
    have hc : IntKind.u32.wrap (v : Int) = (v : Int) := by simp [IntKind.wrap, IntKind.bits, IntKind.signed]; omega
    have hw1 : IntKind.i64.wrap (11 + ((k : Int) + 1)) = 11 + ((k : Int) + 1) := IntWalk.i64_in _ (by omega)
    have hw2 : IntKind.i64.wrap (k : Int) = (k : Int) := IntWalk.i64_in _ (by omega)
    have hw3 : IntKind.i64.wrap (r : Int) = (r : Int) := IntWalk.i64_in _ (by omega)
    have hkk : ((k + 1 : Nat) : Int) - 1 = (k : Int) := by omega
    go_enter Try.func8, Try.ntmps8
    go_wp2_with fail
    refine (Hw.out w).mono ?_
    rintro e w' ⟨rfl, rfl⟩
    go_wp2
    go_quiet ((go_at_call 19; exact quiet_at (Hs.out _)))
    go_wp2
    go_ret3
    exact ⟨rfl, _, rfl⟩
end Go.Proofs.Ytlimiiimgblggaa
