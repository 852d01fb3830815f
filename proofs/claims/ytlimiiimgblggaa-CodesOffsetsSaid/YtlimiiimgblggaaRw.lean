/-
  The reference's Width (layer 1), by its walk, over layer 6's mathematics. Condition: the argument is a uint32.
-/
import Derived.Test.YtlimiiimgblggaaGw
import Derived.Test.YtlimiiimgblggaaTm
namespace Go.Proofs.Ytlimiiimgblggaa
open Go.RowKit

theorem bitLen_z6 : Lib.bitLen 0 = 0 := by decide
theorem bitLen_wid : ∀ x : Nat, x < 2 ^ 64 → Lib.bitLen x = Bm.wid x := by
  intro x
  induction x using Nat.strongRecOn with
  | ind x ih =>
    intro hx
    rcases Nat.eq_zero_or_pos x with h | h
    · subst h; rfl
    · rw [Lib.bitLen_half x (by omega) hx, ih (x / 2) (by omega) (by omega)]
      rcases Nat.eq_zero_or_pos (x / 2) with h1 | h1
      · rw [h1, show x = 1 by omega, Bm.wid_eq 1 0 (by simp) (by simp)]
        rfl
      · have h2 := Bm.wid_double (x / 2) h1 (x % 2) (by omega)
        rw [show 2 * (x / 2) + x % 2 = x by omega] at h2
        omega
set_option maxHeartbeats 400000 in
set_option maxRecDepth 100000 in
theorem rwidth_len (x : Nat) (w : World) (hx : x < 4294967296) :
    Calls Try.prog 18 #[.int .u32 (x : Int)] w fun e w' => e = .returned (.int .i64 (Lib.bitLen x : Int)) ∧ w = w' := by
  have hb := Lib.bitLen_le x 32 (by omega) (by omega)
  go_enter Try.func18, Try.ntmps18
  go_wp2
  go_loop [0, 3] (fun v n => ∃ y k : Nat, y ≤ x ∧ v = .int .u32 (y : Int) ∧ n = .int .i64 (k : Int) ∧ Hid (k + Lib.bitLen y = Lib.bitLen x)) (fun v _ => (intOf v).toNat)
  case atStart => exact ⟨x, 0, Nat.le_refl _, rfl, rfl, by unfold Hid; omega⟩
  case round =>
    obtain ⟨y, k, hy, rfl, rfl, hk⟩ := hrel
    have hk32 : k ≤ 32 := by have := hk.out; omega
    by_cases h0 : 0 < y
    · have hh : Lib.bitLen y = 1 + Lib.bitLen (y / 2) := Lib.bitLen_half y (by omega) (by omega)
      have Hh := Lib.hid hh
      clear hh
      go_wp2
      go_round
      case rel => exact ⟨y / 2, k + 1, by omega, by go_num, by go_num, by have h1 := hk.out; have h2 := Hh.out; unfold Hid; omega⟩
      case measure => simp [intOf]; omega
    · obtain rfl : y = 0 := by omega
      go_wp2
      go_ret
      exact ⟨congrArg Ending.returned (congrArg (Value.int .i64) (by have h1 := hk.out; rw [bitLen_z6] at h1; omega)), rfl⟩
theorem rwidth_wid (x : Nat) (w : World) (hx : x < 4294967296) :
    Calls Try.prog 18 #[.int .u32 (x : Int)] w fun e w' => e = .returned (.int .i64 (Bm.wid x : Int)) ∧ w = w' := by
  have h := rwidth_len x w hx
  rw [bitLen_wid x (by omega)] at h
  exact h
end Go.Proofs.Ytlimiiimgblggaa
