/-
  Width (layer 1), by math/bits.Len32's contract. Condition: the argument is a uint32.
-/
import Derived.Test.YtbdciiiimdbmkaaGreatGaf
import Derived.Test.YtbdciiiimdbmkaaGreatGaa
namespace Go.Proofs.YtbdciiiimdbmkaaGreat
open Go.RowKit

set_option maxRecDepth 100000 in
/-- Width, by math/bits.Len32. -/
theorem width_any (x : Nat) (w : World) (hx : x < 4294967296) :
    Calls Tryz.prog 57 #[.int .u32 (x : Int)] w fun e w' => e = .returned (.int .i64 (Lib.bitLen x : Int)) ∧ w = w' := by
  have h := Tryz.bits_Len32 (x : Int) w (by omega) (by omega)
  rw [Int.toNat_natCast] at h
  have H := Lib.hid h
  clear h
  go_enter Tryz.func57, Tryz.ntmps57
  go_wp2_with fail
  refine H.out.mono ?_
  rintro e w' ⟨rfl, rfl⟩
  go_wp2
  go_ret
  exact ⟨rfl, rfl⟩

theorem width_int (x : Int) (w : World) (h0 : 0 ≤ x) (hx : x < 4294967296) :
    Calls Tryz.prog 57 #[.int .u32 x] w fun e w' => e = .returned (.int .i64 (Lib.bitLen x.toNat : Int)) ∧ w = w' := by
  obtain ⟨x', rfl⟩ := Int.eq_ofNat_of_zero_le h0
  rw [Int.toNat_natCast]
  exact width_any x' w (by omega)
end Go.Proofs.YtbdciiiimdbmkaaGreat
