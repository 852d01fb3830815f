/-
  Width (layer 1), by math/bits.Len32's contract, without layer 1's Writer. Condition: the argument is a uint32.
-/
import Derived.Test.YtlimiiimgblggaaSh
import Derived.Test.YtlimiiimgblggaaRw
namespace Go.Proofs.Ytlimiiimgblggaa
open Go.RowKit
set_option maxRecDepth 100000 in
theorem width_wid (x : Nat) (w : World) (hx : x < 4294967296) :
    Calls Try.prog 17 #[.int .u32 (x : Int)] w fun e w' => e = .returned (.int .i64 (Bm.wid x : Int)) ∧ w = w' := by
  have h := Try.bits_Len32 (x : Int) w (by omega) (by omega)
  rw [Int.toNat_natCast, bitLen_wid x (by omega)] at h
  have H := Lib.hid h
  clear h
  go_enter Try.func17, Try.ntmps17
  go_wp2_with fail
  refine H.out.mono ?_
  rintro e w' ⟨rfl, rfl⟩
  go_wp2
  go_ret
  exact ⟨rfl, rfl⟩
end Go.Proofs.Ytlimiiimgblggaa
