/-
  The reference of layer 11 (chain), by its walk: Find. Conditions: as the theorem's premises say (up to a million bytes, ten thousand places).
-/
import Derived.Test.YtjcehdibklndkaaEn
import Derived.BigQuiet
import Derived.WalkSmall
import Derived.Deep.QuietTactic
namespace Go.Proofs.Ytjcehdibklndkaa
open Go.RowKit

theorem str_mid (l : List Nat) (i j : Nat) (h : i ≤ j) (h2 : j ≤ l.length) (W : World) : (Instr.slice 9 (.string (strOf l)) (some (.int .i64 (i : Int))) (some (.int .i64 (j : Int))) none).run Try.prog W = .ok (.string (strOf ((l.take j).drop i))) W := by
  rw [run_slice_string W 9 _ .i64 .i64 i j Try.underlying9 (by omega) (by omega) (by rw [strOf_size]; omega), Int.toNat_natCast, Int.toNat_natCast, strOf_extract]

end Go.Proofs.Ytjcehdibklndkaa
