/-
  What layer 13's calls (codes) are to answer, as the laws' walks ask for it: definitions, each a premise of a law's walk. No condition.
-/
import Derived.Test.YtlimiiimgblggaaKm
import Derived.Test.YtlimiiimgblggaaGw
namespace Go.Proofs.Ytlimiiimgblggaa
open Go.RowKit

def KCode : Prop := (∀ (w : World) (v : Nat), v ≤ 65535 → Calls Try.prog 7 #[.int .i64 (v : Int)] w fun e w' => e = .returned (.tuple #[.int .u8 (Bm.codeN v : Int), .int .i64 (Bm.moreN v : Int), .int .i64 (Bm.bitsK v : Int), .bool true]) ∧ Below w.heap.size w w') ∧
  ∀ (w : World) (v : Int), -9223372036854775808 ≤ v ∧ v ≤ 9223372036854775807 → (v < 0 ∨ 65535 < v) → Calls Try.prog 7 #[.int .i64 v] w fun e w' => e = .returned (.tuple #[.int .u8 0, .int .i64 0, .int .i64 0, .bool false]) ∧ Below w.heap.size w w'
def KValue : Prop := ∀ (w : World) (c m : Nat), c < 256 → m < 4294967296 → Calls Try.prog 9 #[.int .u8 (c : Int), .int .u32 (m : Int)] w fun e w' => e = .returned (match Bm.valueK c m with | some g => .tuple #[.int .i64 (g : Int), .bool true] | none => .tuple #[.int .i64 0, .bool false]) ∧ Below w.heap.size w w'
def KExtra : Prop := ∀ (w : World) (c : Nat), c < 256 → Calls Try.prog 11 #[.int .u8 (c : Int)] w fun e w' => e = .returned (.tuple #[.int .i64 (max (Bm.extraI c) 0), .bool (decide (0 ≤ Bm.extraI c))]) ∧ Below w.heap.size w w'
def KFirst : Prop := ∀ w : World, Calls Try.prog 16 #[] w fun e w' => e = .returned (.agg #[.int .i64 1, .int .i64 2, .int .i64 4]) ∧ Below w.heap.size w w'
def Ok64 (x : Int) : Prop := -9223372036854775808 ≤ x ∧ x ≤ 9223372036854775807
def KNum : Prop := ∀ (w : World) (a b c x : Int), Ok64 a → Ok64 b → Ok64 c → Ok64 x → Calls Try.prog 12 #[.agg #[.int .i64 a, .int .i64 b, .int .i64 c], .int .i64 x] w fun e w' =>
  (0 ≤ Bm.numI a b c x → e = .returned (.tuple #[.int .i64 (Bm.numI a b c x), .agg #[.int .i64 (Bm.behI a b c x).1, .int .i64 (Bm.behI a b c x).2.1, .int .i64 (Bm.behI a b c x).2.2], .bool true])) ∧
  (Bm.numI a b c x < 0 → e = .returned (.tuple #[.int .i64 0, .agg #[.int .i64 a, .int .i64 b, .int .i64 c], .bool false])) ∧ Below w.heap.size w w'
def KOff : Prop := ∀ (w : World) (a b c n : Int), Ok64 a → Ok64 b → Ok64 c → Ok64 n → Calls Try.prog 15 #[.agg #[.int .i64 a, .int .i64 b, .int .i64 c], .int .i64 n] w fun e w' =>
  (∀ x, Bm.offI a b c n = some x → e = .returned (.tuple #[.int .i64 x, .agg #[.int .i64 (Bm.behI a b c x).1, .int .i64 (Bm.behI a b c x).2.1, .int .i64 (Bm.behI a b c x).2.2], .bool true])) ∧
  (Bm.offI a b c n = none → e = .returned (.tuple #[.int .i64 0, .agg #[.int .i64 a, .int .i64 b, .int .i64 c], .bool false])) ∧ Below w.heap.size w w'
end Go.Proofs.Ytlimiiimgblggaa
