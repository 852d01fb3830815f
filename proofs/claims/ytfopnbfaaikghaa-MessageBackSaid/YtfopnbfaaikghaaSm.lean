/-
  Plain mathematics for layer 4 (sum): a byte more, the sum, all of 64 bits; and these numbers in the walk's spelling. It speaks of no program. No condition.
-/
import Derived.Test.YtfopnbfaaikghaaGn
import Derived.Laws.BitsAllLaws
import Derived.Laws.Bits64
namespace Go.Proofs.Ytfopnbfaaikghaa
open Go.RowKit
namespace Bm
def mulH (h b : Nat) : Nat := (h ^^^ b) * 11400714819323198485 % 18446744073709551616
/-- H behind a byte more. -/
def stepH (h b : Nat) : Nat := mulH h b ^^^ mulH h b / 536870912
def mulS (h n : Nat) : Nat := (h + n) % 18446744073709551616 * 13787848793156543929 % 18446744073709551616
/-- The sum of a state. -/
def sumH (h n : Nat) : Nat := mulS h n ^^^ mulS h n / 4294967296
def H0 : Nat := 7640891576956012808
/-- H behind all of a list's bytes. -/
def fromH (h : Nat) (l : List Nat) : Nat := l.foldl stepH h
theorem xor64 {a b : Nat} (ha : a < 18446744073709551616) (hb : b < 18446744073709551616) : a ^^^ b < 18446744073709551616 := Nat.xor_lt_two_pow (n := 64) (by omega) (by omega)
theorem mulH_lt (h b : Nat) : mulH h b < 18446744073709551616 := Nat.mod_lt _ (by decide)
theorem stepH_lt (h b : Nat) : stepH h b < 18446744073709551616 := xor64 (mulH_lt h b) (Nat.lt_of_le_of_lt (Nat.div_le_self _ _) (mulH_lt h b))
theorem mulS_lt (h n : Nat) : mulS h n < 18446744073709551616 := Nat.mod_lt _ (by decide)
theorem sumH_lt (h n : Nat) : sumH h n < 18446744073709551616 := xor64 (mulS_lt h n) (Nat.lt_of_le_of_lt (Nat.div_le_self _ _) (mulS_lt h n))
theorem H0_lt : H0 < 18446744073709551616 := by decide
theorem fromH_lt (h : Nat) (l : List Nat) (hh : h < 18446744073709551616) : fromH h l < 18446744073709551616 := by
  induction l generalizing h with
  | nil => exact hh
  | cons b l ih => exact ih _ (stepH_lt h b)
theorem fromH_snoc (h : Nat) (l : List Nat) (b : Nat) : fromH h (l ++ [b]) = stepH (fromH h l) b := by
  unfold fromH; rw [List.foldl_append, List.foldl_cons, List.foldl_nil]
theorem fromH_append (h : Nat) (l m : List Nat) : fromH h (l ++ m) = fromH (fromH h l) m := by
  unfold fromH; rw [List.foldl_append]
theorem fromH_take (h : Nat) (l : List Nat) (k : Nat) (hk : k < l.length) : fromH h (l.take (k + 1)) = stepH (fromH h (l.take k)) l[k] := by
  rw [List.take_succ_eq_append_getElem hk, fromH_snoc]
/-- The sum of a text. -/
def sumOf (l : List Nat) : Nat := sumH (fromH H0 l) l.length
theorem sumOf_lt (l : List Nat) : sumOf l < 18446744073709551616 := sumH_lt _ _
/-- The sum asks only for H and N together. -/
theorem sumH_flat (h n : Nat) : sumH ((h + n) % 18446744073709551616) 0 = sumH h n := by
  have : mulS ((h + n) % 18446744073709551616) 0 = mulS h n := by unfold mulS; rw [Nat.add_zero, Nat.mod_mod]
  unfold sumH; rw [this]
end Bm
theorem xor_walk (a b : Nat) (ha : a < 18446744073709551616) (hb : b < 18446744073709551616) : bits .xor .u64 (a : Int) (b : Int) = ((a ^^^ b : Nat) : Int) := u64_xor_nat a b ha hb
theorem step_1 (h b : Nat) (hh : h < 18446744073709551616) (hb : b < 256) : IntKind.u64.wrap (bits .xor .u64 (h : Int) (b : Int) * 11400714819323198485) = (Bm.mulH h b : Int) := by
  rw [u64_xor_nat h b hh (by omega), IntKind.wrap_u64]
  unfold Bm.mulH
  omega
theorem step_2 (h b : Nat) : bits .xor .u64 (Bm.mulH h b : Int) ((Bm.mulH h b : Int) / 536870912) = (Bm.stepH h b : Int) := xorShift_u64 (Bm.mulH h b) 536870912 (Bm.mulH_lt h b)
theorem sum_1 (h n : Nat) : IntKind.u64.wrap (IntKind.u64.wrap ((h : Int) + (n : Int)) * 13787848793156543929) = (Bm.mulS h n : Int) := by
  rw [IntKind.wrap_u64, IntKind.wrap_u64]
  unfold Bm.mulS
  omega
theorem sum_2 (h n : Nat) : bits .xor .u64 (Bm.mulS h n : Int) ((Bm.mulS h n : Int) / 4294967296) = (Bm.sumH h n : Int) := xorShift_u64 (Bm.mulS h n) 4294967296 (Bm.mulS_lt h n)
end Go.Proofs.Ytfopnbfaaikghaa
