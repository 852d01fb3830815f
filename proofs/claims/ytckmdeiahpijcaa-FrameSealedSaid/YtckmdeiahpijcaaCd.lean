/-
  Layer 3 (cursor), the Writer, each by its walk: Group, Text. Conditions: as each theorem's premises say (up to a hundred million bytes).
-/
import Derived.Test.YtckmdeiahpijcaaCb
namespace Go.Proofs.Ytckmdeiahpijcaa
open Go.RowKit

theorem or_more (x : Nat) : bits .or .u8 ((x : Int) % 256) 128 = ((x % 128 + 128 : Nat) : Int) := by
  have e : (x : Int) % 256 = ((x % 256 : Nat) : Int) := by simp
  rw [e, show (128 : Int) = ((128 : Nat) : Int) from rfl, u8_or_nat _ _ (by omega) (by omega)]
  congr 1
  have h : ∀ y, y < 256 → y ||| 128 = y % 128 + 128 := by decide +kernel
  rw [h _ (by omega)]
  omega
theorem own_snoc {w : World} {base n b : Nat} {u : Value} {l : List Nat} (h : w.ownsRow base 5 1 u (n + 1) (u8s l ++ [.int .u8 (b : Int)])) : w.ownsRow base 5 1 u (n + 1) (u8s (l ++ [b])) := by
  have e : u8s (l ++ [b]) = u8s l ++ [.int .u8 (b : Int)] := by simp [u8s]
  rw [e]; exact h

end Go.Proofs.Ytckmdeiahpijcaa
