/-
  Layer 6 (spread): the reference's Build, by its walk. Conditions: as each theorem's premises say.
-/
import Derived.Test.YtefcahmhfjblpaaTn
import Derived.Test.YtefcahmhfjblpaaRw
import Derived.Lib.MinMax
namespace Go.Proofs.Ytefcahmhfjblpaa
open Go.RowKit

theorem c3_two (l : List Cel) (i s B Z : Nat) (h : i < l.length) (hl : l[i] = (s, 0, 0)) : ((c3 l).set (i * 3 + 1) (.int .i64 (B : Int))).set (i * 3 + 2) (.int .i64 (Z : Int)) = c3 (l.set i (s, B, Z)) := by
  have h1 := (c3_set l i h 0 B 0).2.1
  rw [hl] at h1
  rw [h1]
  have hl2 : i < (l.set i (s, B, 0)).length := by simpa using h
  have h2 := (c3_set (l.set i (s, B, 0)) i hl2 0 0 Z).2.2
  rw [List.getElem_set_self, List.set_set] at h2
  exact h2
theorem step_int (a S : Nat) : ((a : Int) + (S : Int) / 2 + (S : Int) / 8 + 3) % (S : Int) = (((a + (S / 2 + S / 8 + 3)) % S : Nat) : Int) := by
  rw [Int.natCast_emod]
  congr 1
  omega
end Go.Proofs.Ytefcahmhfjblpaa
