/-
  Layer 4 (sum): Add, by its walk. Conditions: as each theorem's premises say.
-/
import Derived.Test.YtecelklpeealaaaSa
import Derived.Test.YtecelklpeealaaaSt
import Derived.Test.YtecelklpeealaaaAf
import Derived.StillTailTactics
namespace Go.Proofs.Ytecelklpeealaaa
open Go.RowKit

/-- A state's cells. -/
def scells (h n : Nat) : List Value := [.int .u64 (h : Int), .int .u64 (n : Int)]
theorem Row.state {w : World} {b h n h' n' : Nat} (hr : Row w b 58 (scells h n)) : Row ((w.setCell ⟨b, 0, none⟩ (.int .u64 (h' : Int))).setCell ⟨b, 1, none⟩ (.int .u64 (n' : Int))) b 58 (scells h' n') :=
  (hr.set_ 0 (.int .u64 (h' : Int))).set_ 1 (.int .u64 (n' : Int))

end Go.Proofs.Ytecelklpeealaaa
