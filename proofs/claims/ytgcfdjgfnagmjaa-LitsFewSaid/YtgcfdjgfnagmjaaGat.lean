/-
  The reference of layer 10 (litcode), by its walk: Decode. Conditions: as the theorem's premises say (whole lengths; up to a thousand bytes).
-/
import Derived.Test.YtgcfdjgfnagmjaaGar
import Derived.Test.YtgcfdjgfnagmjaaGag
import Derived.Test.YtgcfdjgfnagmjaaGac
import Derived.Deep.DeepCutAuto
namespace Go.Proofs.Ytgcfdjgfnagmjaa
open Go.RowKit

/-- Bytes and true, or nothing and false. -/
def BytesQ (w' : World) (e : Ending) : Option (List Nat) → Prop
  | none => ∃ A c, e = .returned (.tuple #[.slice A 0 c, .bool false])
  | some bs => ∃ A c, e = .returned (.tuple #[.slice A bs.length c, .bool true]) ∧ bs.length ≤ c ∧ Reads w' A (u8s bs)
def metI : Option Nat → Int
  | none => -1
  | some k => (k : Int)
end Go.Proofs.Ytgcfdjgfnagmjaa
