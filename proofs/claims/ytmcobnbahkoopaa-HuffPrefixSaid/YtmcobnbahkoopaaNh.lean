/-
  What layer 5's calls (count) are to answer, as the laws' walks ask for it: definitions alone, each a premise of a law's walk. No condition.
-/
import Derived.Test.YtmcobnbahkoopaaNv
import Derived.Test.YtmcobnbahkoopaaNf
import Derived.Test.YtmcobnbahkoopaaNm
namespace Go.Proofs.Ytmcobnbahkoopaa
open Go.RowKit
namespace Bm
instance (l : List Int) : Decidable (Right l) := by unfold Right; exact inferInstance
def ShareOk (l : List Int) (log : Int) : Prop := Right l ∧ 5 ≤ log ∧ log ≤ 9 ∧ symN l ≤ 2 ^ log.toNat
instance (l : List Int) (log : Int) : Decidable (ShareOk l log) := by unfold ShareOk; exact inferInstance
/-- What Share answers: the numbers (none: there is no share). -/
def shareA (l : List Int) (log : Int) : List Int := if ShareOk l log then (shareM (l.map Int.toNat) (2 ^ log.toNat)).map (fun n : Nat => (n : Int)) else []
/-- What Log answers. -/
def logA (l : List Int) : Nat := if Right l then logM (symN l) (l.sum.toNat / 8) else 0
end Bm
def CSymbols : Prop := ∀ (A : Option Addr) (c : Nat) (l : List Int) (w : World), l.length ≤ 1000000 → Reads w A (i64z l) →
  Calls Try.prog 28 #[.slice A l.length c] w fun e w' => e = .returned (.int .i64 (Bm.symN l : Int)) ∧ Below w.heap.size w w'
end Go.Proofs.Ytmcobnbahkoopaa
