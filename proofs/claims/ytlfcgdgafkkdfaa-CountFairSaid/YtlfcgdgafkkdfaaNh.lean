/-
  What layer 5's calls (count) are to answer, as the laws' walks ask for it: definitions alone, each a premise of a law's walk. No condition.
-/
import Derived.Test.YtlfcgdgafkkdfaaNo
import Derived.Test.YtlfcgdgafkkdfaaNc
import Derived.Test.YtlfcgdgafkkdfaaNf
import Derived.Test.YtlfcgdgafkkdfaaNm
namespace Go.Proofs.Ytlfcgdgafkkdfaa
open Go.RowKit
namespace Bm
instance (l : List Int) : Decidable (Right l) := by unfold Right; exact inferInstance
def ShareOk (l : List Int) (log : Int) : Prop := Right l ∧ 5 ≤ log ∧ log ≤ 9 ∧ symN l ≤ 2 ^ log.toNat
instance (l : List Int) (log : Int) : Decidable (ShareOk l log) := by unfold ShareOk; exact inferInstance
/-- What Share answers: the numbers (none: there is no share). -/
def shareA (l : List Int) (log : Int) : List Int := if ShareOk l log then (shareM (l.map Int.toNat) (2 ^ log.toNat)).map (fun n : Nat => (n : Int)) else []
/-- What Log answers. -/
def logA (l : List Int) : Nat := if Right l then logM (symN l) (l.sum.toNat / 8) else 0
end Bm
def COf : Prop := ∀ (A : Option Addr) (c : Nat) (bs : List Nat) (w : World), bs.length ≤ 1000000 → (∀ x ∈ bs, x < 256) → Reads w A (u8s bs) →
  Calls Try.prog 6 #[.slice A bs.length c] w fun e w' => ∃ A' c', e = .returned (.slice A' (Bm.topB bs) c') ∧ Reads w' A' (i64s (Bm.countsOf bs)) ∧ Below w.heap.size w w'
def CSymbols : Prop := ∀ (A : Option Addr) (c : Nat) (l : List Int) (w : World), l.length ≤ 1000000 → Reads w A (i64z l) →
  Calls Try.prog 9 #[.slice A l.length c] w fun e w' => e = .returned (.int .i64 (Bm.symN l : Int)) ∧ Below w.heap.size w w'
def CFair : Prop := ∀ (A : Option Addr) (c : Nat) (l : List Int) (log : Int) (w : World), l.length ≤ 1000000 → (∀ x ∈ l, Bm.IntOk x) → Bm.IntOk log → Reads w A (i64z l) →
  Calls Try.prog 13 #[.slice A l.length c, .int .i64 log] w fun e w' => e = .returned (.bool (Bm.fairB l log)) ∧ Below w.heap.size w w'
def CLog : Prop := ∀ (A : Option Addr) (c : Nat) (l : List Int) (w : World), l.length ≤ 1000000 → (∀ x ∈ l, Bm.IntOk x) → Reads w A (i64z l) →
  Calls Try.prog 12 #[.slice A l.length c] w fun e w' => e = .returned (.int .i64 (Bm.logA l : Int)) ∧ Below w.heap.size w w'
def CShare : Prop := ∀ (A : Option Addr) (c : Nat) (l : List Int) (log : Int) (w : World), l.length ≤ 1000000 → (∀ x ∈ l, Bm.IntOk x) → Bm.IntOk log → Reads w A (i64z l) →
  Calls Try.prog 11 #[.slice A l.length c, .int .i64 log] w fun e w' => ∃ A' c', e = .returned (.tuple #[.slice A' (Bm.shareA l log).length c', .bool (decide (Bm.ShareOk l log))]) ∧ Reads w' A' (i64z (Bm.shareA l log)) ∧ Below w.heap.size w w'
end Go.Proofs.Ytlfcgdgafkkdfaa
