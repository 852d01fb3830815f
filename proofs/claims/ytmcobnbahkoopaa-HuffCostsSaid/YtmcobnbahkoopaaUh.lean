/-
  What layer 9's calls (huff) are to answer, as the laws' walks ask for it: definitions, each a premise of a law's walk. No condition.
-/
import Derived.Test.YtmcobnbahkoopaaUf
import Derived.Test.YtmcobnbahkoopaaUt
import Derived.Test.YtmcobnbahkoopaaNm
namespace Go.Proofs.Ytmcobnbahkoopaa
open Go.RowKit
instance (l : List Int) : Decidable (Bm.Right l) := by unfold Bm.Right; exact inferInstance
/-- What the calls of layer 9 answer. -/
structure HuffOk (D : List Int → Prop) : Prop where
  lens : ∀ (w : World) (A : Option Addr) (c : Nat) (l : List Int), l.length ≤ maxLen → (∀ x ∈ l, Bm.IntOk x) → Reads w A (i64z l) → Bm.Right l → D l →
    Calls Try.prog 8 #[.slice A l.length c] w fun e w' => ∃ B d ls, e = .returned (.tuple #[.slice B l.length d, .bool true]) ∧ Reads w' B (i64s ls) ∧ Bm.GoodN (l.map Int.toNat) ls ∧ Below w.heap.size w w'
  noLens : ∀ (w : World) (A : Option Addr) (c : Nat) (l : List Int), l.length ≤ maxLen → (∀ x ∈ l, Bm.IntOk x) → Reads w A (i64z l) → ¬ Bm.Right l →
    Calls Try.prog 8 #[.slice A l.length c] w fun e w' => ∃ B d, e = .returned (.tuple #[.slice B 0 d, .bool false]) ∧ Below w.heap.size w w'
  whole : ∀ (w : World) (A : Option Addr) (c : Nat) (l : List Int), l.length ≤ maxLen → (∀ x ∈ l, Bm.IntOk x) → Reads w A (i64z l) →
    Calls Try.prog 17 #[.slice A l.length c] w fun e w' => e = .returned (.bool (decide (Bm.WholeI l))) ∧ Below w.heap.size w w'
  codes : ∀ (w : World) (A : Option Addr) (c : Nat) (l : List Int), l.length ≤ maxLen → (∀ x ∈ l, Bm.IntOk x) → Reads w A (i64z l) → Bm.WholeI l →
    Calls Try.prog 16 #[.slice A l.length c] w fun e w' => ∃ B d, e = .returned (.tuple #[.slice B l.length d, .bool true]) ∧ Reads w' B (i64s (Bm.codesN (l.map Int.toNat))) ∧ Below w.heap.size w w'
  noCodes : ∀ (w : World) (A : Option Addr) (c : Nat) (l : List Int), l.length ≤ maxLen → (∀ x ∈ l, Bm.IntOk x) → Reads w A (i64z l) → ¬ Bm.WholeI l →
    Calls Try.prog 16 #[.slice A l.length c] w fun e w' => ∃ B d, e = .returned (.tuple #[.slice B 0 d, .bool false]) ∧ Below w.heap.size w w'
  cost : ∀ (w : World) (A B : Option Addr) (c d : Nat) (cs ls : List Int), cs.length ≤ maxLen → ls.length ≤ maxLen → (∀ x ∈ cs, Bm.IntOk x) → (∀ x ∈ ls, Bm.IntOk x) → Reads w A (i64z cs) → Reads w B (i64z ls) →
    Calls Try.prog 14 #[.slice A cs.length c, .slice B ls.length d] w fun e w' => e = .returned (if Bm.Right cs ∧ cs.length ≤ ls.length ∧ Bm.LenR ls then costV (cs.map Int.toNat) (ls.map Int.toNat) else .tuple #[.int .i64 0, .bool false]) ∧ Below w.heap.size w w'
  best : ∀ (w : World) (A : Option Addr) (c : Nat) (l : List Int), l.length ≤ maxLen → (∀ x ∈ l, Bm.IntOk x) → Reads w A (i64z l) →
    Calls Try.prog 10 #[.slice A l.length c] w fun e w' => e = .returned (.int .i64 ((if Bm.Right l then Bm.bestN (l.map Int.toNat) else 0 : Nat) : Int)) ∧ Below w.heap.size w w'
end Go.Proofs.Ytmcobnbahkoopaa
