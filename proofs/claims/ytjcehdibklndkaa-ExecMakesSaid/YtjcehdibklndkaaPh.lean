/-
  What layer 12's calls (parse) are to answer, as the laws' walks ask for it: definitions, each a premise of a law's walk. No condition.
-/
import Derived.Test.YtjcehdibklndkaaPc
namespace Go.Proofs.Ytjcehdibklndkaa
open Go.RowKit

/-- Steps: some that make the text's first 600 bytes, none at level 0 or below. -/
def PSteps : Prop := ∀ (w : World) (D X : List Nat) (v : Int), D.length ≤ 1000000000 → X.length ≤ 1000000000 → (∀ z ∈ D, z < 256) → (∀ z ∈ X, z < 256) → Bm.IntOk v → Calls Try.prog 10 #[.string (strOf D), .string (strOf X), .int .i64 v] w fun e w' =>
  ∃ A c l, e = .returned (.slice A l.length c) ∧ StpR w' A l ∧ l.length ≤ 600 ∧ Bm.OkS (D.drop (D.length - 600) ++ X.take 600) (D.drop (D.length - 600)).length l ∧ (v ≤ 0 → l = []) ∧ Below w.heap.size w w'
def PLits : Prop := ∀ (w : World) (X : List Nat) (A : Option Addr) (c : Nat) (l : List Bm.Stp), X.length ≤ 100000000 → l.length ≤ 100000000 → (∀ z ∈ X, z < 256) → Bm.endS 0 l ≤ X.length → StpR w A l → Calls Try.prog 11 #[.string (strOf X), .slice A l.length c] w fun e w' => e = .returned (.string (strOf (Bm.litS X 0 l))) ∧ Below w.heap.size w w'
/-- Steps of the document's example, as the law's awake asks. -/
def PAbc : Prop := ∀ (w : World), Calls Try.prog 10 #[.string ⟨#[]⟩, .string ⟨#[97, 98, 99, 97, 98, 99, 97, 98, 99]⟩, .int .i64 1] w fun e w' => ∃ A c, e = .returned (.slice A 1 c) ∧ StpR w' A [(3, 6, 3)] ∧ Below w.heap.size w w'
end Go.Proofs.Ytjcehdibklndkaa
