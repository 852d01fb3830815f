/-
  What layer 11's calls (chain) are to answer, as the laws' walks ask for it: definitions, each a premise of a law's walk. No condition.
-/
import Derived.Test.YtjcehdibklndkaaEf
namespace Go.Proofs.Ytjcehdibklndkaa
open Go.RowKit

/-- What a Finder's calls answer; FI w p T P S: a Finder of the text T, with the places P noted, lies at p, in the blocks S. -/
structure FindOk (FI : World → Addr → List Nat → List Nat → (Nat → Prop) → Prop) : Prop where
  keep : ∀ (w w' : World) (p : Addr) (T P : List Nat) (S : Nat → Prop), FI w p T P S → w.heap.size ≤ w'.heap.size → (∀ k, S k → w'.heap[k]? = w.heap[k]?) → FI w' p T P S
  lt : ∀ (w : World) (p : Addr) (T P : List Nat) (S : Nat → Prop), FI w p T P S → ∀ k, S k → k < w.heap.size
  new : ∀ (w : World) (T : List Nat), T.length ≤ 2000 → (∀ x ∈ T, x < 256) → Calls Try.prog 17 #[.string (strOf T)] w fun e w' =>
    ∃ p S, e = .returned (.pointer (some p)) ∧ FI w' p T [] S ∧ (∀ k, S k → w.heap.size ≤ k) ∧ Below w.heap.size w w'
  note : ∀ (w : World) (p : Addr) (T P : List Nat) (S : Nat → Prop) (a : Int), T.length ≤ 2000 → (∀ x ∈ T, x < 256) → FI w p T P S → Bm.IntOk a → Calls Try.prog 24 #[.pointer (some p), .int .i64 a] w fun e w' =>
    e = .returned (.bool (Bm.noteB T P a)) ∧ (∃ S', FI w' p T (Bm.noteP T P a) S' ∧ ∀ k, S' k → S k ∨ w.heap.size ≤ k) ∧ Sep S w w'
  find : ∀ (w : World) (p : Addr) (T P : List Nat) (S : Nat → Prop) (a depth : Int), T.length ≤ 2000 → (∀ x ∈ T, x < 256) → FI w p T P S → Bm.IntOk a → Bm.IntOk depth → Calls Try.prog 26 #[.pointer (some p), .int .i64 a, .int .i64 depth] w fun e w' =>
    e = .returned (.tuple #[.int .i64 ((Bm.findI T P a depth).1 : Int), .int .i64 ((Bm.findI T P a depth).2 : Int)]) ∧ Below w.heap.size w w'
def ZLen (FI : World → Addr → List Nat → List Nat → (Nat → Prop) → Prop) : Prop := ∀ (w : World) (p : Addr) (T P : List Nat) (S : Nat → Prop), T.length ≤ 2000 → FI w p T P S → Calls Try.prog 25 #[.pointer (some p)] w fun e w' => e = .returned (.int .i64 (T.length : Int)) ∧ Below w.heap.size w w'
def ZSame : Prop := ∀ (w : World) (T : List Nat) (a b : Int), T.length ≤ 2000 → (∀ x ∈ T, x < 256) → Bm.IntOk a → Bm.IntOk b → Calls Try.prog 31 #[.string (strOf T), .int .i64 a, .int .i64 b] w fun e w' => e = .returned (.int .i64 (Bm.sameI T a b : Int)) ∧ Below w.heap.size w w'
def ZNil : Prop := (∀ (w : World) (a : Int), Calls Try.prog 24 #[.pointer none, .int .i64 a] w fun e w' => e = .returned (.bool false) ∧ Below w.heap.size w w') ∧
  (∀ (w : World) (a d : Int), Calls Try.prog 26 #[.pointer none, .int .i64 a, .int .i64 d] w fun e w' => e = .returned (.tuple #[.int .i64 0, .int .i64 0]) ∧ Below w.heap.size w w') ∧
  (∀ w : World, Calls Try.prog 25 #[.pointer none] w fun e w' => e = .returned (.int .i64 0) ∧ Below w.heap.size w w')
end Go.Proofs.Ytjcehdibklndkaa
