/-
  The reference of layer 11 (chain), by its walk: Same, right. Conditions: as each theorem's premises say (up to a million bytes).
-/
import Derived.Test.YtjcehdibklndkaaEm
import Derived.Test.YtjcehdibklndkaaIn
import Derived.Test.YtjcehdibklndkaaSt
import Derived.BigQuiet
import Derived.WalkSmall
import Derived.Deep.QuietTactic
namespace Go.Proofs.Ytjcehdibklndkaa
open Go.RowKit

/-- Only blocks of S, and new ones, have changed. -/
structure Sep (S : Nat → Prop) (w w' : World) : Prop where
  os : w'.os = w.os
  tape : w'.tape = w.tape
  output : w'.output = w.output
  size : w.heap.size ≤ w'.heap.size
  block : ∀ k, k < w.heap.size → ¬ S k → w'.heap[k]? = w.heap[k]?
theorem Sep.below {S : Nat → Prop} {w w' : World} {B : Nat} (h : Sep S w w') (hS : ∀ k, S k → B ≤ k) (hB : B ≤ w.heap.size) : Below B w w' :=
  ⟨h.os, h.tape, h.output, h.size, fun k hk => h.block k (by omega) (fun hs => by have := hS k hs; omega)⟩
theorem Sep.of_below {w w' : World} (S : Nat → Prop) (h : Below w.heap.size w w') : Sep S w w' := ⟨h.os, h.tape, h.output, h.size, fun k hk _ => h.block k hk⟩
end Go.Proofs.Ytjcehdibklndkaa
