/-
  Arrays of three in a block: cells, and what keeps them. No condition.
-/
import Derived.Test.YtfopnbfaaikghaaMg
namespace Go.Proofs.Ytfopnbfaaikghaa
open Go.RowKit

theorem Row.below {w w' : World} {b : Nat} {t : TypeId} {cs : List Value} (h : Row w b t cs) (hb : Below w.heap.size w w') : Row w' b t cs := h.keep (hb.block b h.lt)
theorem row3 {w : World} {b : Nat} {t : TypeId} {x y z : Value} (h : Row w b t [x, y, z]) : w.cell? ⟨b, 0, none⟩ = some x ∧ w.cell? ⟨b, 1, none⟩ = some y ∧ w.cell? ⟨b, 2, none⟩ = some z := by
  have h0 := h.cell 0
  have h1 := h.cell 1
  have h2 := h.cell 2
  simp only [List.getElem?_cons_zero, List.getElem?_cons_succ] at h0 h1 h2
  exact ⟨h0, h1, h2⟩
theorem row3_held {w : World} {b : Nat} {t : TypeId} {x y z : Value} (h : Row w b t [x, y, z]) : (∀ W, Below w.heap.size w W → W.cell? ⟨b, 0, none⟩ = some x) ∧ (∀ W, Below w.heap.size w W → W.cell? ⟨b, 1, none⟩ = some y) ∧ (∀ W, Below w.heap.size w W → W.cell? ⟨b, 2, none⟩ = some z) :=
  ⟨fun _ hb => (row3 (h.below hb)).1, fun _ hb => (row3 (h.below hb)).2.1, fun _ hb => (row3 (h.below hb)).2.2⟩
end Go.Proofs.Ytfopnbfaaikghaa
