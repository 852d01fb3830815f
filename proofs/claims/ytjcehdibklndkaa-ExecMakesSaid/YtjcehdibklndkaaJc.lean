/-
  Layer 14 (exec): steps of either sign in memory. Conditions: as each theorem's premises say.
-/
import Derived.Test.YtjcehdibklndkaaPc
import Derived.Test.YtjcehdibklndkaaJm
namespace Go.Proofs.Ytjcehdibklndkaa
open Go.RowKit

/-- A slice that reads as these steps, of either sign. -/
def StzR (w : World) (A : Option Addr) (l : List Bm.StZ) : Prop := 0 < l.length → ∃ g off, A = some ⟨g, off, none⟩ ∧ g < w.heap.size ∧ ∀ j (h : j < l.length), w.cell? ⟨g, off + j * 3, none⟩ = some (.int .i64 l[j].1) ∧ w.cell? ⟨g, off + j * 3 + 1, none⟩ = some (.int .i64 l[j].2.1) ∧ w.cell? ⟨g, off + j * 3 + 2, none⟩ = some (.int .i64 l[j].2.2)
/-- Steps whose numbers are ints. -/
def ZOk (l : List Bm.StZ) : Prop := ∀ s ∈ l, Bm.IntOk s.1 ∧ Bm.IntOk s.2.1 ∧ Bm.IntOk s.2.2
theorem StzR.below {w w' : World} {A : Option Addr} {l : List Bm.StZ} (h : StzR w A l) (hb : Below w.heap.size w w') : StzR w' A l := fun h0 => by
  obtain ⟨g, off, e, hg, hc⟩ := h h0
  refine ⟨g, off, e, Nat.lt_of_lt_of_le hg hb.size, fun j hj => ?_⟩
  obtain ⟨c0, c1, c2⟩ := hc j hj
  exact ⟨(hb.cell (p := ⟨g, _, none⟩) hg).trans c0, (hb.cell (p := ⟨g, _, none⟩) hg).trans c1, (hb.cell (p := ⟨g, _, none⟩) hg).trans c2⟩
theorem stz_of {w : World} {A : Option Addr} {l : List Bm.Stp} (h : StpR w A l) : StzR w A (l.map Bm.stpZ) := fun h0 => by
  obtain ⟨g, off, e, hg, hc⟩ := h (by simpa using h0)
  refine ⟨g, off, e, hg, fun j hj => ?_⟩
  have h1 := hc j (by simpa using hj)
  rw [List.getElem_map]
  exact h1
theorem stp_of {w : World} {A : Option Addr} {l : List Bm.Stp} (h : StzR w A (l.map Bm.stpZ)) : StpR w A l := fun h0 => by
  obtain ⟨g, off, e, hg, hc⟩ := h (by simpa using h0)
  refine ⟨g, off, e, hg, fun j hj => ?_⟩
  have h1 := hc j (by simpa using hj)
  rw [List.getElem_map] at h1
  exact h1
end Go.Proofs.Ytjcehdibklndkaa
