/-
  A string as a new slice of bytes that is written to, and a string again. No condition beyond the theorems' premises.
-/
import Derived.Test.YtnjmoameedmikaaSg
namespace Go.Proofs.Ytnjmoameedmikaa
open Go.RowKit

/-- Block g begins with just these bytes, none of them frozen. -/
def BytesAt (w : World) (g : Nat) (l : List Nat) : Prop := ∃ C n m, w.heap[g]? = some (.cells C 5 (n, m)) ∧ l.length ≤ n ∧ l.length ≤ C.size ∧ ∀ j (h : j < l.length), C[j]? = some (.int .u8 (l[j] : Int))
theorem BytesAt.cell {w : World} {g : Nat} {l : List Nat} (h : BytesAt w g l) (j : Nat) (hj : j < l.length) : w.cell? ⟨g, j, none⟩ = some (.int .u8 (l[j] : Int)) := by
  obtain ⟨C, n, m, h1, _, _, h2⟩ := h
  rw [cell_of_row w g j C 5 (n, m) h1]
  exact h2 j hj
theorem BytesAt.free {w : World} {g : Nat} {l : List Nat} (h : BytesAt w g l) (j : Nat) (hj : j < l.length) : w.frozen? ⟨g, j, none⟩ = false := by
  obtain ⟨C, n, m, h1, h2, _, _⟩ := h
  simp only [World.frozen?, h1]
  have : decide (n ≤ j) = false := decide_eq_false (by omega)
  rw [this]; rfl
theorem BytesAt.set_ {w : World} {g : Nat} {l : List Nat} (h : BytesAt w g l) (k x : Nat) : BytesAt (w.setCell ⟨g, k, none⟩ (.int .u8 (x : Int))) g (l.set k x) := by
  obtain ⟨C, n, m, h1, h2, h3, h4⟩ := h
  refine ⟨C.setIfInBounds k (.int .u8 (x : Int)), n, m, ?_, by rw [List.length_set]; exact h2, by rw [List.length_set, Array.size_setIfInBounds]; exact h3, ?_⟩
  · simp [World.setCell, Array.getElem?_modify, h1]
  · intro j hj
    rw [List.length_set] at hj
    rw [Array.getElem?_setIfInBounds, List.getElem_set]
    by_cases e : k = j
    · subst e; rw [if_pos rfl, if_pos (by omega), if_pos rfl]
    · rw [if_neg e, if_neg e]; exact h4 j hj
theorem BytesAt.reads {w : World} {g : Nat} {l : List Nat} (h : BytesAt w g l) : Reads w (some ⟨g, 0, none⟩) (u8s l) := fun _ => ⟨g, 0, rfl, fun j hj => by
  rw [u8s_length] at hj
  rw [Nat.zero_add, h.cell j hj, u8s_get? l j hj]⟩
theorem conv_edit (w : World) (l : List Nat) (hlt : ∀ x ∈ l, x < 256) : ∃ w2 cap, (convert 9 33 (.string (strOf l))).run Try.prog w = .ok (.slice (some ⟨w.heap.size, 0, none⟩) l.length cap) w2 ∧ BytesAt w2 w.heap.size l ∧ Below w.heap.size w w2 := by
  have h := run_bytes_of_string (P := Try.prog) w 9 33 5 (strOf l) Try.underlying9 Try.underlying33 Try.underlying5
  rw [strOf_size] at h
  have hsz : (bytesRow (strOf l) (grownCap w l.length 0 5)).size = l.length + (grownCap w l.length 0 5 - l.length) := by
    unfold bytesRow
    rw [Array.size_append, Array.size_map, Array.size_replicate, strOf_size]
    have : (strOf l).data.size = l.length := strOf_size l
    omega
  refine ⟨_, _, h, ⟨_, _, _, heap_alloc_new w.drew _, by omega, by omega, ?_⟩, ?_⟩
  · intro j hj
    have hs : j < (strOf l).data.size := by simp [strOf]; exact hj
    have h1 := bytesRow_at (strOf l) (grownCap w l.length 0 5) j hs
    have e : (strOf l).data[j] = UInt8.ofNat l[j] := by simp [strOf]
    rw [e, UInt8.toNat_ofNat_of_lt' (hlt _ (List.getElem_mem hj))] at h1
    exact h1
  · exact (Below.refl _ _).drew.alloc (Nat.le_refl _) _
end Go.Proofs.Ytnjmoameedmikaa
