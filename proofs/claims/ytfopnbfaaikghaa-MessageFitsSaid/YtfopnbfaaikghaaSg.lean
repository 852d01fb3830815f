/-
  A string as a new slice of bytes. No condition beyond the theorem's premises.
-/
import Derived.Test.YtfopnbfaaikghaaSt
import Derived.Laws.IdiomStrings
namespace Go.Proofs.Ytfopnbfaaikghaa
open Go.RowKit

/-- A string as bytes: a new row. -/
theorem conv_back (w : World) (l : List Nat) (hlt : ∀ x ∈ l, x < 256) : ∃ w2 cap, (convert 9 64 (.string (strOf l))).run Try.prog w = .ok (.slice (some ⟨w.heap.size, 0, none⟩) l.length cap) w2 ∧
    (∀ j (h : j < l.length), w2.cell? ⟨w.heap.size, j, none⟩ = some (.int .u8 (l[j] : Int))) ∧ Below w.heap.size w w2 := by
  have h := run_bytes_of_string (P := Try.prog) w 9 64 5 (strOf l) Try.underlying9 Try.underlying64 Try.underlying5
  rw [strOf_size] at h
  refine ⟨_, _, h, ?_, ?_⟩
  · intro j hj
    have hs : j < (strOf l).data.size := by simp [strOf]; exact hj
    have h1 := bytesRow_at (strOf l) (grownCap w l.length 0 5) j hs
    have e : (strOf l).data[j] = UInt8.ofNat l[j] := by simp [strOf]
    rw [e, UInt8.toNat_ofNat_of_lt' (hlt _ (List.getElem_mem hj))] at h1
    rw [cell_of_row _ w.heap.size j _ _ _ (heap_alloc_new w.drew _)]
    exact h1
  · exact (Below.refl _ _).drew.alloc (Nat.le_refl _) _
end Go.Proofs.Ytfopnbfaaikghaa
