/-
  Ints (of either sign) as cells, slices of ints that read as a list; 2 to a power. No condition.
-/
import Derived.Test.YtnaocegcnckhmaaAr
namespace Go.Proofs.Ytnaocegcnckhmaa
open Go.RowKit

/-- The cells of a list of ints. -/
def i64z (l : List Int) : List Value := l.map fun z => .int .i64 z
theorem i64z_length (l : List Int) : (i64z l).length = l.length := by simp [i64z]
theorem i64z_get? (l : List Int) (i : Nat) (h : i < l.length) : (i64z l)[i]? = some (.int .i64 l[i]) := by simp [i64z, h]
theorem i64z_set (l : List Int) (i : Nat) (z : Int) : (i64z l).set i (.int .i64 z) = i64z (l.set i z) := by simp [i64z, List.map_set]
theorem i64z_nat (l : List Nat) : i64z (l.map fun n : Nat => (n : Int)) = i64s l := by simp [i64z, i64s]
theorem reads_iz {w : World} {A : Option Addr} {l : List Int} (h : Reads w A (i64z l)) (hne : 0 < l.length) : ∃ g off, A = some ⟨g, off, none⟩ ∧ ∀ j (hj : j < l.length), w.cell? ⟨g, off + j, none⟩ = some (.int .i64 l[j]) := by
  have hne' : i64z l ≠ [] := fun e => by
    have h1 := congrArg List.length e
    rw [i64z_length, List.length_nil] at h1
    omega
  obtain ⟨g, off, e, hc⟩ := h hne'
  exact ⟨g, off, e, fun j hj => by rw [hc j (by rw [i64z_length]; exact hj), i64z_get? l j hj]⟩
theorem argi_reads {w : World} {A : Option Addr} {n c : Nat} {l : List Int} (h : ArgI w A n c l) : Reads w A (i64z l) := fun hne => by
  obtain ⟨hl, _, h1, _⟩ := h
  have h0 : 0 < n := by
    rcases Nat.eq_zero_or_pos n with e | e
    · rw [e] at hl; rw [List.eq_nil_of_length_eq_zero hl] at hne; simp [i64z] at hne
    · exact e
  obtain ⟨g, off, e, _, hc⟩ := h1 h0
  exact ⟨g, off, e, fun j hj => by rw [i64z_length] at hj; rw [hc j hj, i64z_get? l j hj]⟩
/-- What reads goes on reading where the old blocks are as they were. -/
theorem reads_on {w W : World} {A : Option Addr} {xs : List Value} (h : Reads w A xs) (hb : Below w.heap.size w W) : Reads W A xs := fun hne => by
  obtain ⟨g, off, e, hc⟩ := h hne
  refine ⟨g, off, e, fun j hj => ?_⟩
  have h1 := hc j hj
  rw [List.getElem?_eq_getElem hj] at h1 ⊢
  rw [← h1]
  exact hb.cell (p := ⟨g, off + j, none⟩) (World.block_lt_of_cell? w _ h1)
theorem row_below {w W : World} {b : Nat} {t : TypeId} {cs : List Value} (hr : Row w b t cs) (hb : Below w.heap.size w W) : Row W b t cs := hr.keep (hb.block b hr.lt)
theorem reads_new (w : World) (l : List Int) : Reads (w.alloc (.cells (i64z l).toArray 3)) (some ⟨w.heap.size, 0, none⟩) (i64z l) := row_reads (Row.new w 3 (i64z l))
theorem info_in : (Try.prog.info? 3).map (fun i => (i.zero, i.size, i.bytes)) = some (some (.int .i64 0), 1, 8) := by kernel_rfl
theorem row_of_ownI {w : World} {base g n : Nat} (h : w.ownsRow base 3 1 (.slice (some ⟨g, 0, none⟩) n n) n (madeCells #[Value.int .i64 0] n).toList) : Row w g 3 (i64s (List.replicate n 0)) := by
  rcases h.2 with ⟨hv, _⟩ | ⟨g', cap, cur, hv, hb, hh, h1, h2, h3, h4⟩
  · cases hv
  · injection hv with e1 e2 e3
    injection e1 with e1
    injection e1 with e1
    subst e1 e3
    have e : cur.toList = i64s (List.replicate n 0) := by
      rw [List.take_of_length_le (by rw [Array.length_toList]; omega)] at h4
      rw [h4, toList_madeCells_one]
      simp only [i64s, List.map_replicate]
      rfl
    unfold Row
    rw [← e, Array.toArray_toList]
    exact hh
namespace Bm
/-- Numbers as an integer's bounds. -/
def IntOk (z : Int) : Prop := -9223372036854775808 ≤ z ∧ z ≤ 9223372036854775807
end Bm
end Go.Proofs.Ytnaocegcnckhmaa
