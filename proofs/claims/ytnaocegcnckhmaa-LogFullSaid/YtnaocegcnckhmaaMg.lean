/-
  General words for memory: a block known whole, what keeps it, the string of a list of bytes, cells of bytes and ints, a slice that reads. No condition.
-/
import Derived.Test.YtnaocegcnckhmaaRows
import Derived.Test.YtnaocegcnckhmaaBm
import Derived.WalkKit
import Derived.WalkSpells
import Derived.WalkLawsBesides
import Derived.Lib.MinMax
namespace Go.Proofs.Ytnaocegcnckhmaa
open Go.RowKit

/-- Block g is just these cells, of this element type, none frozen. -/
def Row (w : World) (g : Nat) (t : TypeId) (cs : List Value) : Prop := w.heap[g]? = some (.cells cs.toArray t (0, 0))
/-- Block g is a row of another element type. -/
def NotT (w : World) (g : Nat) (t : TypeId) : Prop := ∃ cs u fz, w.heap[g]? = some (.cells cs u fz) ∧ u ≠ t
section
variable {w w' : World} {g : Nat} {t : TypeId} {cs : List Value}
theorem Row.lt (h : Row w g t cs) : g < w.heap.size := by
  rcases Nat.lt_or_ge g w.heap.size with h1 | h1
  · exact h1
  · unfold Row at h; rw [Array.getElem?_eq_none h1] at h; cases h
theorem Row.cell (h : Row w g t cs) (i : Nat) : w.cell? ⟨g, i, none⟩ = cs[i]? := by
  rw [cell_of_row w g i cs.toArray t (0, 0) h]; simp
theorem Row.free (h : Row w g t cs) (i : Nat) : w.frozen? ⟨g, i, none⟩ = false := by
  unfold Row at h
  simp [World.frozen?, h]
theorem Row.new (w : World) (t : TypeId) (cs : List Value) : Row (w.alloc (.cells cs.toArray t)) w.heap.size t cs := heap_alloc_new w _
theorem Row.notT {u : TypeId} (h : Row w g t cs) (hne : t ≠ u) : NotT w g u := ⟨_, _, _, h, hne⟩
theorem NotT.ne {g' : Nat} (h : NotT w g t) (h' : Row w g' t cs) : g' ≠ g := by
  rintro rfl
  obtain ⟨a, b, c, h1, h2⟩ := h
  unfold Row at h'
  rw [h1] at h'
  injection h' with h'
  injection h' with _ h3
  exact h2 h3
theorem NotT.lt (h : NotT w g t) : g < w.heap.size := by
  obtain ⟨a, b, c, h1, _⟩ := h
  rcases Nat.lt_or_ge g w.heap.size with h2 | h2
  · exact h2
  · rw [Array.getElem?_eq_none h2] at h1; cases h1
theorem Row.keep (h : Row w g t cs) (hb : w'.heap[g]? = w.heap[g]?) : Row w' g t cs := hb.trans h
theorem NotT.keep (h : NotT w g t) (hb : w'.heap[g]? = w.heap[g]?) : NotT w' g t := by
  obtain ⟨a, b, c, h1, h2⟩ := h
  exact ⟨a, b, c, hb.trans h1, h2⟩
theorem Row.alloc (h : Row w g t cs) (o : Obj) : Row (w.alloc o) g t cs := h.keep (Below.heap_alloc w o g h.lt)
theorem Row.far (h : Row w g t cs) {p : Addr} (hp : g ≠ p.block) (u : Value) : Row (w.setCell p u) g t cs := h.keep (Below.heap_setCell w p u g hp)
theorem Row.set_ (h : Row w g t cs) (i : Nat) (u : Value) : Row (w.setCell ⟨g, i, none⟩ u) g t (cs.set i u) := by
  unfold Row at h ⊢
  simp [World.setCell, Array.getElem?_modify, h]
theorem NotT.setCell (h : NotT w g t) (p : Addr) (u : Value) : NotT (w.setCell p u) g t := by
  by_cases hp : g = p.block
  · obtain ⟨a, b, c, h1, h2⟩ := h
    by_cases hs : p.spot.isSome = true
    · exact ⟨a, b, c, by simp [World.setCell, Array.getElem?_modify, ← hp, h1, hs], h2⟩
    · exact ⟨a.setIfInBounds p.off u, b, c, by simp [World.setCell, Array.getElem?_modify, ← hp, h1, hs], h2⟩
  · exact h.keep (Below.heap_setCell w p u g hp)
theorem NotT.alloc (h : NotT w g t) (o : Obj) : NotT (w.alloc o) g t := h.keep (Below.heap_alloc w o g h.lt)
end
section
variable {w w' w'' : World} {row : Option Nat}
theorem grown_below (h : Below w.heap.size w w') (row : Option Nat) : w.grownBy w' row := ⟨h.os, h.tape, h.output, h.size, fun i hi _ => h.block i hi⟩
theorem grown_refl (w : World) (row : Option Nat) : w.grownBy w row := ⟨rfl, rfl, rfl, Nat.le_refl _, fun _ _ _ => rfl⟩
theorem grown_drewN (h : w.grownBy w' row) (k : Nat) : w.grownBy (w'.drewN k) row := ⟨h.os, h.tape, h.output, h.size, h.block⟩
theorem grown_drew (h : w.grownBy w' row) : w.grownBy w'.drew row := ⟨h.os, h.tape, h.output, h.size, h.block⟩
theorem grown_alloc (h : w.grownBy w' row) (o : Obj) : w.grownBy (w'.alloc o) row :=
  ⟨h.os, h.tape, h.output, Nat.le_trans h.size (by simp), fun i hi hn => (Below.heap_alloc w' o i (Nat.lt_of_lt_of_le hi h.size)).trans (h.block i hi hn)⟩
theorem grown_set {b : Nat} (h : w.grownBy w' (some b)) (i : Nat) (u : Value) : w.grownBy (w'.setCell ⟨b, i, none⟩ u) (some b) :=
  ⟨h.os, h.tape, h.output, by simpa [World.setCell] using h.size, fun k hk hn => (Below.heap_setCell w' ⟨b, i, none⟩ u k (fun e => hn (by rw [e]))).trans (h.block k hk hn)⟩
theorem below_grown {B b : Nat} (h : w.grownBy w' (some b)) (hb : B ≤ b) (hB : B ≤ w.heap.size) : Below B w w' :=
  ⟨h.os, h.tape, h.output, h.size, fun k hk => h.block k (by omega) (fun e => by injection e with e; omega)⟩
end

/-- The string of these bytes. -/
def strOf (bs : List Nat) : ByteArray := ⟨(bs.map UInt8.ofNat).toArray⟩
theorem strOf_size (bs : List Nat) : (strOf bs).size = bs.length := by simp [strOf, ByteArray.size]
/-- The cells of a list of bytes, of a list of ints. -/
def u8s (l : List Nat) : List Value := l.map fun b : Nat => .int .u8 (b : Int)
def i64s (l : List Nat) : List Value := l.map fun b : Nat => .int .i64 (b : Int)
theorem u8s_length (l : List Nat) : (u8s l).length = l.length := by simp [u8s]
theorem i64s_length (l : List Nat) : (i64s l).length = l.length := by simp [i64s]
theorem u8s_get? (l : List Nat) (i : Nat) (h : i < l.length) : (u8s l)[i]? = some (.int .u8 (l[i] : Int)) := by simp [u8s, h]
theorem i64s_get? (l : List Nat) (i : Nat) (h : i < l.length) : (i64s l)[i]? = some (.int .i64 (l[i] : Int)) := by simp [i64s, h]
theorem u8s_set (l : List Nat) (i b : Nat) : (u8s l).set i (.int .u8 (b : Int)) = u8s (l.set i b) := by simp [u8s, List.map_set]
theorem i64s_append (l m : List Nat) : i64s l ++ i64s m = i64s (l ++ m) := by simp [i64s]
/-- A slice value reads as these cells (nil, where there are none, or any address). -/
def Reads (w : World) (A : Option Addr) (xs : List Value) : Prop := xs ≠ [] → ∃ g off, A = some ⟨g, off, none⟩ ∧ ∀ j, j < xs.length → w.cell? ⟨g, off + j, none⟩ = xs[j]?
end Go.Proofs.Ytnaocegcnckhmaa
