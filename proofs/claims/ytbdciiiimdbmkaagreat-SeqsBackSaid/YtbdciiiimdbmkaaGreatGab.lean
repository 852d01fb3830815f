/-
  General words for memory: a block known whole, what keeps it, the string of a list of bytes, cells of bytes and ints, a slice that reads. No condition.
  Arrays of three in a block: cells, and what keeps them. No condition.
  Words for memory, for layer 1 (bits): a block known whole, a chain of words, a Writer, a Reader, and what keeps each. Proved: each is kept by what changes other blocks alone. No condition.
-/
import Derived.Test.YtbdciiiimdbmkaaGreatGaa
import Derived.Test.YtbdciiiimdbmkaaGreatRows
import Derived.WalkKit
import Derived.WalkSpells
import Derived.WalkLawsBesides
import Derived.Lib.MinMax
namespace Go.Proofs.YtbdciiiimdbmkaaGreat
open Go.RowKit

/-- Block g is just these cells, of this element type, none frozen. -/
def Row (w : World) (g : Nat) (t : TypeId) (cs : List Value) : Prop := w.heap[g]? = some (.cells cs.toArray t (0, 0))
/-- Block g is a row of another element type. -/
def NotT (w : World) (g : Nat) (t : TypeId) : Prop := ∃ cs u fz, w.heap[g]? = some (.cells cs u fz) ∧ u ≠ t
section
variable {w w' : World} {g : Nat} {t : TypeId} {cs : List Value}
theorem Row.lt (h : Row w g t cs) : g < w.heap.size := by
  rcases Nat.lt_or_ge g w.heap.size with h1 | h1
  · exact h1
  · unfold Row at h; rw [Array.getElem?_eq_none h1] at h; cases h
theorem Row.cell (h : Row w g t cs) (i : Nat) : w.cell? ⟨g, i, none⟩ = cs[i]? := by
  rw [cell_of_row w g i cs.toArray t (0, 0) h]; simp
theorem Row.free (h : Row w g t cs) (i : Nat) : w.frozen? ⟨g, i, none⟩ = false := by
  unfold Row at h
  simp [World.frozen?, h]
theorem Row.new (w : World) (t : TypeId) (cs : List Value) : Row (w.alloc (.cells cs.toArray t)) w.heap.size t cs := heap_alloc_new w _
theorem Row.notT {u : TypeId} (h : Row w g t cs) (hne : t ≠ u) : NotT w g u := ⟨_, _, _, h, hne⟩
theorem NotT.ne {g' : Nat} (h : NotT w g t) (h' : Row w g' t cs) : g' ≠ g := by
  rintro rfl
  obtain ⟨a, b, c, h1, h2⟩ := h
  unfold Row at h'
  rw [h1] at h'
  injection h' with h'
  injection h' with _ h3
  exact h2 h3
theorem NotT.lt (h : NotT w g t) : g < w.heap.size := by
  obtain ⟨a, b, c, h1, _⟩ := h
  rcases Nat.lt_or_ge g w.heap.size with h2 | h2
  · exact h2
  · rw [Array.getElem?_eq_none h2] at h1; cases h1
theorem Row.keep (h : Row w g t cs) (hb : w'.heap[g]? = w.heap[g]?) : Row w' g t cs := hb.trans h
theorem NotT.keep (h : NotT w g t) (hb : w'.heap[g]? = w.heap[g]?) : NotT w' g t := by
  obtain ⟨a, b, c, h1, h2⟩ := h
  exact ⟨a, b, c, hb.trans h1, h2⟩
theorem Row.alloc (h : Row w g t cs) (o : Obj) : Row (w.alloc o) g t cs := h.keep (Below.heap_alloc w o g h.lt)
theorem Row.far (h : Row w g t cs) {p : Addr} (hp : g ≠ p.block) (u : Value) : Row (w.setCell p u) g t cs := h.keep (Below.heap_setCell w p u g hp)
theorem Row.set_ (h : Row w g t cs) (i : Nat) (u : Value) : Row (w.setCell ⟨g, i, none⟩ u) g t (cs.set i u) := by
  unfold Row at h ⊢
  simp [World.setCell, Array.getElem?_modify, h]
theorem NotT.setCell (h : NotT w g t) (p : Addr) (u : Value) : NotT (w.setCell p u) g t := by
  by_cases hp : g = p.block
  · obtain ⟨a, b, c, h1, h2⟩ := h
    by_cases hs : p.spot.isSome = true
    · exact ⟨a, b, c, by simp [World.setCell, Array.getElem?_modify, ← hp, h1, hs], h2⟩
    · exact ⟨a.setIfInBounds p.off u, b, c, by simp [World.setCell, Array.getElem?_modify, ← hp, h1, hs], h2⟩
  · exact h.keep (Below.heap_setCell w p u g hp)
theorem NotT.alloc (h : NotT w g t) (o : Obj) : NotT (w.alloc o) g t := h.keep (Below.heap_alloc w o g h.lt)
end
section
variable {w w' w'' : World} {row : Option Nat}
theorem grown_below (h : Below w.heap.size w w') (row : Option Nat) : w.grownBy w' row := ⟨h.os, h.tape, h.output, h.size, fun i hi _ => h.block i hi⟩
theorem grown_refl (w : World) (row : Option Nat) : w.grownBy w row := ⟨rfl, rfl, rfl, Nat.le_refl _, fun _ _ _ => rfl⟩
theorem grown_drewN (h : w.grownBy w' row) (k : Nat) : w.grownBy (w'.drewN k) row := ⟨h.os, h.tape, h.output, h.size, h.block⟩
theorem grown_drew (h : w.grownBy w' row) : w.grownBy w'.drew row := ⟨h.os, h.tape, h.output, h.size, h.block⟩
theorem grown_alloc (h : w.grownBy w' row) (o : Obj) : w.grownBy (w'.alloc o) row :=
  ⟨h.os, h.tape, h.output, Nat.le_trans h.size (by simp), fun i hi hn => (Below.heap_alloc w' o i (Nat.lt_of_lt_of_le hi h.size)).trans (h.block i hi hn)⟩
theorem grown_set {b : Nat} (h : w.grownBy w' (some b)) (i : Nat) (u : Value) : w.grownBy (w'.setCell ⟨b, i, none⟩ u) (some b) :=
  ⟨h.os, h.tape, h.output, by simpa [World.setCell] using h.size, fun k hk hn => (Below.heap_setCell w' ⟨b, i, none⟩ u k (fun e => hn (by rw [e]))).trans (h.block k hk hn)⟩
theorem below_grown {B b : Nat} (h : w.grownBy w' (some b)) (hb : B ≤ b) (hB : B ≤ w.heap.size) : Below B w w' :=
  ⟨h.os, h.tape, h.output, h.size, fun k hk => h.block k (by omega) (fun e => by injection e with e; omega)⟩
end

/-- The string of these bytes. -/
def strOf (bs : List Nat) : ByteArray := ⟨(bs.map UInt8.ofNat).toArray⟩
theorem strOf_size (bs : List Nat) : (strOf bs).size = bs.length := by simp [strOf, ByteArray.size]
/-- The cells of a list of bytes, of a list of ints. -/
def u8s (l : List Nat) : List Value := l.map fun b : Nat => .int .u8 (b : Int)
def i64s (l : List Nat) : List Value := l.map fun b : Nat => .int .i64 (b : Int)
theorem u8s_length (l : List Nat) : (u8s l).length = l.length := by simp [u8s]
theorem i64s_length (l : List Nat) : (i64s l).length = l.length := by simp [i64s]
theorem u8s_get? (l : List Nat) (i : Nat) (h : i < l.length) : (u8s l)[i]? = some (.int .u8 (l[i] : Int)) := by simp [u8s, h]
theorem i64s_get? (l : List Nat) (i : Nat) (h : i < l.length) : (i64s l)[i]? = some (.int .i64 (l[i] : Int)) := by simp [i64s, h]
theorem u8s_set (l : List Nat) (i b : Nat) : (u8s l).set i (.int .u8 (b : Int)) = u8s (l.set i b) := by simp [u8s, List.map_set]
theorem i64s_append (l m : List Nat) : i64s l ++ i64s m = i64s (l ++ m) := by simp [i64s]
/-- A slice value reads as these cells (nil, where there are none, or any address). -/
def Reads (w : World) (A : Option Addr) (xs : List Value) : Prop := xs ≠ [] → ∃ g off, A = some ⟨g, off, none⟩ ∧ ∀ j, j < xs.length → w.cell? ⟨g, off + j, none⟩ = xs[j]?
end Go.Proofs.YtbdciiiimdbmkaaGreat

namespace Go.Proofs.YtbdciiiimdbmkaaGreat
open Go.RowKit

theorem Row.below {w w' : World} {b : Nat} {t : TypeId} {cs : List Value} (h : Row w b t cs) (hb : Below w.heap.size w w') : Row w' b t cs := h.keep (hb.block b h.lt)
theorem row3 {w : World} {b : Nat} {t : TypeId} {x y z : Value} (h : Row w b t [x, y, z]) : w.cell? ⟨b, 0, none⟩ = some x ∧ w.cell? ⟨b, 1, none⟩ = some y ∧ w.cell? ⟨b, 2, none⟩ = some z := by
  have h0 := h.cell 0
  have h1 := h.cell 1
  have h2 := h.cell 2
  simp only [List.getElem?_cons_zero, List.getElem?_cons_succ] at h0 h1 h2
  exact ⟨h0, h1, h2⟩
theorem row3_held {w : World} {b : Nat} {t : TypeId} {x y z : Value} (h : Row w b t [x, y, z]) : (∀ W, Below w.heap.size w W → W.cell? ⟨b, 0, none⟩ = some x) ∧ (∀ W, Below w.heap.size w W → W.cell? ⟨b, 1, none⟩ = some y) ∧ (∀ W, Below w.heap.size w W → W.cell? ⟨b, 2, none⟩ = some z) :=
  ⟨fun _ hb => (row3 (h.below hb)).1, fun _ hb => (row3 (h.below hb)).2.1, fun _ hb => (row3 (h.below hb)).2.2⟩
end Go.Proofs.YtbdciiiimdbmkaaGreat

namespace Go.Proofs.YtbdciiiimdbmkaaGreat
open Go.RowKit

/-- The chain of words behind a pointer, the last one first. -/
def Chain (w : World) : Option Addr → List Nat → Prop
  | p, [] => p = none
  | p, u :: us => ∃ g q, p = some ⟨g, 0, none⟩ ∧ Row w g 108 [.pointer q, .int .u64 (u : Int)] ∧ Chain w q us
theorem Chain.keep {w w' : World} (hk : ∀ g cs, Row w g 108 cs → Row w' g 108 cs) : ∀ (us : List Nat) (p : Option Addr), Chain w p us → Chain w' p us
  | [], _, h => h
  | _ :: us, _, ⟨g, q, hp, hr, hc⟩ => ⟨g, q, hp, hk _ _ hr, Chain.keep hk us q hc⟩
theorem words_grown {w w' : World} {row : Option Nat} (hg : w.grownBy w' row) (hr : ∀ g, row = some g → NotT w g 108) : ∀ g cs, Row w g 108 cs → Row w' g 108 cs :=
  fun g _ h => h.keep (hg.block g h.lt (fun e => (hr g e.symm).ne h rfl))

/-- A Writer at this place holds the bits of N, n of them. -/
def WS (w : World) (b off N n : Nat) : Prop := ∃ (p : Option Addr) (rest : Nat) (us : List Nat),
  w.cell? ⟨b, off, none⟩ = some (.pointer p) ∧ w.cell? ⟨b, off + 1, none⟩ = some (.int .u64 (rest : Int)) ∧ w.cell? ⟨b, off + 2, none⟩ = some (.int .i64 (n : Int)) ∧
  w.frozen? ⟨b, off, none⟩ = false ∧ w.frozen? ⟨b, off + 1, none⟩ = false ∧ w.frozen? ⟨b, off + 2, none⟩ = false ∧ NotT w b 108 ∧ Chain w p us ∧ Bm.WOk N n rest us
theorem WS.keep {w w' : World} {b off N n : Nat} {row : Option Nat} (h : WS w b off N n) (hg : w.grownBy w' row) (hb : row ≠ some b) (hr : ∀ g, row = some g → NotT w g 108) : WS w' b off N n := by
  obtain ⟨p, rest, us, h0, h1, h2, f0, f1, f2, hn, hc, hw⟩ := h
  have hl := hg.block b hn.lt (fun e => hb e.symm)
  exact ⟨p, rest, us, (World.cell?_of_block hl).trans h0, (World.cell?_of_block hl).trans h1, (World.cell?_of_block hl).trans h2, (World.frozen?_of_block hl).trans f0, (World.frozen?_of_block hl).trans f1,
    (World.frozen?_of_block hl).trans f2, hn.keep hl, hc.keep (words_grown hg hr), hw⟩
theorem WS.drewN {w : World} {b off N n : Nat} (h : WS w b off N n) (k : Nat) : WS (w.drewN k) b off N n := h.keep (row := none) (grown_drewN (grown_refl _ _) k) (by simp) (by simp)
theorem WS.drew {w : World} {b off N n : Nat} (h : WS w b off N n) : WS w.drew b off N n := h.keep (row := none) (grown_drew (grown_refl _ _)) (by simp) (by simp)
theorem WS.new (w : World) (t : TypeId) (ht : t ≠ 108) : WS (w.alloc (.cells #[.pointer none, .int .u64 0, .int .i64 0] t)) w.heap.size 0 0 0 := by
  have h : Row (w.alloc (.cells #[.pointer none, .int .u64 0, .int .i64 0] t)) w.heap.size t [.pointer none, .int .u64 0, .int .i64 0] := Row.new w t _
  exact ⟨none, 0, [], h.cell 0, h.cell 1, h.cell 2, h.free 0, h.free 1, h.free 2, h.notT ht, rfl, Bm.WOk.zero⟩

/-- A Reader at this place reads these bytes, at this bit. -/
def RS (w : World) (b off : Nat) (bs : List Nat) (pos : Nat) : Prop :=
  w.cell? ⟨b, off, none⟩ = some (.string (strOf bs)) ∧ w.cell? ⟨b, off + 1, none⟩ = some (.int .i64 (pos : Int)) ∧ w.frozen? ⟨b, off + 1, none⟩ = false ∧ b < w.heap.size
theorem RS.keep {w w' : World} {b off pos : Nat} {bs : List Nat} {row : Option Nat} (h : RS w b off bs pos) (hg : w.grownBy w' row) (hb : row ≠ some b) : RS w' b off bs pos := by
  obtain ⟨h0, h1, h2, h3⟩ := h
  have hl := hg.block b h3 (fun e => hb e.symm)
  exact ⟨(World.cell?_of_block hl).trans h0, (World.cell?_of_block hl).trans h1, (World.frozen?_of_block hl).trans h2, Nat.lt_of_lt_of_le h3 hg.size⟩

theorem RS.drewN {w : World} {b off pos : Nat} {bs : List Nat} (h : RS w b off bs pos) (k : Nat) : RS (w.drewN k) b off bs pos := h.keep (row := none) (grown_drewN (grown_refl _ _) k) (by simp)
end Go.Proofs.YtbdciiiimdbmkaaGreat
