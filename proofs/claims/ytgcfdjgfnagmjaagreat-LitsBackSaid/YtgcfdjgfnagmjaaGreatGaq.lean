/-
  slices.Backward over a slice of bytes, by its walk: the bytes, the last one first, for every loop body that keeps what lay below a world's size and the slice's own box. Conditions: as each theorem's premises say.
-/
import Derived.Test.YtgcfdjgfnagmjaaGreatGac
import Derived.Test.YtgcfdjgfnagmjaaGreatGah
import Derived.RangeFuncNested
import Derived.RangeFuncBound
import Derived.RangeFuncCalls
import Derived.RangeFuncLeaves
import Derived.RangeFuncBox
import Derived.Shelf.Abstract
import Derived.Shelf.RegionOpen
import Derived.OwnWalkIn
import Derived.TacticsInMore
import Derived.LoopNIn
import Derived.LoopIn
namespace Go.Proofs.YtgcfdjgfnagmjaaGreat
open Go.RowKit Go.Shelf
attribute [local go_sem] Oper.semAt_some

theorem reads_block {w : World} {g off : Nat} {xs : List Value} (h : Reads w (some ⟨g, off, none⟩) xs) (hne : xs ≠ []) : g < w.heap.size := by
  obtain ⟨g', off', e, hc⟩ := h hne
  injection e with e
  injection e with e1 e2
  subst e1 e2
  have h0 : 0 < xs.length := List.length_pos_iff.2 hne
  have h1 := hc 0 h0
  rw [List.getElem?_eq_getElem h0] at h1
  rcases Nat.lt_or_ge g w.heap.size with h2 | h2
  · exact h2
  · simp [World.cell?, Array.getElem?_eq_none h2] at h1

/-- What a round that goes on keeps: what lay below n₀, and the slice's box. -/
def KeepB (n₀ Bs : Nat) (A B : World) : Prop := Below n₀ A B ∧ B.heap[Bs]? = A.heap[Bs]?
theorem KeepB.t {n₀ Bs : Nat} {A B C : World} (h : KeepB n₀ Bs A B) (k : KeepB n₀ Bs B C) : KeepB n₀ Bs A C := ⟨h.1.trans k.1, k.2.trans h.2⟩
theorem KeepB.b {n₀ Bs : Nat} {w : World} (hn : n₀ ≤ w.heap.size) (hB : Bs < w.heap.size) (W : World) (l : Nat) (o o' : Obj) (hl : w.heap.size ≤ l) (h : W.heap[l]? = some o) (h1 : o.isCells = false) (h2 : o.isWalk = false) : KeepB n₀ Bs W (W.putObj l o') :=
  ⟨belowK_b hn W l o o' hl h h1 h2, World.putObj_heap_other (by omega)⟩
/-- A round's two values: the place, the byte. -/
abbrev PB := Nat × Fin 256
def PB.enc (x : PB) : Array Value := #[.int .i64 (x.1 : Int), .int .u8 ((x.2 : Nat) : Int)]
def PB.syms (l : List PB) : List Nat := l.map fun x => (x.2 : Nat)
theorem PB.syms_snoc (l : List PB) (x : PB) : PB.syms (l ++ [x]) = PB.syms l ++ [(x.2 : Nat)] := by simp [PB.syms]
theorem PB.syms_length (l : List PB) : (PB.syms l).length = l.length := by simp [PB.syms]

end Go.Proofs.YtgcfdjgfnagmjaaGreat
