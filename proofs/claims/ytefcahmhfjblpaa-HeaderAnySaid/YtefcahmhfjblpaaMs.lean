/-
  Words for memory, for layer 1 (bits): a block known whole, a chain of words, a Writer, a Reader, and what keeps each. Proved: each is kept by what changes other blocks alone. No condition.
-/
import Derived.Test.YtefcahmhfjblpaaMg
namespace Go.Proofs.Ytefcahmhfjblpaa
open Go.RowKit

/-- The chain of words behind a pointer, the last one first. -/
def Chain (w : World) : Option Addr → List Nat → Prop
  | p, [] => p = none
  | p, u :: us => ∃ g q, p = some ⟨g, 0, none⟩ ∧ Row w g 55 [.pointer q, .int .u64 (u : Int)] ∧ Chain w q us
theorem Chain.keep {w w' : World} (hk : ∀ g cs, Row w g 55 cs → Row w' g 55 cs) : ∀ (us : List Nat) (p : Option Addr), Chain w p us → Chain w' p us
  | [], _, h => h
  | _ :: us, _, ⟨g, q, hp, hr, hc⟩ => ⟨g, q, hp, hk _ _ hr, Chain.keep hk us q hc⟩
theorem words_grown {w w' : World} {row : Option Nat} (hg : w.grownBy w' row) (hr : ∀ g, row = some g → NotT w g 55) : ∀ g cs, Row w g 55 cs → Row w' g 55 cs :=
  fun g _ h => h.keep (hg.block g h.lt (fun e => (hr g e.symm).ne h rfl))

/-- A Writer at this place holds the bits of N, n of them. -/
def WS (w : World) (b off N n : Nat) : Prop := ∃ (p : Option Addr) (rest : Nat) (us : List Nat),
  w.cell? ⟨b, off, none⟩ = some (.pointer p) ∧ w.cell? ⟨b, off + 1, none⟩ = some (.int .u64 (rest : Int)) ∧ w.cell? ⟨b, off + 2, none⟩ = some (.int .i64 (n : Int)) ∧
  w.frozen? ⟨b, off, none⟩ = false ∧ w.frozen? ⟨b, off + 1, none⟩ = false ∧ w.frozen? ⟨b, off + 2, none⟩ = false ∧ NotT w b 55 ∧ Chain w p us ∧ Bm.WOk N n rest us
theorem WS.keep {w w' : World} {b off N n : Nat} {row : Option Nat} (h : WS w b off N n) (hg : w.grownBy w' row) (hb : row ≠ some b) (hr : ∀ g, row = some g → NotT w g 55) : WS w' b off N n := by
  obtain ⟨p, rest, us, h0, h1, h2, f0, f1, f2, hn, hc, hw⟩ := h
  have hl := hg.block b hn.lt (fun e => hb e.symm)
  exact ⟨p, rest, us, (World.cell?_of_block hl).trans h0, (World.cell?_of_block hl).trans h1, (World.cell?_of_block hl).trans h2, (World.frozen?_of_block hl).trans f0, (World.frozen?_of_block hl).trans f1,
    (World.frozen?_of_block hl).trans f2, hn.keep hl, hc.keep (words_grown hg hr), hw⟩
theorem WS.drewN {w : World} {b off N n : Nat} (h : WS w b off N n) (k : Nat) : WS (w.drewN k) b off N n := h.keep (row := none) (grown_drewN (grown_refl _ _) k) (by simp) (by simp)
theorem WS.drew {w : World} {b off N n : Nat} (h : WS w b off N n) : WS w.drew b off N n := h.keep (row := none) (grown_drew (grown_refl _ _)) (by simp) (by simp)
theorem WS.new (w : World) (t : TypeId) (ht : t ≠ 55) : WS (w.alloc (.cells #[.pointer none, .int .u64 0, .int .i64 0] t)) w.heap.size 0 0 0 := by
  have h : Row (w.alloc (.cells #[.pointer none, .int .u64 0, .int .i64 0] t)) w.heap.size t [.pointer none, .int .u64 0, .int .i64 0] := Row.new w t _
  exact ⟨none, 0, [], h.cell 0, h.cell 1, h.cell 2, h.free 0, h.free 1, h.free 2, h.notT ht, rfl, Bm.WOk.zero⟩

/-- A Reader at this place reads these bytes, at this bit. -/
def RS (w : World) (b off : Nat) (bs : List Nat) (pos : Nat) : Prop :=
  w.cell? ⟨b, off, none⟩ = some (.string (strOf bs)) ∧ w.cell? ⟨b, off + 1, none⟩ = some (.int .i64 (pos : Int)) ∧ w.frozen? ⟨b, off + 1, none⟩ = false ∧ b < w.heap.size
theorem RS.keep {w w' : World} {b off pos : Nat} {bs : List Nat} {row : Option Nat} (h : RS w b off bs pos) (hg : w.grownBy w' row) (hb : row ≠ some b) : RS w' b off bs pos := by
  obtain ⟨h0, h1, h2, h3⟩ := h
  have hl := hg.block b h3 (fun e => hb e.symm)
  exact ⟨(World.cell?_of_block hl).trans h0, (World.cell?_of_block hl).trans h1, (World.frozen?_of_block hl).trans h2, Nat.lt_of_lt_of_le h3 hg.size⟩

theorem RS.drewN {w : World} {b off pos : Nat} {bs : List Nat} (h : RS w b off bs pos) (k : Nat) : RS (w.drewN k) b off bs pos := h.keep (row := none) (grown_drewN (grown_refl _ _) k) (by simp)
end Go.Proofs.Ytefcahmhfjblpaa
