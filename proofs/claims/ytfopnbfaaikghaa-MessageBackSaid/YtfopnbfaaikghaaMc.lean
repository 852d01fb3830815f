/-
  Layer 3 (cursor): what a Reader answers, as lists of bytes; a Writer and a Reader in memory, and what keeps each. No condition.
-/
import Derived.Test.YtfopnbfaaikghaaSt
import Derived.Test.YtfopnbfaaikghaaCm
namespace Go.Proofs.Ytfopnbfaaikghaa
open Go.RowKit

/-- n brought to 0 up to 8. -/
def fx (n : Int) : Nat := (min (max n 0) 8).toNat
theorem fx_le (n : Int) : fx n ≤ 8 := by unfold fx; omega
/-- What is left of a Reader: none of a bad one. -/
abbrev Left := Option (List Nat)
def rawS (n : Nat) : Left → List Nat × Left
  | some bs => if n ≤ bs.length then (bs.take n, some (bs.drop n)) else ([], none)
  | none => ([], none)
def groupS : Left → Nat × Left
  | some bs => if 0 < (Bm.firstG bs).2 then ((Bm.firstG bs).1, some (bs.drop (Bm.firstG bs).2)) else (0, none)
  | none => (0, none)
def intS (most : Int) (st : Left) : Nat × Left :=
  if (groupS st).2 = none ∨ most < 0 ∨ most < ((groupS st).1 : Int) then (0, none) else groupS st
def textS (most : Int) (st : Left) : List Nat × Left := rawS (intS most st).1 (intS most st).2
def restS : Left → List Nat × Left
  | some bs => (bs, some [])
  | none => ([], none)
/-- All of them are bytes. -/
def OkL : Left → Prop
  | some bs => (∀ x ∈ bs, x < 256) ∧ bs.length ≤ 100000000
  | none => True
theorem ok_raw {n : Nat} {st : Left} (h : OkL st) : OkL (rawS n st).2 ∧ (∀ x ∈ (rawS n st).1, x < 256) ∧ (rawS n st).1.length ≤ n := by
  rcases st with _ | bs
  · exact ⟨trivial, by simp [rawS], by simp [rawS]⟩
  · simp only [rawS]
    split
    · exact ⟨⟨drop_lt h.1 _, by have := h.2; simp; omega⟩, take_lt h.1 _, by simp; omega⟩
    · exact ⟨trivial, by simp, by simp⟩
theorem ok_group {st : Left} (h : OkL st) : OkL (groupS st).2 ∧ (groupS st).1 < 2 ^ 64 := by
  rcases st with _ | bs
  · exact ⟨trivial, by simp [groupS]⟩
  · simp only [groupS]
    split
    · rename_i hp
      exact ⟨⟨drop_lt h.1 _, by have := h.2; simp; omega⟩, (Bm.firstG_some bs _ _ hp rfl).1⟩
    · exact ⟨trivial, by omega⟩
theorem ok_int {most : Int} {st : Left} (h : OkL st) (hm : most ≤ 9223372036854775807) : OkL (intS most st).2 ∧ ((intS most st).1 : Int) ≤ 9223372036854775807 := by
  unfold intS
  split
  · exact ⟨trivial, by simp⟩
  · rename_i hn
    exact ⟨(ok_group h).1, by omega⟩
theorem ok_rest {st : Left} (h : OkL st) : OkL (restS st).2 ∧ (∀ x ∈ (restS st).1, x < 256) := by
  rcases st with _ | bs
  · exact ⟨trivial, by simp [restS]⟩
  · exact ⟨⟨by simp, by simp⟩, h.1⟩

/-- The pieces behind a pointer, the last one first. -/
def PC (w : World) : Option Addr → List (List Nat) → Prop
  | p, [] => p = none
  | p, t :: ts => ∃ g q, p = some ⟨g, 0, none⟩ ∧ Row w g 72 [.pointer q, .string (strOf t)] ∧ t ≠ [] ∧ PC w q ts
theorem PC.keep {w w' : World} (hk : ∀ g cs, Row w g 72 cs → Row w' g 72 cs) : ∀ (ts : List (List Nat)) (p : Option Addr), PC w p ts → PC w' p ts
  | [], _, h => h
  | _ :: ts, _, ⟨g, q, hp, hr, hn, hc⟩ => ⟨g, q, hp, hk _ _ hr, hn, PC.keep hk ts q hc⟩
theorem pieces_grown {w w' : World} {row : Option Nat} (hg : w.grownBy w' row) (hr : ∀ g, row = some g → NotT w g 72) : ∀ g cs, Row w g 72 cs → Row w' g 72 cs :=
  fun g _ h => h.keep (hg.block g h.lt (fun e => (hr g e.symm).ne h rfl))
/-- A Writer at block b has these bytes. -/
def CW (w : World) (b : Nat) (bs : List Nat) : Prop := ∃ (p : Option Addr) (ts : List (List Nat)),
  Row w b 49 [.pointer p, .int .i64 (bs.length : Int)] ∧ PC w p ts ∧ bs = ts.reverse.flatten
theorem CW.keep {w w' : World} {b : Nat} {bs : List Nat} {row : Option Nat} (h : CW w b bs) (hg : w.grownBy w' row) (hb : row ≠ some b) (hr : ∀ g, row = some g → NotT w g 72) : CW w' b bs := by
  obtain ⟨p, ts, h0, hc, e⟩ := h
  exact ⟨p, ts, h0.keep (hg.block b h0.lt (fun e => hb e.symm)), hc.keep (pieces_grown hg hr), e⟩
theorem CW.below {w w' : World} {b : Nat} {bs : List Nat} (h : CW w b bs) (hg : Below w.heap.size w w') : CW w' b bs := h.keep (row := none) (grown_below hg none) (by simp) (by simp)
theorem CW.lt {w : World} {b : Nat} {bs : List Nat} (h : CW w b bs) : b < w.heap.size := by obtain ⟨p, ts, h0, _⟩ := h; exact h0.lt
theorem CW.notT {w : World} {b : Nat} {bs : List Nat} (h : CW w b bs) : NotT w b 72 := by obtain ⟨p, ts, h0, _⟩ := h; exact h0.notT (by decide)
theorem CW.new (w : World) : CW (w.alloc (.cells #[.pointer none, .int .i64 0] 49)) w.heap.size [] := ⟨none, [], Row.new w _ [.pointer none, .int .i64 0], rfl, rfl⟩
/-- A Reader at block b has this left. -/
def rcells : Left → List Value
  | some bs => [.string (strOf bs), .bool false]
  | none => [.string (strOf []), .bool true]
def CR (w : World) (b : Nat) (st : Left) : Prop := Row w b 75 (rcells st)
theorem CR.keep {w w' : World} {b : Nat} {st : Left} {row : Option Nat} (h : CR w b st) (hg : w.grownBy w' row) (hb : row ≠ some b) : CR w' b st := Row.keep h (hg.block b (Row.lt h) (fun e => hb e.symm))
theorem CR.below {w w' : World} {b : Nat} {st : Left} (h : CR w b st) (hg : Below w.heap.size w w') : CR w' b st := h.keep (row := none) (grown_below hg none) (by simp)
theorem CR.lt {w : World} {b : Nat} {st : Left} (h : CR w b st) : b < w.heap.size := Row.lt h
end Go.Proofs.Ytfopnbfaaikghaa
