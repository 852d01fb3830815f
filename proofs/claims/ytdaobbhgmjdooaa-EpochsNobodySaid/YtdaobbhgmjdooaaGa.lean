/-
  The program's layer 19 (train): elements of three cells in memory (a piece: its text, its worth, its order); the heap's own methods Len, Less, Swap, by their walks. Conditions: as each theorem's premises say.
-/
import Derived.Test.YtdaobbhgmjdooaaGw
import Derived.Test.YtdaobbhgmjdooaaIn
import Derived.Deep.AppendLies
import Derived.Deep.DeepCutAuto
import Derived.Deep.RegionHeld3
import Derived.RegionTactic
import Derived.Deep.RegionLaw
import Derived.Deep.DrawnRows
import Derived.Shelf.RegionOpenPlain
import Derived.OneCell
namespace Go.Proofs.Ytdaobbhgmjdooaa
open Go.RowKit
/-- The cells of elements of three cells each. -/
def cc3 {α : Type} (f h k : α → Value) : List α → List Value
  | [] => []
  | x :: l => f x :: h x :: k x :: cc3 f h k l
section
variable {α : Type} {f h k : α → Value}
theorem cc3_length (l : List α) : (cc3 f h k l).length = l.length * 3 := by
  induction l with
  | nil => rfl
  | cons x l ih => rw [cc3, List.length_cons, List.length_cons, List.length_cons, ih, List.length_cons]; omega
theorem cc3_append (l m : List α) : cc3 f h k (l ++ m) = cc3 f h k l ++ cc3 f h k m := by
  induction l with
  | nil => rfl
  | cons x l ih => rw [List.cons_append, cc3, ih, cc3]; rfl
theorem cc3_get (l : List α) (i : Nat) (hi : i < l.length) : (cc3 f h k l)[i * 3]? = some (f l[i]) ∧ (cc3 f h k l)[i * 3 + 1]? = some (h l[i]) ∧ (cc3 f h k l)[i * 3 + 2]? = some (k l[i]) := by
  induction l generalizing i with
  | nil => simp at hi
  | cons x l ih =>
    cases i with
    | zero => exact ⟨rfl, rfl, rfl⟩
    | succ i =>
      have h1 := ih i (by simpa using hi)
      rw [cc3, show (i + 1) * 3 = i * 3 + 1 + 1 + 1 by omega]
      exact h1
theorem cc3_set (l : List α) (i : Nat) (x : α) (hi : i < l.length) : (((cc3 f h k l).set (i * 3) (f x)).set (i * 3 + 1) (h x)).set (i * 3 + 2) (k x) = cc3 f h k (l.set i x) := by
  induction l generalizing i with
  | nil => simp at hi
  | cons y l ih =>
    cases i with
    | zero => rfl
    | succ i =>
      have h1 := ih i (by simpa using hi)
      rw [cc3, show (i + 1) * 3 = i * 3 + 1 + 1 + 1 by omega]
      simp only [List.set_cons_succ]
      rw [h1]
      rfl
theorem cc3_take (l : List α) (n : Nat) : cc3 f h k (l.take n) = (cc3 f h k l).take (n * 3) := by
  induction l generalizing n with
  | nil => simp [cc3]
  | cons x l ih =>
    cases n with
    | zero => simp [cc3]
    | succ n =>
      rw [List.take_succ_cons, cc3, ih, cc3, show (n + 1) * 3 = n * 3 + 1 + 1 + 1 by omega, List.take_succ_cons, List.take_succ_cons, List.take_succ_cons]
end
/-- Two elements changed round. -/
def swq {α : Type} (d : α) (l : List α) (i j : Nat) : List α := (l.set i (l[j]?.getD d)).set j (l[i]?.getD d)
theorem swq_length {α : Type} (d : α) (l : List α) (i j : Nat) : (swq d l i j).length = l.length := by simp [swq]
section
variable {α : Type} {f h k : α → Value} {w w' : World} {g : Nat} {t : TypeId} {post : List Value}
theorem row3_cell {l : List α} (hr : Row w g t (cc3 f h k l ++ post)) (i : Nat) (hi : i < l.length) : w.cell? ⟨g, i * 3, none⟩ = some (f l[i]) ∧ w.cell? ⟨g, i * 3 + 1, none⟩ = some (h l[i]) ∧ w.cell? ⟨g, i * 3 + 2, none⟩ = some (k l[i]) := by
  obtain ⟨h1, h2, h3⟩ := cc3_get (f := f) (h := h) (k := k) l i hi
  have hl := cc3_length (f := f) (h := h) (k := k) l
  rw [hr.cell, hr.cell, hr.cell, List.getElem?_append_left (by omega), List.getElem?_append_left (by omega), List.getElem?_append_left (by omega)]
  exact ⟨h1, h2, h3⟩
theorem row3_set {l : List α} (hr : Row w g t (cc3 f h k l ++ post)) (i : Nat) (hi : i < l.length) (x : α) : Row (((w.setCell ⟨g, i * 3, none⟩ (f x)).setCell ⟨g, i * 3 + 1, none⟩ (h x)).setCell ⟨g, i * 3 + 2, none⟩ (k x)) g t (cc3 f h k (l.set i x) ++ post) := by
  have hl := cc3_length (f := f) (h := h) (k := k) l
  have h1 := ((hr.set_ (i * 3) (f x)).set_ (i * 3 + 1) (h x)).set_ (i * 3 + 2) (k x)
  rw [List.set_append_left _ _ (by omega), List.set_append_left _ _ (by rw [List.length_set]; omega), List.set_append_left _ _ (by rw [List.length_set, List.length_set]; omega), cc3_set l i x hi] at h1
  exact h1
theorem row3_swq {l : List α} {d : α} (hr : Row w g t (cc3 f h k l ++ post)) (i j : Nat) (hi : i < l.length) (hj : j < l.length) :
    Row ((((((w.setCell ⟨g, i * 3, none⟩ (f l[j])).setCell ⟨g, i * 3 + 1, none⟩ (h l[j])).setCell ⟨g, i * 3 + 2, none⟩ (k l[j])).setCell ⟨g, j * 3, none⟩ (f l[i])).setCell ⟨g, j * 3 + 1, none⟩ (h l[i])).setCell ⟨g, j * 3 + 2, none⟩ (k l[i])) g t (cc3 f h k (swq d l i j) ++ post) := by
  have h1 := row3_set (row3_set hr i hi l[j]) j (by simpa using hj) l[i]
  unfold swq
  rw [List.getElem?_eq_getElem hi, List.getElem?_eq_getElem hj]
  exact h1
theorem grown_six (w : World) (g a b c d e i : Nat) (u v x y z s : Value) : w.grownBy ((((((w.setCell ⟨g, a, none⟩ u).setCell ⟨g, b, none⟩ v).setCell ⟨g, c, none⟩ x).setCell ⟨g, d, none⟩ y).setCell ⟨g, e, none⟩ z).setCell ⟨g, i, none⟩ s) (some g) :=
  grown_set (grown_set (grown_set (grown_set (grown_set (grown_set (grown_refl w (some g)) _ _) _ _) _ _) _ _) _ _) _ _
end
theorem row_drw {w : World} {g : Nat} {t : TypeId} {cs : List Value} (h : Row w g t cs) : Row w.drew g t cs := h
/-- A piece: its text, its worth, its order. -/
abbrev Pce := ByteArray × Nat × Nat
def pce0 : Pce := (⟨#[]⟩, 0, 0)
def pcT (t : Pce) : Value := .string t.1
def pcW (t : Pce) : Value := .int .i64 (t.2.1 : Int)
def pcO (t : Pce) : Value := .int .i64 (t.2.2 : Int)
def p3 (l : List Pce) : List Value := cc3 pcT pcW pcO l
namespace Bm
/-- Is a piece worth more, or as much and ahead? -/
def lt3 (a b : Pce) : Prop := b.2.1 < a.2.1 ∨ (a.2.1 = b.2.1 ∧ a.2.2 < b.2.2)
instance (a b : Pce) : Decidable (lt3 a b) := by unfold lt3; exact inferInstance
end Bm
section
variable {w w' w'' : World} {base p g cap : Nat} {L : List Pce}
/-- Of the old blocks from base on only the heap's two may have changed. -/
structure KeptW (base p g : Nat) (w w' : World) : Prop where
  bel : Below base w w'
  blk : ∀ b, b < w.heap.size → b ≠ p → b ≠ g → w'.heap[b]? = w.heap[b]?
theorem KeptW.refl (base p g : Nat) (w : World) : KeptW base p g w w := ⟨Below.refl _ _, fun _ _ _ _ => rfl⟩
theorem KeptW.trans (h : KeptW base p g w w') (h' : KeptW base p g w' w'') : KeptW base p g w w'' :=
  ⟨h.bel.trans h'.bel, fun b h1 h2 h3 => (h'.blk b (Nat.lt_of_lt_of_le h1 h.bel.size) h2 h3).trans (h.blk b h1 h2 h3)⟩
theorem KeptW.below (h : Below w.heap.size w w') (hb : base ≤ w.heap.size) : KeptW base p g w w' := ⟨h.mono hb, fun b hb _ _ => h.block b hb⟩
theorem KeptW.grown {b : Nat} (h : w.grownBy w' (some b)) (hlt : b < w.heap.size) (ht : b = p ∨ b = g) (hb : base ≤ b) : KeptW base p g w w' :=
  ⟨below_grown h hb (Nat.le_trans hb (Nat.le_of_lt hlt)), fun b' h1 h2 h3 => h.block b' h1 (fun e => by
    injection e with e
    rcases ht with h | h
    · exact h2 (e.trans h)
    · exact h3 (e.trans h))⟩
end
end Go.Proofs.Ytdaobbhgmjdooaa
