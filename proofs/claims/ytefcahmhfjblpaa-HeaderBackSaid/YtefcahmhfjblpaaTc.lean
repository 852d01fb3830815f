/-
  Layer 6 (spread): a slice of table cells (Symbol, Bits, Base) in memory; the reference's Back, by its walk. Conditions: as each theorem's premises say.
-/
import Derived.Test.YtefcahmhfjblpaaNr
import Derived.Test.YtefcahmhfjblpaaTm
import Derived.BigQuiet
import Derived.WalkSmall
import Derived.Deep.QuietTactic
namespace Go.Proofs.Ytefcahmhfjblpaa
open Go.RowKit

/-- A cell of a table: its symbol, its bits, its base. -/
abbrev Cel := Nat × Nat × Nat
def cel3 (t : Cel) : List Value := [.int .u8 (t.1 : Int), .int .i64 (t.2.1 : Int), .int .i64 (t.2.2 : Int)]
/-- The memory's cells of a list of them. -/
def c3 : List Cel → List Value
  | [] => []
  | t :: l => cel3 t ++ c3 l
theorem c3_length (l : List Cel) : (c3 l).length = l.length * 3 := by
  induction l with
  | nil => rfl
  | cons t l ih => rw [c3, List.length_append, ih, List.length_cons]; simp [cel3]; omega
theorem c3_get (l : List Cel) (i : Nat) (h : i < l.length) : (c3 l)[i * 3]? = some (.int .u8 (l[i].1 : Int)) ∧ (c3 l)[i * 3 + 1]? = some (.int .i64 (l[i].2.1 : Int)) ∧ (c3 l)[i * 3 + 2]? = some (.int .i64 (l[i].2.2 : Int)) := by
  induction l generalizing i with
  | nil => simp at h
  | cons t l ih =>
    cases i with
    | zero => exact ⟨rfl, rfl, rfl⟩
    | succ i =>
      have h1 := ih i (by simpa using h)
      rw [c3]
      have e : ∀ j, (cel3 t ++ c3 l)[(i + 1) * 3 + j]? = (c3 l)[i * 3 + j]? := fun j => by
        rw [List.getElem?_append_right (by simp [cel3]; omega)]
        congr 1
        simp [cel3]; omega
      have e0 := e 0
      rw [Nat.add_zero, Nat.add_zero] at e0
      rw [e0, e 1, e 2]
      exact h1
theorem c3_set (l : List Cel) (i : Nat) (h : i < l.length) (s b z : Nat) :
    (c3 l).set (i * 3) (.int .u8 (s : Int)) = c3 (l.set i (s, l[i].2)) ∧ (c3 l).set (i * 3 + 1) (.int .i64 (b : Int)) = c3 (l.set i (l[i].1, b, l[i].2.2)) ∧ (c3 l).set (i * 3 + 2) (.int .i64 (z : Int)) = c3 (l.set i (l[i].1, l[i].2.1, z)) := by
  induction l generalizing i with
  | nil => simp at h
  | cons t l ih =>
    cases i with
    | zero => exact ⟨rfl, rfl, rfl⟩
    | succ i =>
      have h1 := ih i (by simpa using h)
      have e : ∀ j v, (cel3 t ++ c3 l).set ((i + 1) * 3 + j) v = cel3 t ++ (c3 l).set (i * 3 + j) v := fun j v => by
        rw [List.set_append_right _ _ (by simp [cel3]; omega)]
        congr 2
        simp [cel3]; omega
      have e0 := fun v => e 0 v
      simp only [Nat.add_zero] at e0
      simp only [c3, e0, e 1, e 2, List.set_cons_succ, List.getElem_cons_succ]
      exact ⟨by rw [h1.1], by rw [h1.2.1], by rw [h1.2.2]⟩
theorem reads_c3 {w : World} {A : Option Addr} {l : List Cel} (h : Reads w A (c3 l)) (hne : 0 < l.length) : ∃ g off, A = some ⟨g, off, none⟩ ∧ ∀ j (hj : j < l.length), w.cell? ⟨g, off + j * 3, none⟩ = some (.int .u8 (l[j].1 : Int)) ∧ w.cell? ⟨g, off + j * 3 + 1, none⟩ = some (.int .i64 (l[j].2.1 : Int)) ∧ w.cell? ⟨g, off + j * 3 + 2, none⟩ = some (.int .i64 (l[j].2.2 : Int)) := by
  have hne' : c3 l ≠ [] := fun e => by
    have h1 := congrArg List.length e
    rw [c3_length, List.length_nil] at h1
    omega
  obtain ⟨g, off, e, hc⟩ := h hne'
  refine ⟨g, off, e, fun j hj => ?_⟩
  obtain ⟨h0, h1, h2⟩ := c3_get l j hj
  have hl := c3_length l
  have k0 := hc (j * 3) (by omega)
  have k1 := hc (j * 3 + 1) (by omega)
  have k2 := hc (j * 3 + 2) (by omega)
  rw [h0] at k0
  rw [h1, ← Nat.add_assoc] at k1
  rw [h2, ← Nat.add_assoc] at k2
  exact ⟨k0, k1, k2⟩
/-- Does a cell have this symbol, and lead to this state? -/
def Leads (st : Int) (s : Nat) (t : Cel) : Prop := t.1 = s ∧ (t.2.2 : Int) ≤ st ∧ st < (t.2.2 : Int) + ((2 ^ t.2.1 : Nat) : Int)
/-- What Back answers of a place. -/
def backV (l : List Cel) (st : Int) : Option Nat → Value
  | none => .tuple #[.int .i64 0, .int .i64 0, .bool false]
  | some p => .tuple #[.int .i64 (p : Int), .int .i64 (st - ((l[p]?.getD (0, 0, 0)).2.2 : Int)), .bool true]

theorem quiet_left6 {P : Program} {f : FuncId} {args : Array Value} {w : World} {n : Nat} {v : Value}
    (h : Calls P f args (w.drewN n) fun e w' => e = .returned v ∧ w.drewN n = w') : Calls P f args (w.drewN n) fun e w'' => e = .returned v ∧ ∃ m, w'' = w.drewN m :=
  h.mono fun _ _ ⟨he, hm⟩ => ⟨he, n, hm.symm⟩
end Go.Proofs.Ytefcahmhfjblpaa
