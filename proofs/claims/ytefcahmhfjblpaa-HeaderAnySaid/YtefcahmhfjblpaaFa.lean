/-
  The reference of layer 7 (fse), by its walk: Encode. Conditions: as each theorem's premises say (up to ten thousand symbols).
-/
import Derived.Test.YtefcahmhfjblpaaTn
import Derived.Test.YtefcahmhfjblpaaFm
import Derived.Test.YtefcahmhfjblpaaRo
import Derived.Laws.AppendOwnNone
namespace Go.Proofs.Ytefcahmhfjblpaa
open Go.RowKit

theorem bits_more (N n v k : Nat) (hN : N < 2 ^ n) (hv : v < 2 ^ k) : i64s (Bm.bitsOf N n) ++ i64s (Bm.bitsOf v k) = i64s (Bm.bitsOf (N + v * 2 ^ n) (n + k)) := by
  have h := Bm.bitsOf_append N n v k hN
  rw [Nat.mod_eq_of_lt hv] at h
  rw [← h]
  simp [i64s]
theorem enc_append_none (ls : List Nat) (log : Nat) (b : List Nat) (h : Bm.encR ls log b = none) : ∀ a : List Nat, Bm.encR ls log (a ++ b) = none
  | [] => h
  | x :: a => by
    rw [List.cons_append]
    simp only [Bm.encR]
    rw [enc_append_none ls log b h a]
    rfl
theorem back_value (ls : List Nat) (log st s p : Nat) (h : Bm.backP ls log st s = some p) : backV (Bm.cellsM ls log) (st : Int) (some p) = .tuple #[.int .i64 (p : Int), .int .i64 ((st - Bm.baseAt ls log p : Nat) : Int), .bool true] := by
  obtain ⟨e1, e2⟩ := Bm.back_leads ls log st s p h
  have hpl : p < (Bm.cellsM ls log).length := by rw [Bm.cellsM_length]; exact e1
  have h1 := e2.2.1
  show Value.tuple #[.int .i64 (p : Int), .int .i64 ((st : Int) - (((Bm.cellsM ls log)[p]?.getD (0, 0, 0)).2.2 : Int)), .bool true] = _
  rw [List.getElem?_eq_getElem hpl, Option.getD_some, Bm.cellsM_get]
  dsimp only
  rw [show (st : Int) - (Bm.baseAt ls log p : Int) = ((st - Bm.baseAt ls log p : Nat) : Int) by omega]
/-- What Encode answers. -/
def EncA (base : Nat) (w' : World) (log : Nat) (e : Ending) : Option (Nat × Nat × Nat) → Prop
  | none => e = .returned (.tuple #[.slice none 0 0, .bool false])
  | some (N, n, st) => ∃ u, e = .returned (.tuple #[u, .bool true]) ∧ w'.ownsRow base 3 1 u (n + log) (i64s (Bm.bitsOf (N + st * 2 ^ n) (n + log)))

end Go.Proofs.Ytefcahmhfjblpaa
