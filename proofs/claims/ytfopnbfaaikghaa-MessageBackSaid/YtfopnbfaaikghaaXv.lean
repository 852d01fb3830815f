/-
  The program's layer 24 (frame): isKind, size, open, Encode, by their walks. Conditions: as each theorem's premises say.
-/
import Derived.Test.YtfopnbfaaikghaaXo
import Derived.Test.YtfopnbfaaikghaaCh
import Derived.Test.YtfopnbfaaikghaaCn
import Derived.Test.YtfopnbfaaikghaaCe
import Derived.Test.YtfopnbfaaikghaaSc
import Derived.Test.YtfopnbfaaikghaaEg
import Derived.Test.YtfopnbfaaikghaaIn
import Derived.RegionTactic
import Derived.Deep.RegionHeld3
namespace Go.Proofs.Ytfopnbfaaikghaa
open Go.RowKit

set_option maxHeartbeats 400000 in
set_option maxRecDepth 100000 in
theorem frkind_yes (k : Int) (w : World) (h1 : 1 ≤ k) (h2 : k ≤ 10) : Calls Try.prog 38 #[.int .i64 k] w fun e w' => e = .returned (.bool true) ∧ w = w' := by
  go_enter Try.func38, Try.ntmps38
  go_wp2
  go_ret
  exact ⟨rfl, rfl⟩
set_option maxHeartbeats 400000 in
set_option maxRecDepth 100000 in
theorem frkind_no (k : Int) (w : World) (h : k < 1 ∨ 10 < k) : Calls Try.prog 38 #[.int .i64 k] w fun e w' => e = .returned (.bool false) ∧ w = w' := by
  go_enter Try.func38, Try.ntmps38
  by_cases h1 : 1 ≤ k
  · have h2 : ¬ k ≤ 10 := by omega
    go_wp2
    go_ret
    exact ⟨rfl, rfl⟩
  · go_wp2
    go_ret
    exact ⟨rfl, rfl⟩
theorem frkind_any (k : Int) (b : Bool) (w : World) (hb : decide (1 ≤ k ∧ k ≤ 10) = b) : Calls Try.prog 38 #[.int .i64 k] w fun e w' => e = .returned (.bool b) ∧ w = w' := by
  subst hb
  by_cases h : 1 ≤ k ∧ k ≤ 10
  · rw [decide_eq_true h]; exact frkind_yes k w h.1 h.2
  · rw [decide_eq_false h]; exact frkind_no k w (by omega)

/-- What a Reader answers at a text's beginning. -/
theorem raw_kind (s : List Nat) (h : s ≠ []) : rawS 1 (some s) = (s.take 1, some (s.drop 1)) := by
  have := List.length_pos_iff.2 h
  simp only [rawS]
  rw [if_pos (by omega)]
theorem raw_len (s : List Nat) : Bm.valB (rawS 2 (some (s.drop 1))).1 = Bm.lenN s := by
  simp only [rawS]
  by_cases h : 3 ≤ s.length
  · rw [if_pos (by rw [List.length_drop]; omega)]
    exact Bm.lenN_val s h
  · rw [if_neg (by rw [List.length_drop]; omega), Bm.lenN_short s (by omega)]
    rfl
/-- What size answers. -/
def fszN (s : List Nat) : Nat := if Bm.badN s = 0 then Bm.sizeN s else 0
/-- A frame's two cells, written. -/
theorem fr_row {w : World} {g : Nat} {cs : List Value} (h : Row w g 28 cs) (hl : cs.length = 2) (k : Int) (s : ByteArray) :
    Row ((w.setCell ⟨g, 0, none⟩ (.int .i64 k)).setCell ⟨g, 1, none⟩ (.string s)) g 28 [.int .i64 k, .string s] := by
  have h1 := (h.set_ 0 (.int .i64 k)).set_ 1 (.string s)
  match cs, hl with
  | [a, b], _ => exact h1
theorem fr_set_below {B : Nat} {w w' : World} (h : Below B w w') {g : Nat} (hg : B ≤ g) (u v : Value) : Below B w ((w'.setCell ⟨g, 0, none⟩ u).setCell ⟨g, 1, none⟩ v) :=
  (h.setCell (p := ⟨g, 0, none⟩) hg u).setCell (p := ⟨g, 1, none⟩) hg v
/-- A frame as a value, and as two cells. -/
def frV (f : Bm.Frm) : Value := .agg #[.int .i64 f.1, .string (strOf f.2)]
def frL (f : Bm.Frm) : List Value := [.int .i64 f.1, .string (strOf f.2)]
end Go.Proofs.Ytfopnbfaaikghaa
