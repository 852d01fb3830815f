/-
  The reference of layer 7 (fse), by its walk: Encode. Conditions: as each theorem's premises say (up to ten thousand symbols).
  Layer 7 (fse): pieces of a slice of bits, and what the reference's Number makes of them; the reference's Decode, by its walk. Premise of the walk: what the reference's Open answers. Conditions: as each theorem's premises say.
-/
import Derived.Test.YtbdciiiimdbmkaaGreatGap
import Derived.Test.YtbdciiiimdbmkaaGreatGaa
import Derived.Test.YtbdciiiimdbmkaaGreatGae
import Derived.Laws.AppendOwnNone
import Derived.BigQuiet
import Derived.WalkSmall
import Derived.Deep.QuietTactic
namespace Go.Proofs.YtbdciiiimdbmkaaGreat
open Go.RowKit

theorem bits_more (N n v k : Nat) (hN : N < 2 ^ n) (hv : v < 2 ^ k) : i64s (Bm.bitsOf N n) ++ i64s (Bm.bitsOf v k) = i64s (Bm.bitsOf (N + v * 2 ^ n) (n + k)) := by
  have h := Bm.bitsOf_append N n v k hN
  rw [Nat.mod_eq_of_lt hv] at h
  rw [← h]
  simp [i64s]
theorem enc_append_none (ls : List Nat) (log : Nat) (b : List Nat) (h : Bm.encR ls log b = none) : ∀ a : List Nat, Bm.encR ls log (a ++ b) = none
  | [] => h
  | x :: a => by
    rw [List.cons_append]
    simp only [Bm.encR]
    rw [enc_append_none ls log b h a]
    rfl
theorem back_value (ls : List Nat) (log st s p : Nat) (h : Bm.backP ls log st s = some p) : backV (Bm.cellsM ls log) (st : Int) (some p) = .tuple #[.int .i64 (p : Int), .int .i64 ((st - Bm.baseAt ls log p : Nat) : Int), .bool true] := by
  obtain ⟨e1, e2⟩ := Bm.back_leads ls log st s p h
  have hpl : p < (Bm.cellsM ls log).length := by rw [Bm.cellsM_length]; exact e1
  have h1 := e2.2.1
  show Value.tuple #[.int .i64 (p : Int), .int .i64 ((st : Int) - (((Bm.cellsM ls log)[p]?.getD (0, 0, 0)).2.2 : Int)), .bool true] = _
  rw [List.getElem?_eq_getElem hpl, Option.getD_some, Bm.cellsM_get]
  dsimp only
  rw [show (st : Int) - (Bm.baseAt ls log p : Int) = ((st - Bm.baseAt ls log p : Nat) : Int) by omega]
/-- What Encode answers. -/
def EncA (base : Nat) (w' : World) (log : Nat) (e : Ending) : Option (Nat × Nat × Nat) → Prop
  | none => e = .returned (.tuple #[.slice none 0 0, .bool false])
  | some (N, n, st) => ∃ u, e = .returned (.tuple #[u, .bool true]) ∧ w'.ownsRow base 3 1 u (n + log) (i64s (Bm.bitsOf (N + st * 2 ^ n) (n + log)))

end Go.Proofs.YtbdciiiimdbmkaaGreat

namespace Go.Proofs.YtbdciiiimdbmkaaGreat
open Go.RowKit

theorem bits_cell {w : World} {A : Option Addr} {X L : Nat} (h : Reads w A (i64s (Bm.bitsOf X L))) (h0 : 0 < L) : ∃ g off, A = some ⟨g, off, none⟩ ∧ ∀ j, j < L → w.cell? ⟨g, off + j, none⟩ = some (.int .i64 ((X / 2 ^ j % 2 : Nat) : Int)) := by
  obtain ⟨g, off, e, hc⟩ := h (by intro e; have := congrArg List.length e; rw [i64s_length, Bm.bitsOf_length, List.length_nil] at this; omega)
  refine ⟨g, off, e, fun j hj => ?_⟩
  rw [hc j (by rw [i64s_length, Bm.bitsOf_length]; exact hj), i64s_get? _ j (by rw [Bm.bitsOf_length]; exact hj), Bm.bitsOf_get]
theorem bits_to {w : World} {A : Option Addr} {X L q : Nat} (h : Reads w A (i64s (Bm.bitsOf X L))) (hq : q ≤ L) : Reads w A (i64s (Bm.bitsOf (X % 2 ^ q) q)) := fun hne => by
  have h0 : 0 < q := by
    rcases Nat.eq_zero_or_pos q with e | e
    · subst e; simp [i64s, Bm.bitsOf] at hne
    · exact e
  obtain ⟨g, off, e, hc⟩ := bits_cell h (by omega)
  refine ⟨g, off, e, fun j hj => ?_⟩
  rw [i64s_length, Bm.bitsOf_length] at hj
  rw [hc j (by omega), Bm.bitsOf_mod, i64s_get? _ j (by rw [Bm.bitsOf_length]; exact hj), Bm.bitsOf_get]
theorem bits_behind {w : World} {A : Option Addr} {X L c q : Nat} (h : Reads w A (i64s (Bm.bitsOf X L))) (hq : q ≤ L) (hc : L ≤ c) : Reads w (behindA A c q) (i64s (Bm.bitsOf (X / 2 ^ q) (L - q))) := fun hne => by
  have h0 : 0 < L - q := by
    rcases Nat.eq_zero_or_pos (L - q) with e | e
    · rw [e] at hne; simp [i64s, Bm.bitsOf] at hne
    · exact e
  obtain ⟨g, off, e, hcell⟩ := bits_cell h (by omega)
  refine ⟨g, off + q, ?_, fun j hj => ?_⟩
  · unfold behindA
    rw [if_neg (by omega), e]
    show some _ = _
    congr 1
    unfold Addr.add
    split <;> simp_all
  · rw [i64s_length, Bm.bitsOf_length] at hj
    rw [Nat.add_assoc, hcell (q + j) (by omega), i64s_get? _ j (by rw [Bm.bitsOf_length]; exact hj), Bm.bitsOf_get, Nat.div_div_eq_div_mul, ← Nat.pow_add]
/-- Number, of bits that read as a number's. -/
theorem rnum_reads (A : Option Addr) (b c X : Nat) (w : World) (hb : b ≤ 32) (hX : X < 2 ^ b) (hr : Reads w A (i64s (Bm.bitsOf X b))) :
    Calls Tryz.prog 25 #[.slice A b c] w fun e w' => e = .returned (.int .u32 (X : Int)) ∧ w = w' := by
  rcases Nat.eq_zero_or_pos b with h0 | h0
  · subst h0
    have : X = 0 := by simpa using hX
    subst this
    exact rnum_none A c w
  · obtain ⟨g, off, rfl, hc⟩ := bits_cell hr h0
    have h1 := rnum_bits g off b c X w hb h0 hc
    rw [Nat.mod_eq_of_lt hX] at h1
    exact h1
end Go.Proofs.YtbdciiiimdbmkaaGreat
