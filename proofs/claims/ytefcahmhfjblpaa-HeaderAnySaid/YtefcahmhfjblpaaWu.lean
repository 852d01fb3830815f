/-
  A slice of ints that reads as the bits of a number, its first and its last ones, and what Number makes of it (layer 1). Conditions: as each theorem's premises say.
-/
import Derived.Test.YtefcahmhfjblpaaWj
namespace Go.Proofs.Ytefcahmhfjblpaa
open Go.RowKit

/-- What is left behind the first pos bits, as the statement keeps it: a slice of L ints, the bits of X. -/
def Rest (w : World) (B : Nat) (A : Option Addr) (X L : Nat) : Prop :=
  L = 0 ∨ ∃ g off, A = some ⟨g, off, none⟩ ∧ B ≤ g ∧ g < w.heap.size ∧ ∀ j, j < L → w.cell? ⟨g, off + j, none⟩ = some (.int .i64 ((X / 2 ^ j % 2 : Nat) : Int))
theorem Rest.keep {w w' : World} {B : Nat} {A : Option Addr} {X L : Nat} {row : Option Nat} (h : Rest w B A X L) (hg : w.grownBy w' row) (hr : ∀ g, row = some g → g < B) : Rest w' B A X L := by
  rcases h with h | ⟨g, off, e, hB, hl, hc⟩
  · exact .inl h
  · refine .inr ⟨g, off, e, hB, Nat.lt_of_lt_of_le hl hg.size, fun j hj => ?_⟩
    have hne : some g ≠ row := fun e => by
      have := hr g e.symm
      omega
    exact (World.cell?_of_block (a := ⟨g, off + j, none⟩) (hg.block g hl hne)).trans (hc j hj)
set_option maxRecDepth 100000 in
theorem slice_to (A : Option Addr) (L c q : Nat) (W : World) (h : q ≤ L) (hc : L ≤ c) : (Instr.slice 22 (.slice A L c) none (some (.int .i64 (q : Int))) none).run Try.prog W = .ok (.slice A q c) W := by
  have h1 : q ≤ c := by omega
  rcases A with _ | a
  · go_simp
  · go_simp
/-- Where a slice goes on behind q of its elements. -/
def onA (A : Option Addr) (c q : Nat) : Option Addr := if c = q then A else A.map (·.add q)
set_option maxRecDepth 100000 in
theorem slice_on (A : Option Addr) (L c q : Nat) (W : World) (h : q ≤ L) (hc : L ≤ c) : (Instr.slice 22 (.slice A L c) (some (.int .i64 (q : Int))) none none).run Try.prog W = .ok (.slice (onA A c q) (L - q) (c - q)) W := by
  have h1 : q ≤ c := by omega
  unfold onA
  by_cases hcq : c = q
  · subst hcq
    rcases A with _ | a
    · go_simp
    · go_simp
  · rcases A with _ | a
    · go_simp
    · go_simp
theorem Rest.on {w : World} {B : Nat} {A : Option Addr} {X L c q : Nat} (h : Rest w B A X L) (hq : q ≤ L) (hc : L ≤ c) : Rest w B (onA A c q) (X / 2 ^ q) (L - q) := by
  rcases h with h | ⟨g, off, e, hB, hl, hcell⟩
  · exact .inl (by omega)
  · by_cases hz : L - q = 0
    · exact .inl hz
    · refine .inr ⟨g, off + q, ?_, hB, hl, fun j hj => ?_⟩
      · unfold onA
        rw [if_neg (by omega), e]
        show some _ = _
        congr 1
        unfold Addr.add
        split <;> simp_all
      · rw [Nat.add_assoc, hcell (q + j) (by omega), Nat.div_div_eq_div_mul, ← Nat.pow_add]
theorem own_rest {w : World} {B : Nat} {v : Value} {X L : Nat} (h : w.ownsRow B 3 1 v L (i64s (Bm.bitsOf X L))) : ∃ A c, v = .slice A L c ∧ L ≤ c ∧ c ≤ maxLen ∧ Rest w B A X L := by
  rcases h.2 with ⟨hv, h0⟩ | ⟨g, cap, cur, hv, hb, hh, h1, h2, _⟩
  · exact ⟨none, 0, by rw [hv, h0], by omega, by unfold maxLen; omega, .inl h0⟩
  · refine ⟨some ⟨g, 0, none⟩, cap, hv, h1, h2, .inr ⟨g, 0, rfl, hb, ?_, fun j hj => ?_⟩⟩
    · rcases Nat.lt_or_ge g w.heap.size with h3 | h3
      · exact h3
      · rw [Array.getElem?_eq_none h3] at hh; cases hh
    · have hc := h.cells (g := g) (by rw [hv]; rfl) j _ (i64s_get? _ j (by rw [Bm.bitsOf_length]; exact hj))
      rw [add_zero_off, Bm.bitsOf_get] at hc
      rw [Nat.zero_add]
      exact hc
/-- Number of the first q of them. -/
theorem rnum_rest {w : World} {B : Nat} {A : Option Addr} {X L q c : Nat} (h : Rest w B A X L) (hq : q ≤ L) (h32 : q ≤ 32) :
    Calls Try.prog 31 #[.slice A q c] w fun e w' => e = .returned (.int .u32 ((X % 2 ^ q : Nat) : Int)) ∧ w = w' := by
  rcases Nat.eq_zero_or_pos q with h0 | h0
  · subst h0
    have h1 := rnum_nil A c w
    rw [Nat.pow_zero, Nat.mod_one]
    exact h1
  · rcases h with h | ⟨g, off, e, _, _, hcell⟩
    · omega
    · subst e
      exact rnum_some g off q c X w h32 h0 (fun j hj => hcell j (by omega))

end Go.Proofs.Ytefcahmhfjblpaa
