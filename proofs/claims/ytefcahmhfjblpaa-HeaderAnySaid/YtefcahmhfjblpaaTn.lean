/-
  Layer 6 (spread): how a table's cells come to be, step by step: first the symbols, then bits and bases. Plain mathematics, and new cells in memory. No condition.
-/
import Derived.Test.YtefcahmhfjblpaaTc
namespace Go.Proofs.Ytefcahmhfjblpaa
open Go.RowKit
namespace Bm
/-- The table's cells. -/
def cellsM (ls : List Nat) (log : Nat) : List Cel := (List.range (2 ^ log)).map fun p => (symAt ls log p, bitsAt ls log p, baseAt ls log p)
/-- Behind K symbols. -/
def ph1 (ls : List Nat) (log K : Nat) : List Cel := (List.range (2 ^ log)).map fun p => ((if invL log p < K then symAt ls log p else 0), 0, 0)
/-- Behind all numbers of the symbols ahead of s, and of s up to place i. -/
def ph2 (ls : List Nat) (log s i : Nat) : List Cel := (List.range (2 ^ log)).map fun p => if symAt ls log p < s ∨ (symAt ls log p = s ∧ p < i) then (symAt ls log p, bitsAt ls log p, baseAt ls log p) else (symAt ls log p, 0, 0)
theorem cellsM_length (ls : List Nat) (log : Nat) : (cellsM ls log).length = 2 ^ log := by simp [cellsM]
theorem ph1_length (ls : List Nat) (log K : Nat) : (ph1 ls log K).length = 2 ^ log := by simp [ph1]
theorem ph2_length (ls : List Nat) (log s i : Nat) : (ph2 ls log s i).length = 2 ^ log := by simp [ph2]
theorem cellsM_get (ls : List Nat) (log p : Nat) (h : p < (cellsM ls log).length) : (cellsM ls log)[p] = (symAt ls log p, bitsAt ls log p, baseAt ls log p) := by simp [cellsM]
theorem ph1_zero (ls : List Nat) (log : Nat) : ph1 ls log 0 = List.replicate (2 ^ log) (0, 0, 0) := by
  unfold ph1
  simp only [Nat.not_lt_zero, if_false]
  rw [List.map_const', List.length_range]
theorem ph1_next (ls : List Nat) (log K s : Nat) (h5 : 5 ≤ log) (h9 : log ≤ 9) (hK : K < 2 ^ log) (hs : (symsFrom 0 ls)[K]? = some s) :
    ∃ h : posL log K < (ph1 ls log K).length, ph1 ls log (K + 1) = (ph1 ls log K).set (posL log K) (s, (ph1 ls log K)[posL log K].2) := by
  have hp := pos_lt log K
  refine ⟨by rw [ph1_length]; exact hp, ?_⟩
  have hi := inv_pos log K h5 h9 hK
  apply List.ext_getElem
  · simp [ph1_length]
  · intro p h1 h2
    have hpp : p < 2 ^ log := by rw [ph1_length] at h1; exact h1
    rw [List.getElem_set]
    simp only [ph1, List.getElem_map, List.getElem_range]
    by_cases e : posL log K = p
    · subst e
      rw [if_pos rfl, hi, if_pos (by omega)]
      unfold symAt
      rw [hi, hs]
      rfl
    · rw [if_neg e]
      have hne : invL log p ≠ K := fun h => e (by rw [← h]; exact pos_inv log p h5 h9 hpp)
      by_cases hlt : invL log p < K
      · rw [if_pos hlt, if_pos (by omega)]
      · rw [if_neg hlt, if_neg (by omega)]
theorem ph1_all (ls : List Nat) (log : Nat) : ph1 ls log (2 ^ log) = ph2 ls log 0 0 := by
  unfold ph1 ph2
  apply List.map_congr_left
  intro p _
  rw [if_pos (inv_lt log p), if_neg (by omega)]
theorem ph2_none (ls : List Nat) (log s i : Nat) (h : symAt ls log i ≠ s) : ph2 ls log s (i + 1) = ph2 ls log s i := by
  unfold ph2
  apply List.map_congr_left
  intro p _
  by_cases e : p = i
  · subst e
    congr 1
    apply propext
    constructor <;> intro h1 <;> omega
  · congr 1
    apply propext
    constructor <;> intro h1 <;> omega
theorem ph2_some (ls : List Nat) (log i : Nat) : ph2 ls log (symAt ls log i) (i + 1) = (ph2 ls log (symAt ls log i) i).set i (symAt ls log i, bitsAt ls log i, baseAt ls log i) := by
  apply List.ext_getElem
  · simp [ph2_length]
  · intro p h1 h2
    rw [List.getElem_set]
    simp only [ph2, List.getElem_map, List.getElem_range]
    by_cases e : i = p
    · subst e
      rw [if_pos rfl, if_pos (by omega)]
    · rw [if_neg e]
      congr 1
      apply propext
      constructor <;> intro h3 <;> omega
theorem ph2_at (ls : List Nat) (log s i : Nat) (hs : symAt ls log i = s) (h : i < (ph2 ls log s i).length) : (ph2 ls log s i)[i] = (s, 0, 0) := by
  subst hs
  simp only [ph2, List.getElem_map, List.getElem_range]
  rw [if_neg (by omega)]
theorem ph2_sym (ls : List Nat) (log s i p : Nat) (h : p < (ph2 ls log s i).length) : (ph2 ls log s i)[p].1 = symAt ls log p := by
  simp only [ph2, List.getElem_map, List.getElem_range]
  split <;> rfl
theorem ph2_over (ls : List Nat) (log s : Nat) : ph2 ls log s (2 ^ log) = ph2 ls log (s + 1) 0 := by
  unfold ph2
  apply List.map_congr_left
  intro p hp
  have := List.mem_range.1 hp
  congr 1
  apply propext
  constructor <;> intro h1 <;> omega
theorem ph2_skip (ls : List Nat) (log s : Nat) (h : FairN ls log) (hs : ls[s]?.getD 0 = 0) : ph2 ls log s 0 = ph2 ls log (s + 1) 0 := by
  unfold ph2
  apply List.map_congr_left
  intro p hp
  have hne : symAt ls log p ≠ s := fun e => by
    obtain ⟨h1, h2⟩ := tab_sym ls log p h (List.mem_range.1 hp)
    have h3 : ls[symAt ls log p]?.getD 0 = 0 := by rw [e]; exact hs
    rw [List.getElem?_eq_getElem h1, Option.getD_some] at h3
    omega
  congr 1
  apply propext
  constructor <;> intro h1 <;> omega
theorem ph2_all (ls : List Nat) (log : Nat) (h : FairN ls log) : ph2 ls log ls.length 0 = cellsM ls log := by
  unfold ph2 cellsM
  apply List.map_congr_left
  intro p hp
  obtain ⟨h1, _⟩ := tab_sym ls log p h (List.mem_range.1 hp)
  rw [if_pos (Or.inl h1)]
theorem tab_getElem (ls : List Nat) (log p : Nat) (hp : p < 2 ^ log) (h : p < (tab ls log).length) : (tab ls log)[p] = symAt ls log p := by
  have := tab_get ls log p hp
  rw [List.getElem?_eq_getElem h] at this
  injection this
end Bm
theorem made_c3 (n : Nat) : (madeCells #[Value.int .u8 0, .int .i64 0, .int .i64 0] (n * 3)).toList = c3 (List.replicate n (0, 0, 0)) := by
  apply List.ext_getElem
  · simp [madeCells, c3_length]
  · intro i h1 h2
    have hi : i < n * 3 := by simpa [madeCells] using h1
    have hq : i / 3 < (List.replicate n ((0, 0, 0) : Cel)).length := by simp; omega
    obtain ⟨e0, e1, e2⟩ := c3_get (List.replicate n (0, 0, 0)) (i / 3) hq
    rw [List.getElem_replicate] at e0 e1 e2
    have hl : (madeCells #[Value.int .u8 0, .int .i64 0, .int .i64 0] (n * 3)).toList[i] = (#[Value.int .u8 0, .int .i64 0, .int .i64 0] : Array Value)[i % 3]! := by simp [madeCells]
    have hr : i % 3 = 0 ∨ i % 3 = 1 ∨ i % 3 = 2 := by omega
    rw [hl, ← Option.some_inj, ← List.getElem?_eq_getElem h2]
    rcases hr with h | h | h
    · rw [h, show i = i / 3 * 3 by omega, e0]; rfl
    · rw [h, show i = i / 3 * 3 + 1 by omega, e1]; rfl
    · rw [h, show i = i / 3 * 3 + 2 by omega, e2]; rfl
namespace Bm
theorem leads_int (ls : List Nat) (log st s p : Nat) (hp : p < (cellsM ls log).length) : Leads (st : Int) s (cellsM ls log)[p] ↔ leads ls log st s p := by
  rw [cellsM_get]
  unfold Leads leads
  dsimp only
  constructor
  · rintro ⟨h1, h2, h3⟩
    refine ⟨h1, by omega, ?_⟩
    have : (st : Int) < ((baseAt ls log p + 2 ^ bitsAt ls log p : Nat) : Int) := by rw [Int.natCast_add]; exact h3
    omega
  · rintro ⟨h1, h2, h3⟩
    refine ⟨h1, by omega, ?_⟩
    have : (st : Int) < ((baseAt ls log p + 2 ^ bitsAt ls log p : Nat) : Int) := by omega
    rw [Int.natCast_add] at this
    exact this
theorem back_leads (ls : List Nat) (log st s p : Nat) (h : backP ls log st s = some p) : p < 2 ^ log ∧ leads ls log st s p := by
  unfold backP at h
  have h1 := List.find?_some h
  have h2 := List.mem_range.1 (List.mem_of_find?_eq_some h)
  exact ⟨h2, of_decide_eq_true h1⟩
end Bm
theorem cells_small (ls : List Nat) (log : Nat) (h : Bm.FairN ls log) : ∀ t ∈ Bm.cellsM ls log, t.1 < 256 ∧ t.2.1 ≤ 20 ∧ t.2.2 ≤ 1000000000 := by
  intro t ht
  unfold Bm.cellsM at ht
  obtain ⟨p, hp, rfl⟩ := List.mem_map.1 ht
  have hp' := List.mem_range.1 hp
  obtain ⟨h1, _⟩ := Bm.tab_sym ls log p h hp'
  have h2 := Bm.bits_at ls log p h hp'
  have h3 := Bm.base_at ls log p h hp'
  have h9 : 2 ^ log ≤ 2 ^ 9 := Nat.pow_le_pow_right (by omega) h.high
  have h4 := h.len
  have h5 := h.high
  have e9 : (2 : Nat) ^ 9 = 512 := by decide
  refine ⟨?_, ?_, ?_⟩
  · show Bm.symAt ls log p < 256; omega
  · show Bm.bitsAt ls log p ≤ 20; omega
  · show Bm.baseAt ls log p ≤ 1000000000
    have h6 := Nat.le_trans (Nat.le_add_right _ _) h3
    omega

end Go.Proofs.Ytefcahmhfjblpaa
