/-
  Layer 6 (spread): each symbol's states in order, and the state ahead by a shift. Plain mathematics; it speaks of no program. No condition.
-/
import Derived.Test.YthaahijapkolkaaTm
namespace Go.Proofs.Ythaahijapkolkaa.Bm
/-- A symbol's states among the first k. -/
def statesTo (ls : List Nat) (log k s : Nat) : List Nat := (List.range k).filter fun p => symAt ls log p == s
theorem states_zero (ls : List Nat) (log s : Nat) : statesTo ls log 0 s = [] := rfl
theorem states_same (ls : List Nat) (log k : Nat) : statesTo ls log (k + 1) (symAt ls log k) = statesTo ls log k (symAt ls log k) ++ [k] := by
  unfold statesTo
  rw [List.range_succ, List.filter_append]
  simp
theorem states_other (ls : List Nat) (log k s : Nat) (h : symAt ls log k ≠ s) : statesTo ls log (k + 1) s = statesTo ls log k s := by
  unfold statesTo
  rw [List.range_succ, List.filter_append]
  simp [h]
theorem states_pre (ls : List Nat) (log k m s : Nat) (h : k ≤ m) : ∃ l, statesTo ls log m s = statesTo ls log k s ++ l := by
  obtain ⟨d, rfl⟩ : ∃ d, m = k + d := ⟨m - k, by omega⟩
  induction d with
  | zero => exact ⟨[], by simp⟩
  | succ d ih =>
    obtain ⟨l, e⟩ := ih (by omega)
    by_cases hs : symAt ls log (k + d) = s
    · subst hs
      exact ⟨l ++ [k + d], by rw [← Nat.add_assoc, states_same, e, List.append_assoc]⟩
    · exact ⟨l, by rw [← Nat.add_assoc, states_other _ _ _ _ hs, e]⟩
theorem states_length (ls : List Nat) (log k s : Nat) (hk : k ≤ 2 ^ log) : (statesTo ls log k s).length = ((tab ls log).take k).count s := by
  induction k with
  | zero => simp [statesTo]
  | succ k ih =>
    have hl : k < (tab ls log).length := by rw [tab_length]; omega
    have g := tab_get ls log k (by omega)
    rw [List.getElem?_eq_getElem hl] at g
    injection g with g
    have h1 := count_take_succ (tab ls log) k s hl
    have h2 := ih (by omega)
    by_cases hs : symAt ls log k = s
    · subst hs
      rw [if_pos g] at h1
      rw [states_same, List.length_append, h1, h2]
      rfl
    · rw [if_neg (by rw [g]; exact hs)] at h1
      rw [states_other _ _ _ _ hs]
      omega
theorem states_all (ls : List Nat) (log s : Nat) (h : FairN ls log) : (statesTo ls log (2 ^ log) s).length = ls[s]?.getD 0 := by
  rw [states_length _ _ _ _ (Nat.le_refl _), ← tab_length ls log, List.take_length, tab_count ls log s h]
theorem states_at (ls : List Nat) (log p : Nat) (hp : p < 2 ^ log) : (statesTo ls log (2 ^ log) (symAt ls log p))[rankAt ls log p]? = some p := by
  obtain ⟨l, e⟩ := states_pre ls log (p + 1) (2 ^ log) (symAt ls log p) (by omega)
  rw [e, states_same]
  have hl : (statesTo ls log p (symAt ls log p)).length = rankAt ls log p := states_length _ _ _ _ (by omega)
  rw [List.append_assoc, ← hl]
  simp
theorem states_lt (ls : List Nat) (log k s x : Nat) (h : x ∈ statesTo ls log k s) : x < k := by
  unfold statesTo at h
  exact List.mem_range.1 (List.mem_filter.1 h).1
/-- The state ahead, where the number lies between the share and twice as much. -/
theorem back_shift (ls : List Nat) (log st s n b : Nat) (h : FairN ls log) (hs : ls[s]? = some n) (h0 : 0 < n) (hst : st < 2 ^ log)
    (h1 : n ≤ (st + 2 ^ log) / 2 ^ b) (h2 : (st + 2 ^ log) / 2 ^ b < 2 * n) :
    ∃ p, (statesTo ls log (2 ^ log) s)[(st + 2 ^ log) / 2 ^ b - n]? = some p ∧ backP ls log st s = some p ∧ bitsAt ls log p = b ∧ st - baseAt ls log p = (st + 2 ^ log) % 2 ^ b := by
  have hc := tab_count ls log s h
  rw [hs, Option.getD_some] at hc
  have e : 2 ^ (log + 1) = 2 ^ log * 2 := Nat.pow_succ 2 log
  have hp : 0 < 2 ^ b := Nat.pow_pos (by omega)
  have hn : n ≤ 2 ^ log := by rw [← hc, ← tab_length ls log]; exact List.count_le_length
  obtain ⟨x, hx⟩ : ∃ x, x = (st + 2 ^ log) / 2 ^ b := ⟨_, rfl⟩
  have hbl : b ≤ log := by
    rcases Nat.lt_or_ge log b with h3 | h3
    · have h4 : 2 ^ (log + 1) ≤ 2 ^ b := Nat.pow_le_pow_right (by omega) h3
      rw [Nat.div_eq_of_lt (by omega)] at h1
      omega
    · exact h3
  have hw : wid x = log - b + 1 := by
    rw [hx]
    refine wid_eq _ _ ((Nat.le_div_iff_mul_le hp).2 ?_) ((Nat.div_lt_iff_lt_mul hp).2 ?_)
    · rw [← Nat.pow_add, show log - b + b = log by omega]; omega
    · rw [← Nat.pow_add, show log - b + 1 + b = log + 1 by omega]; omega
  have hbx : bitsX log x = b := by unfold bitsX; rw [hw]; omega
  rw [← hx] at h1 h2 ⊢
  obtain ⟨p, hpl, e1, e2⟩ := rank_some (tab ls log) s (x - n) (by omega)
  have hp' : p < 2 ^ log := by rw [tab_length] at hpl; exact hpl
  have gp := tab_get ls log p hp'
  rw [List.getElem?_eq_getElem hpl, e1] at gp
  injection gp with gp
  have hr : rankAt ls log p = x - n := by unfold rankAt; rw [← gp, e2]
  have hnum : numAt ls log p = x := by
    unfold numAt
    rw [← gp, hs, Option.getD_some, hr]
    omega
  have hB : bitsAt ls log p = b := by unfold bitsAt; rw [hnum, hbx]
  have hx2 : x < 2 ^ (log + 1) := by omega
  have hl : leads ls log st s p := by
    refine ⟨gp.symm, ?_⟩
    unfold baseAt bitsAt
    rw [hnum]
    exact (in_stretch log x st (by omega) hx2).2 (by rw [hbx]; exact hx.symm)
  refine ⟨p, ?_, back_is ls log st s p h hp' hl, hB, ?_⟩
  · have h3 := states_at ls log p hp'
    rw [hr, ← gp] at h3
    exact h3
  · unfold baseAt baseX
    rw [hnum, hbx]
    have h3 := base_low log x (by omega) hx2
    rw [hbx] at h3
    have h4 := Nat.div_add_mod (st + 2 ^ log) (2 ^ b)
    rw [← hx, Nat.mul_comm] at h4
    omega
/-- The two widths that there are: just one leaves such a number. -/
theorem shift_hi (log st n : Nat) (h0 : 0 < n) (hn : n ≤ 2 ^ log) (hst : st < 2 ^ log) : (st + 2 ^ log) / 2 ^ (log + 1 - wid n) < 2 * n := by
  have e : 2 ^ (log + 1) = 2 ^ log * 2 := Nat.pow_succ 2 log
  have h1 := wid_le n h0
  have h2 := wid_one n h0
  have h3 := wid_le_of n (log + 1) (by omega)
  refine (Nat.div_lt_iff_lt_mul (Nat.pow_pos (by omega))).2 ?_
  have h4 : 2 ^ (log + 1) = 2 ^ (wid n - 1) * 2 * 2 ^ (log + 1 - wid n) := by
    rw [← Nat.pow_succ, ← Nat.pow_add]; congr 1; omega
  have h5 : 2 ^ (wid n - 1) * 2 * 2 ^ (log + 1 - wid n) ≤ 2 * n * 2 ^ (log + 1 - wid n) := Nat.mul_le_mul_right _ (by omega)
  omega
theorem shift_lo (log st n : Nat) (h0 : 0 < n) (hn : n ≤ 2 ^ log) (h : (st + 2 ^ log) / 2 ^ (log + 1 - wid n) < n) :
    1 ≤ log + 1 - wid n ∧ n ≤ (st + 2 ^ log) / 2 ^ (log + 1 - wid n - 1) ∧ (st + 2 ^ log) / 2 ^ (log + 1 - wid n - 1) < 2 * n := by
  have e : 2 ^ (log + 1) = 2 ^ log * 2 := Nat.pow_succ 2 log
  have h1 := wid_lt n
  have h2 := wid_one n h0
  have h3 := wid_le_of n (log + 1) (by omega)
  have hB : 1 ≤ log + 1 - wid n := by
    rcases Nat.eq_zero_or_pos (log + 1 - wid n) with h4 | h4
    · rw [h4, Nat.pow_zero, Nat.div_one] at h; omega
    · exact h4
  obtain ⟨b, hb⟩ : ∃ b, log + 1 - wid n = b + 1 := ⟨log + 1 - wid n - 1, by omega⟩
  rw [hb] at h ⊢
  rw [Nat.add_sub_cancel]
  refine ⟨by omega, ?_, ?_⟩
  · refine (Nat.le_div_iff_mul_le (Nat.pow_pos (by omega))).2 ?_
    have h4 : 2 ^ log = 2 ^ wid n * 2 ^ b := by rw [← Nat.pow_add]; congr 1; omega
    have h5 : n * 2 ^ b ≤ 2 ^ wid n * 2 ^ b := Nat.mul_le_mul_right _ (by omega)
    omega
  · rw [Nat.pow_succ, ← Nat.div_div_eq_div_mul] at h; omega
theorem back_no (ls : List Nat) (log st s : Nat) (h : FairN ls log) (hs : ls.length ≤ s) : backP ls log st s = none := back_none ls log st s h (by simp [hs])
theorem states_share (ls : List Nat) (log s n : Nat) (h : FairN ls log) (hs : ls[s]? = some n) : n ≤ 2 ^ log := by
  have hc := tab_count ls log s h
  rw [hs, Option.getD_some] at hc
  rw [← hc, ← tab_length ls log]
  exact List.count_le_length
end Go.Proofs.Ythaahijapkolkaa.Bm
