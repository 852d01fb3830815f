/-
  Plain mathematics for layers 6, 7 (spread, fse): a table of states of a fair share: widths, stretches of states, where symbols go, ranks; of each symbol each state has just one ahead of it. It speaks of no program. No condition.
-/
import Derived.Test.YtlimiiimgblggaaBm
namespace Go.Proofs.Ytlimiiimgblggaa.Bm

/-! Widths. -/
/-- How many bits a number has. -/
def wid (x : Nat) : Nat := if x = 0 then 0 else x.log2 + 1
theorem wid_pos (x : Nat) (h : 0 < x) : wid x = x.log2 + 1 := by unfold wid; rw [if_neg (by omega)]
theorem wid_lt (x : Nat) : x < 2 ^ wid x := by
  rcases Nat.eq_zero_or_pos x with h | h
  · subst h; simp [wid]
  · rw [wid_pos x h]; exact Nat.lt_log2_self
theorem wid_le (x : Nat) (h : 0 < x) : 2 ^ (wid x - 1) ≤ x := by
  rw [wid_pos x h, Nat.add_sub_cancel]; exact Nat.log2_self_le (by omega)
theorem wid_one (x : Nat) (h : 0 < x) : 1 ≤ wid x := by rw [wid_pos x h]; omega
/-- The only number whose power lies so. -/
theorem wid_eq (x k : Nat) (h1 : 2 ^ k ≤ x) (h2 : x < 2 ^ (k + 1)) : wid x = k + 1 := by
  have hx : 0 < x := Nat.lt_of_lt_of_le (Nat.pow_pos (by omega)) h1
  have h3 := wid_le x hx
  have h4 := wid_lt x
  have h5 := wid_one x hx
  have h6 : wid x - 1 < k + 1 := (Nat.pow_lt_pow_iff_right (a := 2) (by omega)).1 (Nat.lt_of_le_of_lt h3 h2)
  have h7 : k < wid x := (Nat.pow_lt_pow_iff_right (a := 2) (by omega)).1 (Nat.lt_of_le_of_lt h1 h4)
  omega
theorem wid_le_of (x k : Nat) (h : x < 2 ^ k) : wid x ≤ k := by
  rcases Nat.eq_zero_or_pos x with h0 | h0
  · subst h0; simp [wid]
  · have h3 := wid_le x h0
    have h6 : wid x - 1 < k := (Nat.pow_lt_pow_iff_right (a := 2) (by omega)).1 (Nat.lt_of_le_of_lt h3 h)
    omega
theorem wid_double (x : Nat) (h : 0 < x) (r : Nat) (hr : r < 2) : wid (2 * x + r) = wid x + 1 := by
  have h3 := wid_le x h
  have h4 := wid_lt x
  have h5 := wid_one x h
  obtain ⟨k, hk⟩ : ∃ k, wid x = k + 1 := ⟨wid x - 1, by omega⟩
  rw [hk] at h3 h4 ⊢
  rw [Nat.add_sub_cancel] at h3
  have e1 : 2 ^ (k + 1) = 2 ^ k * 2 := Nat.pow_succ 2 k
  have e2 : 2 ^ (k + 1 + 1) = 2 ^ (k + 1) * 2 := Nat.pow_succ 2 (k + 1)
  exact wid_eq _ (k + 1) (by omega) (by omega)
/-! A number's bits and base by a log. -/
def bitsX (log x : Nat) : Nat := log + 1 - wid x
def baseX (log x : Nat) : Nat := x * 2 ^ bitsX log x - 2 ^ log
theorem two_pow_split (a b : Nat) (h : b ≤ a) : 2 ^ a = 2 ^ b * 2 ^ (a - b) := by rw [← Nat.pow_add]; congr 1; omega
theorem base_low (log x : Nat) (h0 : 0 < x) (h : x < 2 ^ (log + 1)) : 2 ^ log ≤ x * 2 ^ bitsX log x := by
  have h1 := wid_le_of x (log + 1) h
  have h2 := wid_one x h0
  have h3 := wid_le x h0
  have e : 2 ^ log = 2 ^ (wid x - 1) * 2 ^ bitsX log x := by unfold bitsX; rw [← Nat.pow_add]; congr 1; omega
  rw [e]
  exact Nat.mul_le_mul_right _ h3
theorem base_high (log x : Nat) (_h0 : 0 < x) (h : x < 2 ^ (log + 1)) : (x + 1) * 2 ^ bitsX log x ≤ 2 ^ (log + 1) := by
  have h1 := wid_le_of x (log + 1) h
  have h4 := wid_lt x
  have e : 2 ^ (log + 1) = 2 ^ wid x * 2 ^ bitsX log x := by unfold bitsX; rw [← Nat.pow_add]; congr 1; omega
  rw [e]
  exact Nat.mul_le_mul_right _ h4
theorem base_add (log x : Nat) (h0 : 0 < x) (h : x < 2 ^ (log + 1)) : baseX log x + 2 ^ bitsX log x ≤ 2 ^ log := by
  have h1 := base_low log x h0 h
  have h2 := base_high log x h0 h
  have e : 2 ^ (log + 1) = 2 ^ log * 2 := Nat.pow_succ 2 log
  rw [Nat.add_mul, Nat.one_mul] at h2
  unfold baseX
  omega
/-- A state lies in a number's stretch just if it is that number, the lowest bits left off. -/
theorem in_stretch (log x st : Nat) (h0 : 0 < x) (h : x < 2 ^ (log + 1)) : (baseX log x ≤ st ∧ st < baseX log x + 2 ^ bitsX log x) ↔ (st + 2 ^ log) / 2 ^ bitsX log x = x := by
  have h1 := base_low log x h0 h
  have hp : 0 < 2 ^ bitsX log x := Nat.pow_pos (by omega)
  have e : (x + 1) * 2 ^ bitsX log x = x * 2 ^ bitsX log x + 2 ^ bitsX log x := by rw [Nat.add_mul, Nat.one_mul]
  unfold baseX
  constructor
  · rintro ⟨h2, h3⟩
    have h4 : x ≤ (st + 2 ^ log) / 2 ^ bitsX log x := (Nat.le_div_iff_mul_le hp).2 (by omega)
    have h5 : (st + 2 ^ log) / 2 ^ bitsX log x < x + 1 := (Nat.div_lt_iff_lt_mul hp).2 (by omega)
    omega
  · intro h2
    have h4 : x ≤ (st + 2 ^ log) / 2 ^ bitsX log x := by omega
    have h5 : (st + 2 ^ log) / 2 ^ bitsX log x < x + 1 := by omega
    rw [Nat.le_div_iff_mul_le hp] at h4
    rw [Nat.div_lt_iff_lt_mul hp] at h5
    omega
/-- Of n up to 2n no two stretches meet. -/
theorem stretch_one (log n x y st : Nat) (hx : n ≤ x) (hx2 : x < 2 * n) (hy : n ≤ y) (hy2 : y < 2 * n)
    (h1 : (st + 2 ^ log) / 2 ^ bitsX log x = x) (h2 : (st + 2 ^ log) / 2 ^ bitsX log y = y) : x = y := by
  have e : 2 ^ (log + 1) = 2 ^ log * 2 := Nat.pow_succ 2 log
  have key : ∀ x y : Nat, n ≤ x → x < 2 * n → n ≤ y → y < 2 * n → (st + 2 ^ log) / 2 ^ bitsX log x = x → (st + 2 ^ log) / 2 ^ bitsX log y = y → ¬ bitsX log y < bitsX log x := by
    intro x y hx hx2 hy hy2 h1 h2 hlt
    obtain ⟨d, hd⟩ : ∃ d, bitsX log x = bitsX log y + 1 + d := ⟨bitsX log x - bitsX log y - 1, by omega⟩
    rw [hd, Nat.pow_add, ← Nat.div_div_eq_div_mul, Nat.pow_succ, ← Nat.div_div_eq_div_mul, h2] at h1
    have h3 := Nat.div_le_self (y / 2) (2 ^ d)
    omega
  have k1 := key x y hx hx2 hy hy2 h1 h2
  have k2 := key y x hy hy2 hx hx2 h2 h1
  rw [show bitsX log x = bitsX log y by omega, h2] at h1
  exact h1.symm
/-- There is one of them in which a state lies. -/
theorem stretch_some (log n st : Nat) (h0 : 0 < n) (h2n : n ≤ 2 ^ log) (hst : st < 2 ^ log) : ∃ x, n ≤ x ∧ x < 2 * n ∧ (st + 2 ^ log) / 2 ^ bitsX log x = x := by
  have e : 2 ^ (log + 1) = 2 ^ log * 2 := Nat.pow_succ 2 log
  have key : ∀ c : Nat, (st + 2 ^ log) / 2 ^ c < n → ∃ b, n ≤ (st + 2 ^ log) / 2 ^ b ∧ (st + 2 ^ log) / 2 ^ (b + 1) < n := by
    intro c
    induction c with
    | zero => intro h; rw [Nat.pow_zero, Nat.div_one] at h; omega
    | succ c ih =>
      intro h
      by_cases h1 : (st + 2 ^ log) / 2 ^ c < n
      · exact ih h1
      · exact ⟨c, by omega, h⟩
  obtain ⟨b, hb1, hb2⟩ := key (log + 1) (by rw [Nat.div_eq_of_lt (by omega)]; exact h0)
  have hp : 0 < 2 ^ b := Nat.pow_pos (by omega)
  have hxpos : 0 < (st + 2 ^ log) / 2 ^ b := by omega
  refine ⟨(st + 2 ^ log) / 2 ^ b, hb1, ?_, ?_⟩
  · rw [Nat.pow_succ, ← Nat.div_div_eq_div_mul] at hb2; omega
  · have hbl : b ≤ log := by
      rcases Nat.lt_or_ge log b with h1 | h1
      · have h2 : 2 ^ (log + 1) ≤ 2 ^ b := Nat.pow_le_pow_right (by omega) h1
        rw [Nat.div_eq_of_lt (by omega)] at hxpos
        omega
      · exact h1
    have hw : wid ((st + 2 ^ log) / 2 ^ b) = log - b + 1 := by
      refine wid_eq _ _ ((Nat.le_div_iff_mul_le hp).2 ?_) ((Nat.div_lt_iff_lt_mul hp).2 ?_)
      · rw [← Nat.pow_add, show log - b + b = log by omega]; omega
      · rw [← Nat.pow_add, show log - b + 1 + b = log + 1 by omega]; omega
    have hbx : bitsX log ((st + 2 ^ log) / 2 ^ b) = b := by unfold bitsX; rw [hw]; omega
    rw [hbx]
/-- All stretches of n up to 2n together are the size. -/
theorem stretch_sum (log : Nat) : ∀ n, 0 < n → n ≤ 2 ^ log → ((List.range n).map fun r => 2 ^ bitsX log (n + r)).sum = 2 ^ log
  | 0, h, _ => absurd h (by omega)
  | 1, _, _ => by
    have : bitsX log 1 = log := by unfold bitsX; rw [wid_eq 1 0 (by simp) (by simp)]; omega
    simp [List.range_succ, this]
  | n + 2, _, h => by
    have ih := stretch_sum log (n + 1) (by omega) (by omega)
    have hw := wid_le_of (n + 1) log (by omega)
    have h1 := wid_double (n + 1) (by omega) 0 (by omega)
    have h2 := wid_double (n + 1) (by omega) 1 (by omega)
    have b1 : bitsX log (n + 2 + n) = bitsX log (n + 1) - 1 := by unfold bitsX; rw [show n + 2 + n = 2 * (n + 1) + 0 by omega, h1]; omega
    have b2 : bitsX log (n + 2 + (n + 1)) = bitsX log (n + 1) - 1 := by unfold bitsX; rw [show n + 2 + (n + 1) = 2 * (n + 1) + 1 by omega, h2]; omega
    have b3 : 1 ≤ bitsX log (n + 1) := by unfold bitsX; omega
    rw [List.range_succ, List.range_succ, List.map_append, List.map_append, List.sum_append_nat, List.sum_append_nat]
    simp only [List.map_cons, List.map_nil, List.sum_cons, List.sum_nil]
    rw [b1, b2]
    rw [List.range_succ_eq_map, List.map_cons, List.sum_cons, List.map_map] at ih
    have e1 : ((List.range n).map ((fun r => 2 ^ bitsX log (n + 1 + r)) ∘ Nat.succ)).sum = ((List.range n).map fun r => 2 ^ bitsX log (n + 2 + r)).sum := by
      congr 1
      apply List.map_congr_left
      intro r _
      simp only [Function.comp_apply]
      rw [show n + 1 + r.succ = n + 2 + r by omega]
    rw [e1, Nat.add_zero] at ih
    have e2 : 2 ^ bitsX log (n + 1) = 2 ^ (bitsX log (n + 1) - 1) * 2 := by
      rw [← Nat.pow_succ]; congr 1; omega
    omega
/-! The symbols, one behind the other, and where they go. -/
def symsFrom : Nat → List Nat → List Nat
  | _, [] => []
  | s, n :: l => List.replicate n s ++ symsFrom (s + 1) l
theorem symsFrom_length (s : Nat) (l : List Nat) : (symsFrom s l).length = l.sum := by
  induction l generalizing s with
  | nil => rfl
  | cons n l ih => rw [symsFrom, List.length_append, List.length_replicate, ih, List.sum_cons]
theorem symsFrom_count (t : Nat) : ∀ (l : List Nat) (s : Nat), (symsFrom s l).count t = if s ≤ t then l[t - s]?.getD 0 else 0
  | [], s => by simp [symsFrom]
  | n :: l, s => by
    rw [symsFrom, List.count_append, List.count_replicate, symsFrom_count t l (s + 1)]
    by_cases h1 : s = t
    · subst h1
      rw [if_pos (by simp), if_neg (by omega), if_pos (by omega)]
      simp
    · rw [if_neg (by simpa using h1)]
      by_cases h2 : s ≤ t
      · rw [if_pos (by omega), if_pos h2]
        obtain ⟨d, hd⟩ : ∃ d, t - s = d + 1 := ⟨t - s - 1, by omega⟩
        rw [hd, show t - (s + 1) = d by omega]
        simp
      · rw [if_neg (by omega), if_neg h2]
theorem symsFrom_get (l : List Nat) (s t k : Nat) (ht : t < l.length) (hk : k < l[t]) : (symsFrom s l)[(l.take t).sum + k]? = some (s + t) := by
  induction l generalizing s t with
  | nil => simp at ht
  | cons n l ih =>
    rw [symsFrom]
    cases t with
    | zero =>
      simp only [List.getElem_cons_zero] at hk
      rw [List.take_zero, List.sum_nil, Nat.zero_add, List.getElem?_append_left (by simpa using hk)]
      simp [hk]
    | succ t =>
      simp only [List.getElem_cons_succ] at hk
      rw [List.take_succ_cons, List.sum_cons, List.getElem?_append_right (by simp; omega), List.length_replicate, show n + (l.take t).sum + k - n = (l.take t).sum + k by omega, ih (s + 1) t (by simpa using ht) hk]
      congr 1
      omega
/-- What a place is multiplied by, from which step it came. -/
def sinv (log : Nat) : Nat := if log = 5 then 7 else if log = 6 then 3 else if log = 7 then 91 else if log = 8 then 11 else 363
def stepL (log : Nat) : Nat := 2 ^ log / 2 + 2 ^ log / 8 + 3
/-- The place of step k, the step of place p. -/
def posL (log k : Nat) : Nat := k * stepL log % 2 ^ log
def invL (log p : Nat) : Nat := p * sinv log % 2 ^ log
theorem step_sinv (log : Nat) (h : 5 ≤ log) (h9 : log ≤ 9) : stepL log * sinv log % 2 ^ log = 1 := by
  have : log = 5 ∨ log = 6 ∨ log = 7 ∨ log = 8 ∨ log = 9 := by omega
  rcases this with rfl | rfl | rfl | rfl | rfl <;> decide
theorem inv_pos (log k : Nat) (h : 5 ≤ log) (h9 : log ≤ 9) (hk : k < 2 ^ log) : invL log (posL log k) = k := by
  unfold invL posL
  rw [Nat.mod_mul_mod, Nat.mul_assoc, Nat.mul_mod, step_sinv log h h9, Nat.mul_one, Nat.mod_mod, Nat.mod_eq_of_lt hk]
theorem pos_inv (log p : Nat) (h : 5 ≤ log) (h9 : log ≤ 9) (hp : p < 2 ^ log) : posL log (invL log p) = p := by
  unfold invL posL
  rw [Nat.mod_mul_mod, Nat.mul_assoc, Nat.mul_comm (sinv log), Nat.mul_mod, step_sinv log h h9, Nat.mul_one, Nat.mod_mod, Nat.mod_eq_of_lt hp]
theorem pos_lt (log k : Nat) : posL log k < 2 ^ log := Nat.mod_lt _ (Nat.pow_pos (by omega))
theorem inv_lt (log p : Nat) : invL log p < 2 ^ log := Nat.mod_lt _ (Nat.pow_pos (by omega))
theorem pos_succ (log k : Nat) : posL log (k + 1) = (posL log k + stepL log) % 2 ^ log := by
  unfold posL
  rw [Nat.add_mul, Nat.one_mul, Nat.mod_add_mod]
/-- All places, in the order of their steps, are all places. -/
theorem inv_perm (log : Nat) (h : 5 ≤ log) (h9 : log ≤ 9) : ((List.range (2 ^ log)).map (invL log)).Perm (List.range (2 ^ log)) := by
  rw [List.perm_iff_count]
  intro a
  have hnd : ((List.range (2 ^ log)).map (invL log)).Nodup := by
    rw [List.nodup_iff_pairwise_ne, List.pairwise_map]
    refine List.Pairwise.imp_of_mem ?_ (List.nodup_range (n := 2 ^ log))
    intro p q hp hq hne he
    have h1 := pos_inv log p h h9 (List.mem_range.1 hp)
    have h2 := pos_inv log q h h9 (List.mem_range.1 hq)
    rw [he, h2] at h1
    exact hne h1.symm
  by_cases ha : a < 2 ^ log
  · have h1 : a ∈ (List.range (2 ^ log)).map (invL log) := List.mem_map.2 ⟨posL log a, List.mem_range.2 (pos_lt log a), inv_pos log a h h9 ha⟩
    have h2 := List.count_pos_iff.2 h1
    have h3 := List.nodup_iff_count.1 hnd a
    have h4 := List.count_pos_iff.2 (List.mem_range.2 ha)
    have h5 := List.nodup_iff_count.1 (List.nodup_range (n := 2 ^ log)) a
    omega
  · rw [List.count_eq_zero.2 (fun hm => ?_), List.count_eq_zero.2 (fun hm => ha (List.mem_range.1 hm))]
    obtain ⟨p, _, rfl⟩ := List.mem_map.1 hm
    exact ha (inv_lt log p)
/-! The table. -/
/-- A fair share, as numbers. -/
structure FairN (ls : List Nat) (log : Nat) : Prop where
  low : 5 ≤ log
  high : log ≤ 9
  len : ls.length ≤ 256
  sum : ls.sum = 2 ^ log
/-- The symbol of place p. -/
def symAt (ls : List Nat) (log p : Nat) : Nat := (symsFrom 0 ls)[invL log p]?.getD 0
/-- All places' symbols. -/
def tab (ls : List Nat) (log : Nat) : List Nat := (List.range (2 ^ log)).map (symAt ls log)
theorem tab_length (ls : List Nat) (log : Nat) : (tab ls log).length = 2 ^ log := by simp [tab]
theorem tab_get (ls : List Nat) (log p : Nat) (h : p < 2 ^ log) : (tab ls log)[p]? = some (symAt ls log p) := by simp [tab, h]
theorem map_get_range (l : List Nat) : (List.range l.length).map (fun k => l[k]?.getD 0) = l := by
  apply List.ext_getElem
  · simp
  · intro i h1 h2
    simp [h2]
theorem tab_perm (ls : List Nat) (log : Nat) (h : FairN ls log) : (tab ls log).Perm (symsFrom 0 ls) := by
  have h1 := (inv_perm log h.low h.high).map (fun k => (symsFrom 0 ls)[k]?.getD 0)
  rw [List.map_map] at h1
  have e := map_get_range (symsFrom 0 ls)
  rw [symsFrom_length, h.sum] at e
  rw [e] at h1
  exact h1
theorem tab_count (ls : List Nat) (log s : Nat) (h : FairN ls log) : (tab ls log).count s = ls[s]?.getD 0 := by
  rw [(tab_perm ls log h).count_eq, symsFrom_count, if_pos (by omega), Nat.sub_zero]
theorem tab_sym (ls : List Nat) (log p : Nat) (h : FairN ls log) (hp : p < 2 ^ log) : ∃ hs : symAt ls log p < ls.length, 0 < ls[symAt ls log p] := by
  have h1 : symAt ls log p ∈ tab ls log := List.mem_map.2 ⟨p, List.mem_range.2 hp, rfl⟩
  have h2 := List.count_pos_iff.2 h1
  rw [tab_count ls log _ h] at h2
  rcases Nat.lt_or_ge (symAt ls log p) ls.length with h3 | h3
  · exact ⟨h3, by simpa [h3] using h2⟩
  · rw [List.getElem?_eq_none h3] at h2; simp at h2
/-- How many places ahead of p have its symbol. -/
def rankAt (ls : List Nat) (log p : Nat) : Nat := ((tab ls log).take p).count (symAt ls log p)
theorem count_take_succ (l : List Nat) (p s : Nat) (h : p < l.length) : (l.take (p + 1)).count s = (l.take p).count s + if l[p] = s then 1 else 0 := by
  rw [List.take_succ_eq_append_getElem h, List.count_append, List.count_singleton]
  simp
theorem count_take_le (l : List Nat) (p q s : Nat) (h : p ≤ q) : (l.take p).count s ≤ (l.take q).count s := by
  obtain ⟨d, rfl⟩ : ∃ d, q = p + d := ⟨q - p, by omega⟩
  rw [List.take_add, List.count_append]
  omega
theorem count_take_all (l : List Nat) (p s : Nat) : (l.take p).count s ≤ l.count s := by
  have h1 := count_take_le l p (max p l.length) s (by omega)
  rw [List.take_of_length_le (i := max p l.length) (by omega)] at h1
  exact h1
theorem rank_lt (ls : List Nat) (log p : Nat) (h : FairN ls log) (hp : p < 2 ^ log) : rankAt ls log p < ls[symAt ls log p]?.getD 0 := by
  have hl : p < (tab ls log).length := by rw [tab_length]; exact hp
  have h1 := count_take_succ (tab ls log) p (symAt ls log p) hl
  have e : (tab ls log)[p] = symAt ls log p := by
    have := tab_get ls log p hp
    rw [List.getElem?_eq_getElem hl] at this
    injection this
  rw [if_pos e] at h1
  have h2 := count_take_all (tab ls log) (p + 1) (symAt ls log p)
  rw [tab_count ls log _ h] at h2
  unfold rankAt
  omega
/-- Each number below a symbol's share is the rank of just one of its places. -/
theorem rank_some : ∀ (l : List Nat) (s r : Nat), r < l.count s → ∃ p, ∃ h : p < l.length, l[p] = s ∧ (l.take p).count s = r
  | [], s, r, h => by simp at h
  | a :: l, s, r, h => by
    by_cases ha : a = s
    · subst ha
      cases r with
      | zero => exact ⟨0, by simp, rfl, by simp⟩
      | succ r =>
        rw [List.count_cons_self] at h
        obtain ⟨p, hp, h1, h2⟩ := rank_some l a r (by omega)
        exact ⟨p + 1, by simpa using hp, by simpa using h1, by rw [List.take_succ_cons, List.count_cons_self, h2]⟩
    · rw [List.count_cons_of_ne (by simpa using ha)] at h
      obtain ⟨p, hp, h1, h2⟩ := rank_some l s r h
      exact ⟨p + 1, by simpa using hp, by simpa using h1, by rw [List.take_succ_cons, List.count_cons_of_ne (by simpa using ha), h2]⟩
theorem rank_one (l : List Nat) (s p q : Nat) (hp : p < l.length) (hq : q < l.length) (h1 : l[p] = s) (h2 : l[q] = s) (h : (l.take p).count s = (l.take q).count s) : p = q := by
  have key : ∀ p q : Nat, ∀ hp : p < l.length, l[p] = s → p < q → (l.take p).count s < (l.take q).count s := fun p q hp h1 hlt => by
    have h3 := count_take_succ l p s hp
    rw [if_pos h1] at h3
    have h4 := count_take_le l (p + 1) q s hlt
    omega
  rcases Nat.lt_trichotomy p q with h3 | h3 | h3
  · have := key p q hp h1 h3; omega
  · exact h3
  · have := key q p hq h2 h3; omega
/-- The number of a place. -/
def numAt (ls : List Nat) (log p : Nat) : Nat := ls[symAt ls log p]?.getD 0 + rankAt ls log p
theorem num_ok (ls : List Nat) (log p : Nat) (h : FairN ls log) (hp : p < 2 ^ log) : ∃ n, ls[symAt ls log p]? = some n ∧ 0 < n ∧ n ≤ 2 ^ log ∧ n ≤ numAt ls log p ∧ numAt ls log p < 2 * n ∧ numAt ls log p < 2 ^ (log + 1) := by
  obtain ⟨hs, h0⟩ := tab_sym ls log p h hp
  have hr := rank_lt ls log p h hp
  rw [List.getElem?_eq_getElem hs] at hr
  have hle : ls[symAt ls log p] ≤ 2 ^ log := by
    rw [← h.sum]
    have : ∀ (l : List Nat) (i : Nat) (hi : i < l.length), l[i] ≤ l.sum := fun l => by
      induction l with
      | nil => intro i hi; simp at hi
      | cons a l ih =>
        intro i hi
        cases i with
        | zero => simp
        | succ i => have := ih i (by simpa using hi); simp; omega
    exact this ls _ hs
  have e : 2 ^ (log + 1) = 2 ^ log * 2 := Nat.pow_succ 2 log
  simp only [Option.getD_some] at hr
  refine ⟨ls[symAt ls log p], List.getElem?_eq_getElem hs, h0, hle, ?_, ?_, ?_⟩
  all_goals unfold numAt; rw [List.getElem?_eq_getElem hs, Option.getD_some]; omega
/-- A place's bits and base. -/
def bitsAt (ls : List Nat) (log p : Nat) : Nat := bitsX log (numAt ls log p)
def baseAt (ls : List Nat) (log p : Nat) : Nat := baseX log (numAt ls log p)
/-- Does the place have this symbol, and lead to this state? -/
def leads (ls : List Nat) (log st s p : Nat) : Prop := symAt ls log p = s ∧ baseAt ls log p ≤ st ∧ st < baseAt ls log p + 2 ^ bitsAt ls log p
instance (ls : List Nat) (log st s p : Nat) : Decidable (leads ls log st s p) := by unfold leads; exact inferInstance
theorem base_at (ls : List Nat) (log p : Nat) (h : FairN ls log) (hp : p < 2 ^ log) : baseAt ls log p + 2 ^ bitsAt ls log p ≤ 2 ^ log := by
  obtain ⟨n, _, h0, _, h2, _, h4⟩ := num_ok ls log p h hp
  exact base_add log _ (by omega) h4
theorem bits_at (ls : List Nat) (log p : Nat) (h : FairN ls log) (hp : p < 2 ^ log) : bitsAt ls log p ≤ log := by
  obtain ⟨n, _, h0, _, h2, _, h4⟩ := num_ok ls log p h hp
  have := wid_one (numAt ls log p) (by omega)
  unfold bitsAt bitsX
  omega
theorem leads_one (ls : List Nat) (log st s p q : Nat) (h : FairN ls log) (hp : p < 2 ^ log) (hq : q < 2 ^ log) (h1 : leads ls log st s p) (h2 : leads ls log st s q) : p = q := by
  obtain ⟨n, e1, h0, hn, a1, a2, a3⟩ := num_ok ls log p h hp
  obtain ⟨m, e2, _, _, b1, b2, b3⟩ := num_ok ls log q h hq
  obtain ⟨rfl, hb1, hb2⟩ := h1
  obtain ⟨hs, hc1, hc2⟩ := h2
  rw [hs, e1] at e2
  injection e2 with e2
  subst e2
  have k1 := (in_stretch log _ st (by omega) a3).1 ⟨hb1, hb2⟩
  have k2 := (in_stretch log _ st (by omega) b3).1 ⟨hc1, hc2⟩
  have k3 := stretch_one log n _ _ st a1 a2 b1 b2 k1 k2
  unfold numAt at k3
  rw [hs] at k3
  have hlp : p < (tab ls log).length := by rw [tab_length]; exact hp
  have hlq : q < (tab ls log).length := by rw [tab_length]; exact hq
  have gp := tab_get ls log p hp
  have gq := tab_get ls log q hq
  rw [List.getElem?_eq_getElem hlp] at gp
  rw [List.getElem?_eq_getElem hlq, hs] at gq
  injection gp with gp
  injection gq with gq
  refine rank_one (tab ls log) (symAt ls log p) p q hlp hlq gp gq ?_
  unfold rankAt at k3
  rw [hs] at k3
  omega
theorem leads_some (ls : List Nat) (log st s n : Nat) (h : FairN ls log) (hs : ls[s]? = some n) (h0 : 0 < n) (hst : st < 2 ^ log) : ∃ p, p < 2 ^ log ∧ leads ls log st s p := by
  have hc := tab_count ls log s h
  rw [hs, Option.getD_some] at hc
  have hn : n ≤ 2 ^ log := by rw [← hc, ← tab_length ls log]; exact List.count_le_length
  obtain ⟨x, h1, h2, h3⟩ := stretch_some log n st h0 hn hst
  obtain ⟨p, hp, e1, e2⟩ := rank_some (tab ls log) s (x - n) (by omega)
  have hp' : p < 2 ^ log := by rw [tab_length] at hp; exact hp
  have gp := tab_get ls log p hp'
  rw [List.getElem?_eq_getElem hp, e1] at gp
  injection gp with gp
  have hx : numAt ls log p = x := by
    unfold numAt rankAt
    rw [← gp, hs, Option.getD_some, e2]
    omega
  have e : 2 ^ (log + 1) = 2 ^ log * 2 := Nat.pow_succ 2 log
  refine ⟨p, hp', gp.symm, ?_⟩
  unfold baseAt bitsAt
  rw [hx]
  exact (in_stretch log x st (by omega) (by omega)).2 h3
/-! What a symbol's states reach together. -/
def reachTo (ls : List Nat) (log i s : Nat) : Nat := ((List.range (((tab ls log).take i).count s)).map fun r => 2 ^ bitsX log (ls[s]?.getD 0 + r)).sum
theorem reach_zero (ls : List Nat) (log s : Nat) : reachTo ls log 0 s = 0 := by simp [reachTo]
theorem reach_same (ls : List Nat) (log i : Nat) (hi : i < 2 ^ log) : reachTo ls log (i + 1) (symAt ls log i) = reachTo ls log i (symAt ls log i) + 2 ^ bitsAt ls log i := by
  have hl : i < (tab ls log).length := by rw [tab_length]; exact hi
  have g := tab_get ls log i hi
  rw [List.getElem?_eq_getElem hl] at g
  injection g with g
  have h1 := count_take_succ (tab ls log) i (symAt ls log i) hl
  rw [if_pos g] at h1
  unfold reachTo
  rw [h1, List.range_succ, List.map_append, List.sum_append_nat]
  simp [bitsAt, numAt, rankAt]
theorem reach_other (ls : List Nat) (log i s : Nat) (hi : i < 2 ^ log) (h : symAt ls log i ≠ s) : reachTo ls log (i + 1) s = reachTo ls log i s := by
  have hl : i < (tab ls log).length := by rw [tab_length]; exact hi
  have g := tab_get ls log i hi
  rw [List.getElem?_eq_getElem hl] at g
  injection g with g
  have h1 := count_take_succ (tab ls log) i s hl
  rw [if_neg (by rw [g]; exact h)] at h1
  unfold reachTo
  rw [h1, Nat.add_zero]
theorem reach_all (ls : List Nat) (log s n : Nat) (h : FairN ls log) (hs : ls[s]? = some n) (h0 : 0 < n) : reachTo ls log (2 ^ log) s = 2 ^ log := by
  have hc := tab_count ls log s h
  rw [hs, Option.getD_some] at hc
  have hn : n ≤ 2 ^ log := by rw [← hc, ← tab_length ls log]; exact List.count_le_length
  unfold reachTo
  rw [← tab_length ls log, List.take_length, hc, hs, Option.getD_some]
  rw [tab_length]
  exact stretch_sum log n h0 hn
/-- The place ahead of a state by a symbol. -/
def backP (ls : List Nat) (log st s : Nat) : Option Nat := (List.range (2 ^ log)).find? fun p => decide (leads ls log st s p)
theorem back_some (ls : List Nat) (log st s n : Nat) (h : FairN ls log) (hs : ls[s]? = some n) (h0 : 0 < n) (hst : st < 2 ^ log) : ∃ p, backP ls log st s = some p ∧ p < 2 ^ log ∧ leads ls log st s p := by
  obtain ⟨q, hq, hl⟩ := leads_some ls log st s n h hs h0 hst
  cases e : backP ls log st s with
  | none =>
    unfold backP at e
    rw [List.find?_eq_none] at e
    exact absurd (decide_eq_true hl) (e q (List.mem_range.2 hq))
  | some p =>
    have e' := e
    unfold backP at e'
    have h1 := List.find?_some e'
    have h2 := List.mem_of_find?_eq_some e'
    exact ⟨p, rfl, List.mem_range.1 h2, of_decide_eq_true h1⟩
theorem back_is (ls : List Nat) (log st s p : Nat) (h : FairN ls log) (hp : p < 2 ^ log) (hl : leads ls log st s p) : backP ls log st s = some p := by
  cases e : backP ls log st s with
  | none =>
    unfold backP at e
    rw [List.find?_eq_none] at e
    exact absurd (decide_eq_true hl) (e p (List.mem_range.2 hp))
  | some q =>
    have e' := e
    unfold backP at e'
    have h0 := List.find?_some e'
    have h1 := of_decide_eq_true h0
    have h2 := List.mem_range.1 (List.mem_of_find?_eq_some e')
    rw [leads_one ls log st s p q h hp h2 hl h1]
theorem back_none (ls : List Nat) (log st s : Nat) (h : FairN ls log) (hs : ls[s]?.getD 0 = 0) : backP ls log st s = none := by
  unfold backP
  rw [List.find?_eq_none]
  intro p hp hl
  obtain ⟨h1, h2⟩ := tab_sym ls log p h (List.mem_range.1 hp)
  have h3 := (of_decide_eq_true hl).1
  rw [h3] at h1
  rw [List.getElem?_eq_getElem h1, Option.getD_some] at hs
  have h4 : ls[symAt ls log p] = ls[s] := by congr
  omega
end Go.Proofs.Ytlimiiimgblggaa.Bm
