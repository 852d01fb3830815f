/-
  Plain mathematics for layer 9 (huff): two lightest at a time: no whole lengths cost less. It speaks of no program. No condition.
-/
import Derived.Test.YtmcobnbahkoopaaUm
namespace Go.Proofs.Ytmcobnbahkoopaa.Bm

/-- Into a sorted list; sorted. -/
def ins (x : Nat) : List Nat → List Nat
  | [] => [x]
  | y :: l => if x ≤ y then x :: y :: l else y :: ins x l
def isort : List Nat → List Nat
  | [] => []
  | x :: l => ins x (isort l)
theorem ins_le {x y : Nat} {l : List Nat} (h : x ≤ y) : ins x (y :: l) = x :: y :: l := by rw [ins, if_pos h]
theorem ins_gt {x y : Nat} {l : List Nat} (h : ¬ x ≤ y) : ins x (y :: l) = y :: ins x l := by rw [ins, if_neg h]
theorem ins_comm (x y : Nat) : ∀ l, ins x (ins y l) = ins y (ins x l)
  | [] => by
    show ins x [y] = ins y [x]
    by_cases h1 : x ≤ y
    · by_cases h2 : y ≤ x
      · obtain rfl : x = y := by omega
        rfl
      · rw [ins_le h1, ins_gt h2]; rfl
    · rw [ins_gt h1, ins_le (by omega)]; rfl
  | z :: l => by
    by_cases h1 : x ≤ z <;> by_cases h2 : y ≤ z
    · rw [ins_le h1, ins_le h2]
      by_cases h3 : x ≤ y
      · by_cases h4 : y ≤ x
        · obtain rfl : x = y := by omega
          rfl
        · rw [ins_le h3, ins_gt h4, ins_le h2]
      · rw [ins_gt h3, ins_le (show y ≤ x by omega), ins_le h1]
    · rw [ins_gt h2, ins_le h1, ins_le h1, ins_gt (show ¬ y ≤ x by omega), ins_gt h2]
    · rw [ins_gt h1, ins_le h2, ins_le h2, ins_gt (show ¬ x ≤ y by omega), ins_gt h1]
    · rw [ins_gt h1, ins_gt h2, ins_gt h1, ins_gt h2, ins_comm x y l]
theorem isort_perm_eq {a b : List Nat} (h : a.Perm b) : isort a = isort b := by
  induction h with
  | nil => rfl
  | cons x _ ih => simp only [isort, ih]
  | swap x y l => simp only [isort]; exact ins_comm y x (isort l)
  | trans _ _ ih1 ih2 => exact ih1.trans ih2
theorem ins_perm (x : Nat) : ∀ l, (ins x l).Perm (x :: l)
  | [] => List.Perm.refl _
  | y :: l => by
    unfold ins
    split
    · exact List.Perm.refl _
    · exact ((ins_perm x l).cons y).trans (List.Perm.swap x y l)
theorem isort_perm : ∀ l, (isort l).Perm l
  | [] => List.Perm.refl _
  | x :: l => (ins_perm x (isort l)).trans ((isort_perm l).cons x)
theorem isort_length (l : List Nat) : (isort l).length = l.length := (isort_perm l).length_eq
theorem ins_sorted (x : Nat) : ∀ l : List Nat, l.Pairwise (· ≤ ·) → (ins x l).Pairwise (· ≤ ·)
  | [], _ => by simp [ins]
  | y :: l, h => by
    unfold ins
    rw [List.pairwise_cons] at h
    split
    · next hxy =>
      rw [List.pairwise_cons]
      refine ⟨fun z hz => ?_, List.pairwise_cons.2 h⟩
      rcases List.mem_cons.1 hz with rfl | hz
      · exact hxy
      · exact Nat.le_trans hxy (h.1 z hz)
    · next hxy =>
      rw [List.pairwise_cons]
      refine ⟨fun z hz => ?_, ins_sorted x l h.2⟩
      rcases List.mem_cons.1 ((ins_perm x l).mem_iff.1 hz) with rfl | hz
      · omega
      · exact h.1 z hz
theorem isort_sorted : ∀ l, (isort l).Pairwise (· ≤ ·)
  | [] => by simp [isort]
  | x :: l => ins_sorted x _ (isort_sorted l)
theorem ins_least (x : Nat) (l : List Nat) (h : ∀ y ∈ l, x ≤ y) : ins x l = x :: l := by
  cases l with
  | nil => rfl
  | cons y l => unfold ins; rw [if_pos (h y List.mem_cons_self)]
/-- Two lightest at a time, of a sorted list. -/
def hcost : Nat → List Nat → Nat
  | 0, _ => 0
  | f + 1, a :: b :: l => (a + b) + hcost f (ins (a + b) l)
  | _ + 1, _ => 0
/-- Of any list: the least cost. -/
def hbest (l : List Nat) : Nat := hcost l.length (isort l)
theorem hbest_perm {a b : List Nat} (h : a.Perm b) : hbest a = hbest b := by
  unfold hbest
  rw [isort_perm_eq h, h.length_eq]
/-- A step: the two lightest, wherever the rest stands. -/
theorem hbest_step (a b : Nat) (l : List Nat) (ha : a ≤ b) (hb : ∀ x ∈ l, b ≤ x) : hbest (a :: b :: l) = (a + b) + hbest (l ++ [a + b]) := by
  have hs : isort (a :: b :: l) = a :: b :: isort l := by
    simp only [isort]
    rw [ins_least b (isort l) (fun y hy => hb y ((isort_perm l).mem_iff.1 hy))]
    exact ins_least a _ (fun y hy => by
      rcases List.mem_cons.1 hy with rfl | hy
      · exact ha
      · have := hb y ((isort_perm l).mem_iff.1 hy); omega)
  have h2 : hbest (l ++ [a + b]) = hcost (l.length + 1) (ins (a + b) (isort l)) := by
    rw [hbest_perm (List.perm_append_comm (l₁ := l) (l₂ := [a + b]))]
    rfl
  rw [h2]
  unfold hbest
  rw [hs]
  rfl
theorem hbest_few (l : List Nat) (h : l.length ≤ 1) : hbest l = 0 := by
  rcases l with _ | ⟨a, _ | ⟨b, l⟩⟩
  · rfl
  · rfl
  · simp at h
/-- Weights and lengths: the cost, the parts of 2 to the power M. -/
def wcost (ps : List (Nat × Nat)) : Nat := (ps.map fun p => p.1 * p.2).sum
def kraft (M : Nat) (ps : List (Nat × Nat)) : Nat := (ps.map fun p => 2 ^ (M - p.2)).sum
theorem wcost_perm {a b : List (Nat × Nat)} (h : a.Perm b) : wcost a = wcost b := (h.map _).sum_nat
theorem kraft_perm (M : Nat) {a b : List (Nat × Nat)} (h : a.Perm b) : kraft M a = kraft M b := (h.map _).sum_nat
theorem wcost_cons (p : Nat × Nat) (l : List (Nat × Nat)) : wcost (p :: l) = p.1 * p.2 + wcost l := by simp [wcost]
theorem kraft_cons (M : Nat) (p : Nat × Nat) (l : List (Nat × Nat)) : kraft M (p :: l) = 2 ^ (M - p.2) + kraft M l := by simp [kraft]
/-- One level deeper: twice the parts. -/
theorem kraft_up (M : Nat) : ∀ (l : List (Nat × Nat)), (∀ p ∈ l, p.2 ≤ M) → kraft (M + 1) l = 2 * kraft M l
  | [], _ => rfl
  | p :: l, h => by
    have h1 := h p List.mem_cons_self
    rw [kraft_cons, kraft_cons, kraft_up M l (fun q hq => h q (List.mem_cons_of_mem _ hq)), show M + 1 - p.2 = (M - p.2) + 1 by omega, Nat.pow_succ]
    omega
/-- How many are of the greatest length: as many as the parts, up to twice something. -/
theorem kraft_odd (M : Nat) : ∀ (l : List (Nat × Nat)), (∀ p ∈ l, p.2 ≤ M) → kraft M l % 2 = (l.countP fun p => decide (p.2 = M)) % 2
  | [], _ => rfl
  | p :: l, h => by
    have h1 := h p List.mem_cons_self
    have ih := kraft_odd M l (fun q hq => h q (List.mem_cons_of_mem _ hq))
    rw [kraft_cons, List.countP_cons]
    by_cases he : p.2 = M
    · simp only [he, Nat.sub_self, Nat.pow_zero, decide_true, if_true]
      omega
    · simp only [he, decide_false, Bool.false_eq_true, if_false]
      obtain ⟨q, hq⟩ : ∃ q, M - p.2 = q + 1 := ⟨M - p.2 - 1, by omega⟩
      rw [hq, Nat.pow_succ]
      omega
/-- Where lengths are too great by one level for all, they are whole one level above. -/
theorem kraft_down (M : Nat) (l : List (Nat × Nat)) (h : ∀ p ∈ l, p.2 ≤ M) (hk : kraft (M + 1) l = 2 ^ (M + 1)) : kraft M l = 2 ^ M := by
  have h1 := kraft_up M l h
  rw [hk, Nat.pow_succ] at h1
  omega
/-- Of any list that has an element with this, and another list of weights with the least one: the pair put in front, at no more cost. -/
theorem front (M a : Nat) (ps : List (Nat × Nat)) (ha : a ∈ ps.map (·.1)) (hmin : ∀ p ∈ ps, a ≤ p.1) (hM : ∀ p ∈ ps, p.2 ≤ M) (hex : ∃ p ∈ ps, p.2 = M) :
    ∃ R, (ps.map (·.1)).Perm (a :: R.map (·.1)) ∧ kraft M ps = 1 + kraft M R ∧ a * M + wcost R ≤ wcost ps ∧ (∀ p ∈ R, p.2 ≤ M) ∧ R.length + 1 = ps.length := by
  obtain ⟨p, hp, rfl⟩ := List.mem_map.1 ha
  obtain ⟨s, t, rfl⟩ := List.append_of_mem hp
  have hperm : (s ++ p :: t).Perm (p :: (s ++ t)) := List.perm_middle
  by_cases hpM : p.2 = M
  · refine ⟨s ++ t, hperm.map _, ?_, ?_, fun q hq => hM q (hperm.mem_iff.2 (List.mem_cons_of_mem _ hq)), by simp; omega⟩
    · rw [kraft_perm M hperm, kraft_cons, hpM, Nat.sub_self, Nat.pow_zero]
    · rw [wcost_perm hperm, wcost_cons, hpM]; exact Nat.le_refl _
  · obtain ⟨q, hq, hqM⟩ := hex
    have hq2 : q ∈ s ++ t := by
      rcases List.mem_cons.1 (hperm.mem_iff.1 hq) with rfl | h
      · exact absurd hqM hpM
      · exact h
    obtain ⟨u, v, e⟩ := List.append_of_mem hq2
    have hperm2 : (s ++ p :: t).Perm (p :: q :: (u ++ v)) := hperm.trans (((e ▸ List.Perm.refl (s ++ t) : (s ++ t).Perm (u ++ q :: v)).trans List.perm_middle).cons p)
    have hpl := hM p hp
    have hpq := hmin q hq
    refine ⟨(q.1, p.2) :: (u ++ v), ?_, ?_, ?_, ?_, ?_⟩
    · exact hperm2.map _
    · rw [kraft_perm M hperm2, kraft_cons, kraft_cons, kraft_cons, hqM, Nat.sub_self, Nat.pow_zero]
      dsimp only
      omega
    · rw [wcost_perm hperm2, wcost_cons, wcost_cons, wcost_cons, hqM]
      dsimp only
      obtain ⟨d, hd⟩ : ∃ d, q.1 = p.1 + d := ⟨q.1 - p.1, by omega⟩
      obtain ⟨g, hg⟩ : ∃ g, M = p.2 + g := ⟨M - p.2, by omega⟩
      have h1 : p.1 * M + q.1 * p.2 ≤ p.1 * p.2 + q.1 * M := by
        rw [hd, hg, Nat.add_mul, Nat.add_mul, Nat.mul_add, Nat.mul_add]
        omega
      omega
    · intro r hr
      rcases List.mem_cons.1 hr with rfl | hr
      · exact hpl
      · exact hM r (hperm2.mem_iff.2 (List.mem_cons_of_mem _ (List.mem_cons_of_mem _ hr)))
    · have := hperm2.length_eq
      simp at this ⊢
      omega
/-- No whole lengths cost less. -/
theorem opt : ∀ (n M : Nat) (ps : List (Nat × Nat)), ps.length + M ≤ n → (∀ p ∈ ps, p.2 ≤ M) → kraft M ps = 2 ^ M → hbest (ps.map (·.1)) ≤ wcost ps
  | 0, M, ps, hn, _, _ => by
    have : ps.length = 0 := by omega
    rw [List.eq_nil_of_length_eq_zero this]
    exact Nat.zero_le _
  | n + 1, M, ps, hn, hM, hk => by
    by_cases hlen : ps.length ≤ 1
    · rw [hbest_few _ (by simpa using hlen)]; exact Nat.zero_le _
    · rcases M with _ | M
      · have : ∀ l : List (Nat × Nat), kraft 0 l = l.length := fun l => by
          induction l with
          | nil => rfl
          | cons p l ih => rw [kraft_cons, ih, Nat.zero_sub, List.length_cons]; omega
        rw [this] at hk
        omega
      · by_cases hex : ∃ p ∈ ps, p.2 = M + 1
        · -- two of the greatest length
          have hs : ∃ a b l, isort (ps.map (·.1)) = a :: b :: l := by
            have h1 := isort_length (ps.map (·.1))
            rw [List.length_map] at h1
            rcases hsx : isort (ps.map (·.1)) with _ | ⟨a, _ | ⟨b, l⟩⟩
            · rw [hsx, List.length_nil] at h1; omega
            · rw [hsx, List.length_singleton] at h1; omega
            · exact ⟨a, b, l, hsx⟩
          obtain ⟨a, b, l, hs⟩ := hs
          have hperm := (isort_perm (ps.map (·.1)))
          have hsort := isort_sorted (ps.map (·.1))
          rw [hs] at hperm hsort
          rw [List.pairwise_cons, List.pairwise_cons] at hsort
          obtain ⟨ha, hb, _⟩ := hsort
          have hmina : ∀ p ∈ ps, a ≤ p.1 := fun p hp => by
            have h1 := hperm.mem_iff.2 (List.mem_map_of_mem (f := (·.1)) hp)
            rcases List.mem_cons.1 h1 with h1 | h1
            · omega
            · exact ha _ h1
          obtain ⟨R, hR1, hR2, hR3, hR4, hR5⟩ := front (M + 1) a ps (hperm.mem_iff.1 List.mem_cons_self) hmina hM hex
          have hRp : (b :: l).Perm (R.map (·.1)) := (List.perm_cons a).1 (hperm.trans hR1)
          have hex2 : ∃ p ∈ R, p.2 = M + 1 := by
            have h1 := kraft_odd (M + 1) R hR4
            have h2 : 0 < R.countP fun p => decide (p.2 = M + 1) := by
              rw [hk] at hR2
              have h3 : 2 ^ (M + 1) % 2 = 0 := by rw [Nat.pow_succ]; omega
              omega
            obtain ⟨p, hp, he⟩ := List.countP_pos_iff.1 h2
            exact ⟨p, hp, by simpa using he⟩
          obtain ⟨R2, k1, k2, k3, k4, k5⟩ := front (M + 1) b R (hRp.mem_iff.1 List.mem_cons_self) (fun p hp => by
            have h1 := hRp.mem_iff.2 (List.mem_map_of_mem (f := (·.1)) hp)
            rcases List.mem_cons.1 h1 with h1 | h1
            · omega
            · exact hb _ h1) hR4 hex2
          have hR2p : l.Perm (R2.map (·.1)) := (List.perm_cons b).1 (hRp.trans k1)
          have ih := opt n (M + 1) ((a + b, M) :: R2) (by rw [List.length_cons]; omega) (by
            intro p hp
            rcases List.mem_cons.1 hp with rfl | hp
            · exact Nat.le_succ M
            · exact k4 p hp) (by
            rw [kraft_cons, show M + 1 - M = 1 by omega]
            omega)
          rw [wcost_cons, List.map_cons] at ih
          dsimp only at ih
          have hstep := hbest_step a b l (ha b List.mem_cons_self) hb
          have e1 : hbest (ps.map (·.1)) = hbest (a :: b :: l) := (hbest_perm hperm).symm
          have e2 : hbest (l ++ [a + b]) = hbest ((a + b) :: R2.map (·.1)) := hbest_perm ((List.perm_append_comm (l₁ := l) (l₂ := [a + b])).trans (hR2p.cons (a + b)))
          rw [e1, hstep, e2]
          have h6 : a * (M + 1) + b * (M + 1) = (a + b) * M + (a + b) := by
            rw [← Nat.add_mul, Nat.mul_succ]
          omega
        · have hM2 : ∀ p ∈ ps, p.2 ≤ M := fun p hp => by
            have h1 := hM p hp
            have h2 : p.2 ≠ M + 1 := fun e => hex ⟨p, hp, e⟩
            omega
          exact opt n M ps (by omega) hM2 (kraft_down M ps hM2 hk)
end Go.Proofs.Ytmcobnbahkoopaa.Bm
