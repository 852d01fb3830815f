/-
  Plain mathematics for layer 19 (train): a list as a heap: what up and down keep, and make. It speaks of no program. No condition.
-/
import Derived.Test.YtaebnkeddcbmkaaGa
namespace Go.Proofs.Ytaebnkeddcbmkaa.Bm
theorem lt3_iff (a b : Pce) : lt3 a b ↔ (b.2.1 < a.2.1 ∨ (a.2.1 = b.2.1 ∧ a.2.2 < b.2.2)) := Iff.rfl
/-- The element at a place. -/
abbrev at3 (l : List Pce) (i : Nat) : Pce := l[i]?.getD pce0
theorem swq_at (l : List Pce) (i j k : Nat) (hi : i < l.length) (hj : j < l.length) : at3 (swq pce0 l i j) k = if k = j then at3 l i else if k = i then at3 l j else at3 l k := by
  unfold at3 swq
  rw [List.getElem?_set, List.length_set]
  by_cases h1 : j = k
  · subst h1
    rw [if_pos rfl, if_pos rfl, if_pos hj, Option.getD_some]
  · rw [if_neg h1, if_neg (fun h => h1 h.symm), List.getElem?_set]
    by_cases h2 : i = k
    · subst h2
      rw [if_pos rfl, if_pos rfl, if_pos hi, Option.getD_some]
    · rw [if_neg h2, if_neg (fun h => h2 h.symm)]
theorem swq_perm (l : List Pce) (i j : Nat) (hi : i < l.length) (hj : j < l.length) : (swq pce0 l i j).Perm l := by
  unfold swq
  rw [List.getElem?_eq_getElem hi, List.getElem?_eq_getElem hj, Option.getD_some, Option.getD_some]
  rcases Nat.lt_trichotomy i j with h | h | h
  · exact List.set_set_perm hi hj
  · subst h; exact List.set_set_perm hi hj
  · exact List.set_set_perm hi hj
/-- Of the first n, none is lighter than the one above it. -/
def HeapQ (l : List Pce) (n : Nat) : Prop := ∀ k, 0 < k → k < n → ¬ lt3 (at3 l k) (at3 l ((k - 1) / 2))
/-- A heap, but that j may be too light. -/
def UpQ (l : List Pce) (n j : Nat) : Prop := (∀ k, 0 < k → k < n → k ≠ j → ¬ lt3 (at3 l k) (at3 l ((k - 1) / 2))) ∧ (0 < j → ∀ k, 0 < k → k < n → (k - 1) / 2 = j → ¬ lt3 (at3 l k) (at3 l ((j - 1) / 2)))
/-- Of the first n, none whose upper one is at i0 or behind is worth more than it. -/
def HeapF (l : List Pce) (n i0 : Nat) : Prop := ∀ k, 0 < k → k < n → i0 ≤ (k - 1) / 2 → ¬ lt3 (at3 l k) (at3 l ((k - 1) / 2))
/-- The same, but that i may be worth too little. -/
def DownQ (l : List Pce) (n i0 i : Nat) : Prop := (∀ k, 0 < k → k < n → i0 ≤ (k - 1) / 2 → (k - 1) / 2 ≠ i → ¬ lt3 (at3 l k) (at3 l ((k - 1) / 2))) ∧ (i0 < i → i0 ≤ (i - 1) / 2 → ∀ k, 0 < k → k < n → (k - 1) / 2 = i → ¬ lt3 (at3 l k) (at3 l ((i - 1) / 2)))
theorem heapf_zero {l : List Pce} {n : Nat} (h : HeapF l n 0) : HeapQ l n := fun k h0 hk => h k h0 hk (Nat.zero_le _)
theorem heapf_start (l : List Pce) (n : Nat) : HeapF l n (n / 2) := fun k h0 hk hi => by omega
theorem heapf_down {l : List Pce} {n i : Nat} (h : HeapF l n (i + 1)) : DownQ l n i i := ⟨fun k h0 hk hi hne => h k h0 hk (by omega), fun h0 => by omega⟩
theorem upq_end0 (l : List Pce) (n : Nat) (h : UpQ l n 0) : HeapQ l n := fun k h0 hk => h.1 k h0 hk (by omega)
theorem upq_end (l : List Pce) (n j : Nat) (h : UpQ l n j) (hj : ¬ lt3 (at3 l j) (at3 l ((j - 1) / 2))) : HeapQ l n := fun k h0 hk => by
  by_cases e : k = j
  · subst e; exact hj
  · exact h.1 k h0 hk e
theorem upq_step (l : List Pce) (n j : Nat) (hn : n ≤ l.length) (hj : j < n) (h0 : 0 < j) (h : UpQ l n j) (hlt : lt3 (at3 l j) (at3 l ((j - 1) / 2))) : UpQ (swq pce0 l ((j - 1) / 2) j) n ((j - 1) / 2) := by
  obtain ⟨p, hp⟩ : ∃ p, p = (j - 1) / 2 := ⟨_, rfl⟩
  rw [← hp] at hlt ⊢
  obtain ⟨h1, h2⟩ := h
  rw [← hp] at h2
  have hs := fun k => swq_at l p j k (by omega) (by omega)
  refine ⟨fun k k0 kn kp => ?_, fun p0 k k0 kn kp => ?_⟩
  · rw [hs, hs]
    by_cases e : k = j
    · subst e
      rw [if_pos rfl, ← hp, if_neg (by omega), if_pos rfl]
      rw [lt3_iff] at hlt ⊢
      omega
    · rw [if_neg e, if_neg kp]
      by_cases e2 : (k - 1) / 2 = j
      · rw [if_pos e2]
        exact h2 h0 k k0 kn e2
      · rw [if_neg e2]
        by_cases e3 : (k - 1) / 2 = p
        · rw [if_pos e3]
          have := h1 k k0 kn e
          rw [e3] at this
          rw [lt3_iff] at hlt this ⊢
          omega
        · rw [if_neg e3]
          exact h1 k k0 kn e
  · rw [hs, hs, if_neg (show ¬ (p - 1) / 2 = j by omega), if_neg (show ¬ (p - 1) / 2 = p by omega)]
    have hpp := h1 p p0 (by omega) (by omega)
    by_cases e : k = j
    · rw [if_pos e]; exact hpp
    · rw [if_neg e, if_neg (show ¬ k = p by omega)]
      have := h1 k k0 kn e
      rw [kp] at this
      rw [lt3_iff] at this hpp ⊢
      omega
theorem downq_end (l : List Pce) (n i0 i : Nat) (h : DownQ l n i0 i) (hi : ∀ k, 0 < k → k < n → (k - 1) / 2 = i → ¬ lt3 (at3 l k) (at3 l i)) : HeapF l n i0 := fun k h0 hk hp => by
  by_cases e : (k - 1) / 2 = i
  · rw [e]; exact hi k h0 hk e
  · exact h.1 k h0 hk hp e
theorem downq_step (l : List Pce) (n i0 i j : Nat) (hn : n ≤ l.length) (hj : j < n) (h0 : 0 < j) (hi0 : i0 ≤ i) (hji : (j - 1) / 2 = i) (h : DownQ l n i0 i) (hlt : lt3 (at3 l j) (at3 l i)) (hleast : ∀ k, 0 < k → k < n → (k - 1) / 2 = i → ¬ lt3 (at3 l k) (at3 l j)) :
    DownQ (swq pce0 l i j) n i0 j := by
  obtain ⟨h1, h2⟩ := h
  have hs := fun k => swq_at l i j k (by omega) (by omega)
  refine ⟨fun k k0 kn kq kp => ?_, fun _ _ k k0 kn kp => ?_⟩
  · rw [hs, hs]
    by_cases e : k = j
    · subst e
      rw [if_pos rfl, hji, if_neg (by omega), if_pos rfl]
      rw [lt3_iff] at hlt ⊢
      omega
    · rw [if_neg e, if_neg kp]
      by_cases e2 : (k - 1) / 2 = i
      · rw [if_pos e2, if_neg (show ¬ k = i by omega)]
        exact hleast k k0 kn e2
      · rw [if_neg e2]
        by_cases e3 : k = i
        · rw [if_pos e3]
          have := h2 (by omega) (by omega) j h0 hj hji
          rw [e3]
          exact this
        · rw [if_neg e3]
          exact h1 k k0 kn kq e2
  · rw [hs, hs, hji, if_neg (show ¬ k = j by omega), if_neg (show ¬ k = i by omega), if_neg (show ¬ i = j by omega), if_pos rfl]
    have := h1 k k0 kn (by omega) (by omega)
    rw [kp] at this
    exact this
theorem heapq_least (l : List Pce) (n : Nat) (h : HeapQ l n) : ∀ k, k < n → ¬ lt3 (at3 l k) (at3 l 0) := by
  intro k
  induction k using Nat.strongRecOn with
  | _ k ih =>
    intro hk
    by_cases e : k = 0
    · subst e
      rw [lt3_iff]
      omega
    · have h1 := h k (by omega) hk
      have h2 := ih ((k - 1) / 2) (by omega) (by omega)
      rw [lt3_iff] at h1 h2 ⊢
      omega
/-- A heap with one more behind it. -/
theorem heapq_push (l : List Pce) (x : Pce) (h : HeapQ l l.length) : UpQ (l ++ [x]) (l.length + 1) l.length := by
  have hg : ∀ k, k < l.length → at3 (l ++ [x]) k = at3 l k := fun k hk => by
    unfold at3
    rw [List.getElem?_append_left hk]
  refine ⟨fun k k0 kn kj => ?_, fun h0 k k0 kn kp => by omega⟩
  rw [hg k (by omega), hg ((k - 1) / 2) (by omega)]
  exact h k k0 (by omega)
/-- The first and the last changed round: a heap of the others, but for the first. -/
theorem heapq_pop (l : List Pce) (n : Nat) (hn : l.length = n + 1) (h : HeapQ l (n + 1)) : DownQ (swq pce0 l 0 n) n 0 0 := by
  have hs := fun k => swq_at l 0 n k (by omega) (by omega)
  refine ⟨fun k k0 kn _ kp => ?_, fun h0 => by omega⟩
  rw [hs, hs, if_neg (by omega), if_neg (by omega), if_neg (by omega), if_neg kp]
  exact h k k0 (by omega)
theorem heapq_take (l : List Pce) (n : Nat) (h : HeapQ l n) : HeapQ (l.take n) n := fun k k0 kn => by
  have hg : ∀ k, k < n → at3 (l.take n) k = at3 l k := fun k hk => by
    unfold at3
    rw [List.getElem?_take, if_pos hk]
  rw [hg k kn, hg _ (by omega)]
  exact h k k0 kn
end Go.Proofs.Ytaebnkeddcbmkaa.Bm
