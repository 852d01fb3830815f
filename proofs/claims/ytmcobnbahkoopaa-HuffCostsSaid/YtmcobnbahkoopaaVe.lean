/-
  Plain mathematics for layer 9 (huff): a list as a heap: what up and down keep, and make. It speaks of no program. No condition.
-/
import Derived.Test.YtmcobnbahkoopaaVc
namespace Go.Proofs.Ytmcobnbahkoopaa.Bm
theorem lt2_iff (a b : Nat × Nat) : lt2 a b ↔ (a.1 < b.1 ∨ (a.1 = b.1 ∧ a.2 < b.2)) := Iff.rfl
/-- The element at a place. -/
abbrev at2 (l : List (Nat × Nat)) (i : Nat) : Nat × Nat := l[i]?.getD (0, 0)
theorem swp_at (l : List (Nat × Nat)) (i j k : Nat) (hi : i < l.length) (hj : j < l.length) : at2 (swp (0, 0) l i j) k = if k = j then at2 l i else if k = i then at2 l j else at2 l k := by
  unfold at2 swp
  rw [List.getElem?_set, List.length_set]
  by_cases h1 : j = k
  · subst h1
    rw [if_pos rfl, if_pos rfl, if_pos hj, Option.getD_some]
  · rw [if_neg h1, if_neg (fun h => h1 h.symm), List.getElem?_set]
    by_cases h2 : i = k
    · subst h2
      rw [if_pos rfl, if_pos rfl, if_pos hi, Option.getD_some]
    · rw [if_neg h2, if_neg (fun h => h2 h.symm)]
theorem swp_perm (l : List (Nat × Nat)) (i j : Nat) (hi : i < l.length) (hj : j < l.length) : (swp (0, 0) l i j).Perm l := by
  unfold swp
  rw [List.getElem?_eq_getElem hi, List.getElem?_eq_getElem hj, Option.getD_some, Option.getD_some]
  rcases Nat.lt_trichotomy i j with h | h | h
  · exact List.set_set_perm hi hj
  · subst h; exact List.set_set_perm hi hj
  · exact List.set_set_perm hi hj
/-- Of the first n, none is lighter than the one above it. -/
def HeapN (l : List (Nat × Nat)) (n : Nat) : Prop := ∀ k, 0 < k → k < n → ¬ lt2 (at2 l k) (at2 l ((k - 1) / 2))
/-- A heap, but that j may be too light. -/
def UpN (l : List (Nat × Nat)) (n j : Nat) : Prop := (∀ k, 0 < k → k < n → k ≠ j → ¬ lt2 (at2 l k) (at2 l ((k - 1) / 2))) ∧ (0 < j → ∀ k, 0 < k → k < n → (k - 1) / 2 = j → ¬ lt2 (at2 l k) (at2 l ((j - 1) / 2)))
/-- A heap, but that i may be too heavy. -/
def DownN (l : List (Nat × Nat)) (n i : Nat) : Prop := (∀ k, 0 < k → k < n → (k - 1) / 2 ≠ i → ¬ lt2 (at2 l k) (at2 l ((k - 1) / 2))) ∧ (0 < i → ∀ k, 0 < k → k < n → (k - 1) / 2 = i → ¬ lt2 (at2 l k) (at2 l ((i - 1) / 2)))
theorem up_end0 (l : List (Nat × Nat)) (n : Nat) (h : UpN l n 0) : HeapN l n := fun k h0 hk => h.1 k h0 hk (by omega)
theorem up_end (l : List (Nat × Nat)) (n j : Nat) (h : UpN l n j) (hj : ¬ lt2 (at2 l j) (at2 l ((j - 1) / 2))) : HeapN l n := fun k h0 hk => by
  by_cases e : k = j
  · subst e; exact hj
  · exact h.1 k h0 hk e
theorem up_step (l : List (Nat × Nat)) (n j : Nat) (hn : n ≤ l.length) (hj : j < n) (h0 : 0 < j) (h : UpN l n j) (hlt : lt2 (at2 l j) (at2 l ((j - 1) / 2))) : UpN (swp (0, 0) l ((j - 1) / 2) j) n ((j - 1) / 2) := by
  obtain ⟨p, hp⟩ : ∃ p, p = (j - 1) / 2 := ⟨_, rfl⟩
  rw [← hp] at hlt ⊢
  obtain ⟨h1, h2⟩ := h
  rw [← hp] at h2
  have hs := fun k => swp_at l p j k (by omega) (by omega)
  refine ⟨fun k k0 kn kp => ?_, fun p0 k k0 kn kp => ?_⟩
  · rw [hs, hs]
    by_cases e : k = j
    · subst e
      rw [if_pos rfl, ← hp, if_neg (by omega), if_pos rfl]
      rw [lt2_iff] at hlt ⊢
      omega
    · rw [if_neg e, if_neg kp]
      by_cases e2 : (k - 1) / 2 = j
      · rw [if_pos e2]
        exact h2 h0 k k0 kn e2
      · rw [if_neg e2]
        by_cases e3 : (k - 1) / 2 = p
        · rw [if_pos e3]
          have := h1 k k0 kn e
          rw [e3] at this
          rw [lt2_iff] at hlt this ⊢
          omega
        · rw [if_neg e3]
          exact h1 k k0 kn e
  · rw [hs, hs, if_neg (show ¬ (p - 1) / 2 = j by omega), if_neg (show ¬ (p - 1) / 2 = p by omega)]
    have hpp := h1 p p0 (by omega) (by omega)
    by_cases e : k = j
    · rw [if_pos e]; exact hpp
    · rw [if_neg e, if_neg (show ¬ k = p by omega)]
      have := h1 k k0 kn e
      rw [kp] at this
      rw [lt2_iff] at this hpp ⊢
      omega
theorem down_end (l : List (Nat × Nat)) (n i : Nat) (h : DownN l n i) (hi : ∀ k, 0 < k → k < n → (k - 1) / 2 = i → ¬ lt2 (at2 l k) (at2 l i)) : HeapN l n := fun k h0 hk => by
  by_cases e : (k - 1) / 2 = i
  · rw [e]; exact hi k h0 hk e
  · exact h.1 k h0 hk e
theorem down_step (l : List (Nat × Nat)) (n i j : Nat) (hn : n ≤ l.length) (hj : j < n) (h0 : 0 < j) (hji : (j - 1) / 2 = i) (h : DownN l n i) (hlt : lt2 (at2 l j) (at2 l i)) (hleast : ∀ k, 0 < k → k < n → (k - 1) / 2 = i → ¬ lt2 (at2 l k) (at2 l j)) :
    DownN (swp (0, 0) l i j) n j := by
  obtain ⟨h1, h2⟩ := h
  have hs := fun k => swp_at l i j k (by omega) (by omega)
  refine ⟨fun k k0 kn kp => ?_, fun _ k k0 kn kp => ?_⟩
  · rw [hs, hs]
    by_cases e : k = j
    · subst e
      rw [if_pos rfl, hji, if_neg (by omega), if_pos rfl]
      rw [lt2_iff] at hlt ⊢
      omega
    · rw [if_neg e, if_neg kp]
      by_cases e2 : (k - 1) / 2 = i
      · rw [if_pos e2, if_neg (show ¬ k = i by omega)]
        exact hleast k k0 kn e2
      · rw [if_neg e2]
        by_cases e3 : k = i
        · rw [if_pos e3]
          have := h2 (by omega) j h0 hj hji
          rw [e3]
          exact this
        · rw [if_neg e3]
          exact h1 k k0 kn e2
  · rw [hs, hs, hji, if_neg (show ¬ k = j by omega), if_neg (show ¬ k = i by omega), if_neg (show ¬ i = j by omega), if_pos rfl]
    have := h1 k k0 kn (by omega)
    rw [kp] at this
    exact this
theorem heap_least (l : List (Nat × Nat)) (n : Nat) (h : HeapN l n) : ∀ k, k < n → ¬ lt2 (at2 l k) (at2 l 0) := by
  intro k
  induction k using Nat.strongRecOn with
  | _ k ih =>
    intro hk
    by_cases e : k = 0
    · subst e
      rw [lt2_iff]
      omega
    · have h1 := h k (by omega) hk
      have h2 := ih ((k - 1) / 2) (by omega) (by omega)
      rw [lt2_iff] at h1 h2 ⊢
      omega
/-- A heap with one more behind it. -/
theorem heap_push (l : List (Nat × Nat)) (x : Nat × Nat) (h : HeapN l l.length) : UpN (l ++ [x]) (l.length + 1) l.length := by
  have hg : ∀ k, k < l.length → at2 (l ++ [x]) k = at2 l k := fun k hk => by
    unfold at2
    rw [List.getElem?_append_left hk]
  refine ⟨fun k k0 kn kj => ?_, fun h0 k k0 kn kp => by omega⟩
  rw [hg k (by omega), hg ((k - 1) / 2) (by omega)]
  exact h k k0 (by omega)
/-- The first and the last changed round: a heap of the others, but for the first. -/
theorem heap_pop (l : List (Nat × Nat)) (n : Nat) (hn : l.length = n + 1) (h : HeapN l (n + 1)) : DownN (swp (0, 0) l 0 n) n 0 := by
  have hs := fun k => swp_at l 0 n k (by omega) (by omega)
  refine ⟨fun k k0 kn kp => ?_, fun h0 => by omega⟩
  rw [hs, hs, if_neg (by omega), if_neg (by omega), if_neg (by omega), if_neg kp]
  exact h k k0 (by omega)
theorem heap_take (l : List (Nat × Nat)) (n : Nat) (h : HeapN l n) : HeapN (l.take n) n := fun k k0 kn => by
  have hg : ∀ k, k < n → at2 (l.take n) k = at2 l k := fun k hk => by
    unfold at2
    rw [List.getElem?_take, if_pos hk]
  rw [hg k kn, hg _ (by omega)]
  exact h k k0 kn
end Go.Proofs.Ytmcobnbahkoopaa.Bm
