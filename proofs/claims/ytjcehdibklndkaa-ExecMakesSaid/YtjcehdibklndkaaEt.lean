/-
  Plain mathematics for layer 11 (chain): what was found is the longest match of all places noted; it speaks of no program. No condition.
-/
import Derived.Test.YtjcehdibklndkaaEm
namespace Go.Proofs.Ytjcehdibklndkaa.Bm

theorem three_eq (T : List Nat) (p : Nat) (h : p + 3 ≤ T.length) : three T p = [T[p], T[p + 1], T[p + 2]] := by
  unfold three
  rw [List.drop_take, List.drop_eq_getElem_cons (by omega), List.drop_eq_getElem_cons (by omega : p + 1 < T.length), List.drop_eq_getElem_cons (by omega : p + 1 + 1 < T.length), show p + 3 - p = 3 by omega]
  rfl
theorem three_iff (T : List Nat) (p k : Nat) (hp : p + 3 ≤ T.length) (hk : k + 3 ≤ T.length) : three T p = three T k ↔ 3 ≤ sameN T p k := by
  rw [three_eq T p hp, three_eq T k hk, sameN_step T p k (by omega) (by omega)]
  by_cases h0 : T[p] = T[k]
  · rw [if_pos h0, sameN_step T (p + 1) (k + 1) (by omega) (by omega)]
    by_cases h1 : T[p + 1] = T[k + 1]
    · rw [if_pos h1, sameN_step T (p + 1 + 1) (k + 1 + 1) (by omega) (by omega)]
      by_cases h2 : T[p + 1 + 1] = T[k + 1 + 1]
      · rw [if_pos h2]
        constructor
        · intro _; omega
        · intro _
          rw [h0, h1]
          have : T[p + 2] = T[k + 2] := h2
          rw [this]
      · rw [if_neg h2]
        constructor
        · intro e
          simp only [List.cons.injEq] at e
          exact absurd e.2.2.1 h2
        · intro h; omega
    · rw [if_neg h1]
      constructor
      · intro e
        simp only [List.cons.injEq] at e
        exact absurd e.2.1 h1
      · intro h; omega
  · rw [if_neg h0]
    constructor
    · intro e
      simp only [List.cons.injEq] at e
      exact absurd e.1 h0
    · intro h; omega
theorem sameL_take : ∀ x y : List Nat, x.take (sameL x y) = y.take (sameL x y)
  | [], y => by simp [sameL]
  | _ :: _, [] => by simp [sameL]
  | a :: x, b :: y => by
    unfold sameL
    by_cases h : a = b
    · rw [if_pos h, Nat.add_comm, List.take_succ_cons, List.take_succ_cons, h, sameL_take x y]
    · rw [if_neg h]; rfl
theorem sameN_cut (T : List Nat) (a b n : Nat) (h : sameN T a b = n) : (T.take (a + n)).drop a = (T.take (b + n)).drop b := by
  rw [List.drop_take, List.drop_take, Nat.add_sub_cancel_left, Nat.add_sub_cancel_left, ← h]
  exact sameL_take _ _
/-- The longest match of these places. -/
def bestL (T : List Nat) (k : Nat) : List Nat → Nat
  | [] => 0
  | p :: ps => if 3 ≤ sameN T p k then max (bestL T k ps) (sameN T p k) else bestL T k ps
theorem findL_best (T : List Nat) (k : Nat) (hk : k + 3 ≤ T.length) : ∀ (ps : List Nat) (o n s : Nat), (∀ p ∈ ps, p < k) → s + ps.length ≤ 1000 →
    (findL T k 1000 ps o n s).2 = max n (bestL T k ps) ∧ (findL T k 1000 ps o n s = (o, n) ∨ ∃ p, p < k ∧ findL T k 1000 ps o n s = (k - p, sameN T p k) ∧ 3 ≤ sameN T p k)
  | [], o, n, s, _, _ => by simp [findL, bestL]
  | p :: ps, o, n, s, hlt, hs => by
    have hp := hlt p List.mem_cons_self
    have hlt2 : ∀ x ∈ ps, x < k := fun x hx => hlt x (List.mem_cons_of_mem _ hx)
    rw [List.length_cons] at hs
    have h3 := three_iff T p k (by omega) hk
    rw [findL, bestL]
    by_cases hA : three T p = three T k
    · have hA3 := h3.1 hA
      rw [if_neg (fun h => h hA), if_neg (by omega), if_neg (by omega), if_pos hA3]
      by_cases hB : n < sameN T p k ∨ (sameN T p k = n ∧ k - p < o)
      · rw [if_pos hB]
        obtain ⟨h1, h2⟩ := findL_best T k hk ps (k - p) (sameN T p k) (s + 1) hlt2 (by omega)
        refine ⟨by rw [h1]; omega, .inr ?_⟩
        rcases h2 with h2 | h2
        · exact ⟨p, hp, h2, hA3⟩
        · exact h2
      · rw [if_neg hB]
        obtain ⟨h1, h2⟩ := findL_best T k hk ps o n (s + 1) hlt2 (by omega)
        refine ⟨by rw [h1]; omega, h2⟩
    · rw [if_pos hA, if_neg (fun h => hA (h3.2 h))]
      exact findL_best T k hk ps o n s hlt2 (by omega)
/-- All the places below one, noted in their order. -/
def notesN (T : List Nat) : Nat → List Nat
  | 0 => []
  | i + 1 => noteP T (notesN T i) (i : Int)
theorem notesN_eq (T : List Nat) : ∀ m, notesN T m = List.range (min m (T.length - 2))
  | 0 => by simp [notesN]
  | m + 1 => by
    rw [notesN, notesN_eq T m, noteP, noteB, rightI]
    by_cases h : m + 3 ≤ T.length
    · have hn : ((List.range (min m (T.length - 2))).any fun p => decide ((p : Int) = (m : Int))) = false := by
        rw [List.any_eq_false]
        intro p hp
        rw [List.mem_range] at hp
        simp only [decide_eq_true_eq]
        omega
      rw [hn, if_pos (by simp; omega), Int.toNat_natCast, show min m (T.length - 2) = m by omega, show min (m + 1) (T.length - 2) = m + 1 by omega, List.range_succ]
    · rw [if_neg (by simp; omega), show min m (T.length - 2) = min (m + 1) (T.length - 2) by omega]
def bestN (T : List Nat) (k : Nat) : Nat → Nat
  | 0 => 0
  | i + 1 => if 3 ≤ sameI T (i : Int) (k : Int) then max (bestN T k i) (sameI T (i : Int) (k : Int)) else bestN T k i
theorem bestN_le (T : List Nat) (k : Nat) : ∀ m, bestN T k m ≤ T.length
  | 0 => Nat.zero_le _
  | m + 1 => by
    have h := bestN_le T k m
    have h2 : sameI T (m : Int) (k : Int) ≤ T.length := by
      unfold sameI
      split
      · have := (sameN_le T (m : Int).toNat (k : Int).toNat).1; omega
      · omega
    rw [bestN]
    split <;> omega
theorem bestN_none (T : List Nat) (k : Nat) (hk : ¬ k + 3 ≤ T.length) : ∀ m, bestN T k m = 0
  | 0 => rfl
  | m + 1 => by
    have h2 : sameI T (m : Int) (k : Int) < 3 := by
      unfold sameI
      split
      · have := (sameN_le T (m : Int).toNat (k : Int).toNat).2; omega
      · omega
    rw [bestN, if_neg (by omega), bestN_none T k hk m]
theorem bestN_L (T : List Nat) (k : Nat) (hk : k ≤ T.length) : ∀ m, m ≤ k → bestN T k m = bestL T k (List.range m).reverse
  | 0, _ => rfl
  | m + 1, hm => by
    have e : sameI T (m : Int) (k : Int) = sameN T m k := by rw [sameI, if_pos (by omega), Int.toNat_natCast, Int.toNat_natCast]
    rw [List.range_succ, List.reverse_append, List.reverse_singleton, List.singleton_append, bestL, bestN, e, bestN_L T k hk m (by omega)]
/-- What is found behind all places below, looked at deep enough: the longest match. -/
theorem find_best (T : List Nat) (k : Nat) (hT : T.length ≤ 200) :
    (findI T (notesN T (min k T.length)) (k : Int) 1000).2 = bestN T k (min k T.length) ∧
    (findI T (notesN T (min k T.length)) (k : Int) 1000 = (0, 0) ∨ ∃ p, p < k ∧ findI T (notesN T (min k T.length)) (k : Int) 1000 = (k - p, sameN T p k) ∧ 3 ≤ sameN T p k) := by
  rw [findI, rightI]
  by_cases h : k + 3 ≤ T.length
  · rw [if_pos (by simp; omega), notesN_eq, Int.toNat_natCast, show min (min k T.length) (T.length - 2) = k by omega, show min k T.length = k by omega]
    obtain ⟨h1, h2⟩ := findL_best T k h (List.range k).reverse 0 0 0 (by intro p hp; simpa using hp) (by simp; omega)
    refine ⟨?_, h2⟩
    rw [h1, bestN_L T k (by omega) k (Nat.le_refl _)]
    omega
  · rw [if_neg (by simp; omega)]
    exact ⟨(bestN_none T k h _).symm, .inl rfl⟩
end Go.Proofs.Ytjcehdibklndkaa.Bm
