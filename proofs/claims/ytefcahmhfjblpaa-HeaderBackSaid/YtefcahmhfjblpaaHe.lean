/-
  Layer 8 (header): what the reference's Short cuts off. Conditions: as each theorem's premises say.
-/
import Derived.Test.YtefcahmhfjblpaaHs
namespace Go.Proofs.Ytefcahmhfjblpaa
open Go.RowKit
namespace Bm
theorem short_take : ∀ (ls : List Nat) (k : Nat), k ≤ ls.length → (∀ j, k ≤ j → ls[j]?.getD 0 = 0) → (k = 0 ∨ ls[k - 1]?.getD 0 ≠ 0) → shortL ls = ls.take k
  | [], k, hk, _, _ => by simp [shortL]
  | n :: l, k, hk, hz, hl => by
    have hsum : ∀ l : List Nat, (∀ j, l[j]?.getD 0 = 0) → l.sum = 0 := fun l => by
      induction l with
      | nil => simp
      | cons a l ih =>
        intro h
        have h0 := h 0
        rw [List.getElem?_cons_zero, Option.getD_some] at h0
        rw [List.sum_cons, h0, ih (fun j => by have := h (j + 1); rwa [List.getElem?_cons_succ] at this)]
    have hsum2 : ∀ (l : List Nat) (j : Nat), l.sum = 0 → l[j]?.getD 0 = 0 := fun l => by
      induction l with
      | nil => intro j _; simp
      | cons a l ih =>
        intro j h
        rw [List.sum_cons] at h
        cases j with
        | zero => rw [List.getElem?_cons_zero, Option.getD_some]; omega
        | succ j => rw [List.getElem?_cons_succ]; exact ih j (by omega)
    unfold shortL
    rcases k with _ | k
    · rw [if_pos (by have := hsum (n :: l) (fun j => hz j (by omega)); rwa [List.sum_cons] at this), List.take_zero]
    · have hne : ¬ (n + l.sum = 0) := fun h => by
        rcases hl with h1 | h1
        · omega
        · exact h1 (hsum2 (n :: l) _ (by rw [List.sum_cons]; exact h))
      rw [if_neg hne, List.take_succ_cons]
      congr 1
      refine short_take l k (by simpa using hk) (fun j hj => by have := hz (j + 1) (by omega); rwa [List.getElem?_cons_succ] at this) ?_
      rcases hl with h1 | h1
      · omega
      · rcases k with _ | k
        · exact .inl rfl
        · refine .inr ?_
          rw [Nat.add_sub_cancel, List.getElem?_cons_succ] at h1
          rw [Nat.add_sub_cancel]
          exact h1
end Bm
/-- What the reference's Short cuts off is what has no bits. -/
theorem short_ends (ls : List Nat) (k : Nat) (h : EndsAt (ls.map (fun n : Nat => (n : Int))) k) : Bm.shortL ls = ls.take k ∧ k = (Bm.shortL ls).length ∧ k ≤ ls.length := by
  obtain ⟨h1, h2, h3⟩ := h
  rw [List.length_map] at h1
  have e : Bm.shortL ls = ls.take k := by
    refine Bm.short_take ls k h1 (fun j hj => ?_) ?_
    · rcases Nat.lt_or_ge j ls.length with h4 | h4
      · have h5 := h2 j (by rw [List.length_map]; exact h4) hj
        rw [List.getElem_map] at h5
        rw [List.getElem?_eq_getElem h4, Option.getD_some]
        omega
      · rw [List.getElem?_eq_none h4]; rfl
    · rcases h3 with h4 | ⟨h4, h5⟩
      · exact .inl h4
      · right
        rw [List.length_map] at h4
        rw [List.getElem_map] at h5
        rw [List.getElem?_eq_getElem h4, Option.getD_some]
        omega
  exact ⟨e, by rw [e, List.length_take]; omega, h1⟩
theorem reads_take {w : World} {A : Option Addr} {xs : List Value} (h : Reads w A xs) (k : Nat) : Reads w A (xs.take k) := fun hne => by
  obtain ⟨g, off, e, hc⟩ := h (by rintro rfl; simp at hne)
  refine ⟨g, off, e, fun j hj => ?_⟩
  rw [List.length_take] at hj
  rw [hc j (by omega), List.getElem?_take, if_pos (by omega)]
end Go.Proofs.Ytefcahmhfjblpaa
