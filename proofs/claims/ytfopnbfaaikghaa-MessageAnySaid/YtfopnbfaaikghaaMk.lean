/-
  The reference of layer 25 (message): Right, by its walk. No condition.
-/
import Derived.Test.YtfopnbfaaikghaaMi
namespace Go.Proofs.Ytfopnbfaaikghaa
open Go.RowKit

set_option linter.unusedSimpArgs false in
set_option maxHeartbeats 8000000 in
set_option maxRecDepth 100000 in
theorem rmright_any (m : Msg) (w : World) : Calls Try.prog 7 #[msV m] w fun e w' => e = .returned (.bool (rightR m)) ∧ Below w.heap.size w w' := by
  obtain ⟨k, n, ep, z, s, d⟩ := m
  have hsz := strOf_size d
  have hemp := emptyB d
  have hR : rightR ⟨k, n, ep, z, s, d⟩ = (if n < 0 ∨ 400 < n ∨ ep < 0 ∨ 1073741824 < ep ∨ z < 0 ∨ 1048576 < z then false
      else if k = 1 ∨ k = 2 then decide (z = 0) && (decide (s = 0) && decide (d = []))
      else if k = 3 then decide (n = 0) && (decide (z = 0) && (decide (s = 0) && (!decide (ep = 0) && decide (d.length ≤ 300))))
      else if k = 4 ∨ k = 5 then decide (n = 0) && (decide (z = 0) && (decide (s = 0) && (!decide (ep = 0) && decide (d = []))))
      else if k = 6 then decide (ep = 0) && (decide (z = 0) && (decide (s = 0) && decide (d.length ≤ 600)))
      else if k = 7 then decide (ep = 0) && (decide (z = 0) && (decide (s = 0) && decide (d = [])))
      else if k = 8 then decide (ep = 0) && decide (d = [])
      else if k = 9 then decide (n = 0) && (decide (ep = 0) && (decide (s = 0) && (!decide (d = []) && decide (d.length ≤ 200))))
      else if k = 10 then decide (n = 0) && (decide (ep = 0) && (decide (z = 0) && (decide (s = 0) && decide (d = []))))
      else false) := rfl
  generalize rightR ⟨k, n, ep, z, s, d⟩ = R at *
  unfold msV
  dsimp only [msL]
  generalize hdn : decide (d = []) = dn at *
  generalize strOf d = ds at *
  generalize d.length = L at *
  clear hdn
  go_enter Try.func7, Try.ntmps7
  by_cases b1 : n < 0
  · rw [if_pos (.inl b1)] at hR
    subst hR
    go_wp2
    go_ret
    exact ⟨rfl, (Below.refl _ _).alloc (Nat.le_refl _) _⟩
  by_cases b2 : 400 < n
  · rw [if_pos (.inr (.inl b2))] at hR
    subst hR
    go_wp2
    go_ret
    exact ⟨rfl, (Below.refl _ _).alloc (Nat.le_refl _) _⟩
  by_cases b3 : ep < 0
  · rw [if_pos (.inr (.inr (.inl b3)))] at hR
    subst hR
    go_wp2
    go_ret
    exact ⟨rfl, (Below.refl _ _).alloc (Nat.le_refl _) _⟩
  by_cases b4 : 1073741824 < ep
  · rw [if_pos (.inr (.inr (.inr (.inl b4))))] at hR
    subst hR
    go_wp2
    go_ret
    exact ⟨rfl, (Below.refl _ _).alloc (Nat.le_refl _) _⟩
  by_cases b5 : z < 0
  · rw [if_pos (.inr (.inr (.inr (.inr (.inl b5)))))] at hR
    subst hR
    go_wp2
    go_ret
    exact ⟨rfl, (Below.refl _ _).alloc (Nat.le_refl _) _⟩
  by_cases b6 : 1048576 < z
  · rw [if_pos (.inr (.inr (.inr (.inr (.inr b6)))))] at hR
    subst hR
    go_wp2
    go_ret
    exact ⟨rfl, (Below.refl _ _).alloc (Nat.le_refl _) _⟩
  rw [if_neg (by omega)] at hR
  skip
  go_upto_region 8 with fail
  by_cases hk : k < 1 ∨ 10 < k
  · have hk0 : R = false := by
      rw [hR, if_neg (by omega), if_neg (by omega), if_neg (by omega), if_neg (by omega), if_neg (by omega), if_neg (by omega), if_neg (by omega), if_neg (by omega)]
    have n1 : ¬ k = 1 := by omega
    have n2 : ¬ k = 2 := by omega
    have n3 : ¬ k = 3 := by omega
    have n4 : ¬ k = 4 := by omega
    have n5 : ¬ k = 5 := by omega
    have n6 : ¬ k = 6 := by omega
    have n7 : ¬ k = 7 := by omega
    have n8 : ¬ k = 8 := by omega
    have n9 : ¬ k = 9 := by omega
    have n10 : ¬ k = 10 := by omega
    clear hR
    subst hk0
    go_wp2
    go_ret
    exact ⟨rfl, (Below.refl _ _).alloc (Nat.le_refl _) _⟩
  rcases kind_cases k hk with rfl | rfl | rfl | rfl | rfl | rfl | rfl | rfl | rfl | rfl
  · subst hR
    by_cases h0 : z = 0
    · skip
      by_cases h1 : (s : Int) = 0
      · skip
        have h1' : s = 0 := by omega
        go_wp2
        go_ret
        exact ⟨by simp [h0, h1'], (Below.refl _ _).alloc (Nat.le_refl _) _⟩
      · skip
        have h1' : ¬ s = 0 := by omega
        go_wp2
        go_ret
        exact ⟨by simp [h0, h1'], (Below.refl _ _).alloc (Nat.le_refl _) _⟩
    · skip
      go_wp2
      go_ret
      exact ⟨by simp [h0], (Below.refl _ _).alloc (Nat.le_refl _) _⟩
  · subst hR
    by_cases h0 : z = 0
    · skip
      by_cases h1 : (s : Int) = 0
      · skip
        have h1' : s = 0 := by omega
        go_wp2
        go_ret
        exact ⟨by simp [h0, h1'], (Below.refl _ _).alloc (Nat.le_refl _) _⟩
      · skip
        have h1' : ¬ s = 0 := by omega
        go_wp2
        go_ret
        exact ⟨by simp [h0, h1'], (Below.refl _ _).alloc (Nat.le_refl _) _⟩
    · skip
      go_wp2
      go_ret
      exact ⟨by simp [h0], (Below.refl _ _).alloc (Nat.le_refl _) _⟩
  · subst hR
    by_cases h0 : n = 0
    · skip
      by_cases h1 : z = 0
      · skip
        by_cases h2 : (s : Int) = 0
        · skip
          have h2' : s = 0 := by omega
          by_cases h3 : ep = 0
          · skip
            go_wp2
            go_ret
            exact ⟨by simp [h0, h1, h2', h3], (Below.refl _ _).alloc (Nat.le_refl _) _⟩
          · skip
            by_cases h4 : (L : Int) ≤ 300
            · skip
              have h4' : L ≤ 300 := by omega
              go_wp2
              go_ret
              exact ⟨by simp [h0, h1, h2', h3, h4'], (Below.refl _ _).alloc (Nat.le_refl _) _⟩
            · skip
              have h4' : ¬ L ≤ 300 := by omega
              go_wp2
              go_ret
              exact ⟨by simp [h0, h1, h2', h3, h4'], (Below.refl _ _).alloc (Nat.le_refl _) _⟩
        · skip
          have h2' : ¬ s = 0 := by omega
          go_wp2
          go_ret
          exact ⟨by simp [h0, h1, h2'], (Below.refl _ _).alloc (Nat.le_refl _) _⟩
      · skip
        go_wp2
        go_ret
        exact ⟨by simp [h0, h1], (Below.refl _ _).alloc (Nat.le_refl _) _⟩
    · skip
      go_wp2
      go_ret
      exact ⟨by simp [h0], (Below.refl _ _).alloc (Nat.le_refl _) _⟩
  · subst hR
    by_cases h0 : n = 0
    · skip
      by_cases h1 : z = 0
      · skip
        by_cases h2 : (s : Int) = 0
        · skip
          have h2' : s = 0 := by omega
          by_cases h3 : ep = 0
          · skip
            go_wp2
            go_ret
            exact ⟨by simp [h0, h1, h2', h3], (Below.refl _ _).alloc (Nat.le_refl _) _⟩
          · skip
            go_wp2
            go_ret
            exact ⟨by simp [h0, h1, h2', h3], (Below.refl _ _).alloc (Nat.le_refl _) _⟩
        · skip
          have h2' : ¬ s = 0 := by omega
          go_wp2
          go_ret
          exact ⟨by simp [h0, h1, h2'], (Below.refl _ _).alloc (Nat.le_refl _) _⟩
      · skip
        go_wp2
        go_ret
        exact ⟨by simp [h0, h1], (Below.refl _ _).alloc (Nat.le_refl _) _⟩
    · skip
      go_wp2
      go_ret
      exact ⟨by simp [h0], (Below.refl _ _).alloc (Nat.le_refl _) _⟩
  · subst hR
    by_cases h0 : n = 0
    · skip
      by_cases h1 : z = 0
      · skip
        by_cases h2 : (s : Int) = 0
        · skip
          have h2' : s = 0 := by omega
          by_cases h3 : ep = 0
          · skip
            go_wp2
            go_ret
            exact ⟨by simp [h0, h1, h2', h3], (Below.refl _ _).alloc (Nat.le_refl _) _⟩
          · skip
            go_wp2
            go_ret
            exact ⟨by simp [h0, h1, h2', h3], (Below.refl _ _).alloc (Nat.le_refl _) _⟩
        · skip
          have h2' : ¬ s = 0 := by omega
          go_wp2
          go_ret
          exact ⟨by simp [h0, h1, h2'], (Below.refl _ _).alloc (Nat.le_refl _) _⟩
      · skip
        go_wp2
        go_ret
        exact ⟨by simp [h0, h1], (Below.refl _ _).alloc (Nat.le_refl _) _⟩
    · skip
      go_wp2
      go_ret
      exact ⟨by simp [h0], (Below.refl _ _).alloc (Nat.le_refl _) _⟩
  · subst hR
    by_cases h0 : ep = 0
    · skip
      by_cases h1 : z = 0
      · skip
        by_cases h2 : (s : Int) = 0
        · skip
          have h2' : s = 0 := by omega
          by_cases h3 : (L : Int) ≤ 600
          · skip
            have h3' : L ≤ 600 := by omega
            go_wp2
            go_ret
            exact ⟨by simp [h0, h1, h2', h3'], (Below.refl _ _).alloc (Nat.le_refl _) _⟩
          · skip
            have h3' : ¬ L ≤ 600 := by omega
            go_wp2
            go_ret
            exact ⟨by simp [h0, h1, h2', h3'], (Below.refl _ _).alloc (Nat.le_refl _) _⟩
        · skip
          have h2' : ¬ s = 0 := by omega
          go_wp2
          go_ret
          exact ⟨by simp [h0, h1, h2'], (Below.refl _ _).alloc (Nat.le_refl _) _⟩
      · skip
        go_wp2
        go_ret
        exact ⟨by simp [h0, h1], (Below.refl _ _).alloc (Nat.le_refl _) _⟩
    · skip
      go_wp2
      go_ret
      exact ⟨by simp [h0], (Below.refl _ _).alloc (Nat.le_refl _) _⟩
  · subst hR
    by_cases h0 : ep = 0
    · skip
      by_cases h1 : z = 0
      · skip
        by_cases h2 : (s : Int) = 0
        · skip
          have h2' : s = 0 := by omega
          go_wp2
          go_ret
          exact ⟨by simp [h0, h1, h2'], (Below.refl _ _).alloc (Nat.le_refl _) _⟩
        · skip
          have h2' : ¬ s = 0 := by omega
          go_wp2
          go_ret
          exact ⟨by simp [h0, h1, h2'], (Below.refl _ _).alloc (Nat.le_refl _) _⟩
      · skip
        go_wp2
        go_ret
        exact ⟨by simp [h0, h1], (Below.refl _ _).alloc (Nat.le_refl _) _⟩
    · skip
      go_wp2
      go_ret
      exact ⟨by simp [h0], (Below.refl _ _).alloc (Nat.le_refl _) _⟩
  · subst hR
    by_cases h0 : ep = 0
    · skip
      go_wp2
      go_ret
      exact ⟨by simp [h0], (Below.refl _ _).alloc (Nat.le_refl _) _⟩
    · skip
      go_wp2
      go_ret
      exact ⟨by simp [h0], (Below.refl _ _).alloc (Nat.le_refl _) _⟩
  · subst hR
    by_cases h0 : n = 0
    · skip
      by_cases h1 : ep = 0
      · skip
        by_cases h2 : (s : Int) = 0
        · skip
          have h2' : s = 0 := by omega
          rcases dn with _ | _
          · skip
            by_cases h4 : (L : Int) ≤ 200
            · skip
              have h4' : L ≤ 200 := by omega
              go_wp2
              go_ret
              exact ⟨by simp [h0, h1, h2', h4'], (Below.refl _ _).alloc (Nat.le_refl _) _⟩
            · skip
              have h4' : ¬ L ≤ 200 := by omega
              go_wp2
              go_ret
              exact ⟨by simp [h0, h1, h2', h4'], (Below.refl _ _).alloc (Nat.le_refl _) _⟩
          · skip
            go_wp2
            go_ret
            exact ⟨by simp [h0, h1, h2'], (Below.refl _ _).alloc (Nat.le_refl _) _⟩
        · skip
          have h2' : ¬ s = 0 := by omega
          go_wp2
          go_ret
          exact ⟨by simp [h0, h1, h2'], (Below.refl _ _).alloc (Nat.le_refl _) _⟩
      · skip
        go_wp2
        go_ret
        exact ⟨by simp [h0, h1], (Below.refl _ _).alloc (Nat.le_refl _) _⟩
    · skip
      go_wp2
      go_ret
      exact ⟨by simp [h0], (Below.refl _ _).alloc (Nat.le_refl _) _⟩
  · subst hR
    by_cases h0 : n = 0
    · skip
      by_cases h1 : ep = 0
      · skip
        by_cases h2 : z = 0
        · skip
          by_cases h3 : (s : Int) = 0
          · skip
            have h3' : s = 0 := by omega
            go_wp2
            go_ret
            exact ⟨by simp [h0, h1, h2, h3'], (Below.refl _ _).alloc (Nat.le_refl _) _⟩
          · skip
            have h3' : ¬ s = 0 := by omega
            go_wp2
            go_ret
            exact ⟨by simp [h0, h1, h2, h3'], (Below.refl _ _).alloc (Nat.le_refl _) _⟩
        · skip
          go_wp2
          go_ret
          exact ⟨by simp [h0, h1, h2], (Below.refl _ _).alloc (Nat.le_refl _) _⟩
      · skip
        go_wp2
        go_ret
        exact ⟨by simp [h0, h1], (Below.refl _ _).alloc (Nat.le_refl _) _⟩
    · skip
      go_wp2
      go_ret
      exact ⟨by simp [h0], (Below.refl _ _).alloc (Nat.le_refl _) _⟩
end Go.Proofs.Ytfopnbfaaikghaa
