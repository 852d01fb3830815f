/-
  Plain mathematics for layer 11 (chain): how many bytes are the same, what is noted, the longest match; it speaks of no program. No condition.
-/
import Derived.Test.YtjcehdibklndkaaMg
namespace Go.Proofs.Ytjcehdibklndkaa.Bm

/-- How many elements two lists begin with that are the same. -/
def sameL : List Nat → List Nat → Nat
  | a :: x, b :: y => if a = b then 1 + sameL x y else 0
  | _, _ => 0
/-- .. of a text, from two places on. -/
def sameN (T : List Nat) (a b : Nat) : Nat := sameL (T.drop a) (T.drop b)
theorem sameN_step (T : List Nat) (a b : Nat) (ha : a < T.length) (hb : b < T.length) : sameN T a b = if T[a] = T[b] then 1 + sameN T (a + 1) (b + 1) else 0 := by
  unfold sameN
  rw [List.drop_eq_getElem_cons ha, List.drop_eq_getElem_cons hb, sameL]
theorem sameN_end (T : List Nat) (a b : Nat) (h : T.length ≤ a ∨ T.length ≤ b) : sameN T a b = 0 := by
  unfold sameN
  rcases h with h | h
  · rw [List.drop_of_length_le h]; rfl
  · rw [List.drop_of_length_le h]
    cases T.drop a <;> rfl
theorem sameL_le : ∀ x y : List Nat, sameL x y ≤ x.length ∧ sameL x y ≤ y.length
  | [], y => by simp [sameL]
  | _ :: _, [] => by simp [sameL]
  | a :: x, b :: y => by
    have h := sameL_le x y
    unfold sameL
    split
    · simp only [List.length_cons]; omega
    · simp
theorem sameL_comm : ∀ x y : List Nat, sameL x y = sameL y x
  | [], [] => rfl
  | [], _ :: _ => rfl
  | _ :: _, [] => rfl
  | a :: x, b :: y => by
    unfold sameL
    rw [sameL_comm x y]
    by_cases h : a = b
    · rw [if_pos h, if_pos h.symm]
    · rw [if_neg h, if_neg (fun e => h e.symm)]
theorem sameN_le (T : List Nat) (a b : Nat) : sameN T a b ≤ T.length - a ∧ sameN T a b ≤ T.length - b := by
  have h := sameL_le (T.drop a) (T.drop b)
  rw [List.length_drop, List.length_drop] at h
  exact h
def sameI (T : List Nat) (a b : Int) : Nat := if 0 ≤ a ∧ 0 ≤ b ∧ a ≤ T.length ∧ b ≤ T.length then sameN T a.toNat b.toNat else 0
theorem sameI_comm (T : List Nat) (a b : Int) : sameI T a b = sameI T b a := by
  unfold sameI sameN
  rw [sameL_comm]
  by_cases h : 0 ≤ a ∧ 0 ≤ b ∧ a ≤ T.length ∧ b ≤ T.length
  · rw [if_pos h, if_pos (by omega)]
  · rw [if_neg h, if_neg (by omega)]
/-- Are there three bytes? -/
def rightI (T : List Nat) (a : Int) : Bool := decide (0 ≤ a ∧ a + 3 ≤ T.length)
/-- May this place be noted? Then it comes last. -/
def noteB (T : List Nat) (P : List Nat) (a : Int) : Bool := rightI T a && !P.any (fun p => decide ((p : Int) = a))
def noteP (T : List Nat) (P : List Nat) (a : Int) : List Nat := if noteB T P a then P ++ [a.toNat] else P
/-- The first three bytes from a place on. -/
def three (T : List Nat) (p : Nat) : List Nat := (T.take (p + 3)).drop p
/-- The longest match among these places, the last one first: how far ahead, how long; what was found till now, and how many were looked at. -/
def findL (T : List Nat) (a : Nat) (depth : Int) : List Nat → Nat → Nat → Nat → Nat × Nat
  | [], o, n, _ => (o, n)
  | p :: ps, o, n, s =>
    if three T p ≠ three T a then findL T a depth ps o n s
    else if depth < ((s + 1 : Nat) : Int) ∨ 1000 < s + 1 then (o, n)
    else if a ≤ p then findL T a depth ps o n (s + 1)
    else if n < sameN T p a ∨ (sameN T p a = n ∧ a - p < o) then findL T a depth ps (a - p) (sameN T p a) (s + 1)
    else findL T a depth ps o n (s + 1)
def findI (T : List Nat) (P : List Nat) (a depth : Int) : Nat × Nat := if rightI T a then findL T a.toNat depth P.reverse 0 0 0 else (0, 0)
/-- Places that were noted. -/
def Places (T : List Nat) (P : List Nat) : Prop := ∀ p ∈ P, p + 3 ≤ T.length
theorem places_note (T P : List Nat) (a : Int) (h : Places T P) : Places T (noteP T P a) := by
  unfold noteP
  split
  · next hn =>
    intro p hp
    rcases List.mem_append.1 hp with hp | hp
    · exact h p hp
    · rw [List.mem_singleton.1 hp]
      unfold noteB rightI at hn
      simp only [Bool.and_eq_true, decide_eq_true_eq] at hn
      omega
  · exact h
theorem note_length (T P : List Nat) (a : Int) : (noteP T P a).length ≤ P.length + 1 := by
  unfold noteP
  split
  · simp
  · omega
end Go.Proofs.Ytjcehdibklndkaa.Bm
