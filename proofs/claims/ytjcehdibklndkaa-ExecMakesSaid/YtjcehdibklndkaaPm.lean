/-
  Plain mathematics for layer 12 (parse): steps of a text, what they leave, the steps that the program makes; it speaks of no program. No condition.
-/
import Derived.Test.YtjcehdibklndkaaEt
namespace Go.Proofs.Ytjcehdibklndkaa.Bm

/-- A step: literals, match, offset. -/
abbrev Stp := Nat × Nat × Nat
/-- These steps make the text, from a place on. -/
def OkS (T : List Nat) : Nat → List Stp → Prop
  | a, [] => a ≤ T.length
  | a, s :: l => 3 ≤ s.2.1 ∧ 1 ≤ s.2.2 ∧ s.2.2 ≤ a + s.1 ∧ a + s.1 + s.2.1 ≤ T.length ∧ (T.take (a + s.1 - s.2.2 + s.2.1)).drop (a + s.1 - s.2.2) = (T.take (a + s.1 + s.2.1)).drop (a + s.1) ∧ OkS T (a + s.1 + s.2.1) l
/-- Where steps end. -/
def endS : Nat → List Stp → Nat
  | a, [] => a
  | a, s :: l => endS (a + s.1 + s.2.1) l
theorem endS_ge : ∀ (l : List Stp) (a : Nat), a ≤ endS a l
  | [], a => Nat.le_refl a
  | s :: l, a => by
    have := endS_ge l (a + s.1 + s.2.1)
    rw [endS]
    omega
theorem endS_add : ∀ (l : List Stp) (d a : Nat), endS (d + a) l = d + endS a l
  | [], _, _ => rfl
  | s :: l, d, a => by
    rw [endS, endS, ← endS_add l d, show d + a + s.1 + s.2.1 = d + (a + s.1 + s.2.1) by omega]
theorem ok_end (T : List Nat) : ∀ (l : List Stp) (a : Nat), OkS T a l → endS a l ≤ T.length
  | [], _, h => h
  | _ :: l, _, h => ok_end T l _ h.2.2.2.2.2
/-- The bytes that steps leave. -/
def litS (T : List Nat) : Nat → List Stp → List Nat
  | a, [] => T.drop a
  | a, s :: l => (T.take (a + s.1)).drop a ++ litS T (a + s.1 + s.2.1) l
/-- How many bytes matches have. -/
def sumS : List Stp → Nat
  | [] => 0
  | s :: l => s.2.1 + sumS l
theorem litS_length (T : List Nat) : ∀ (l : List Stp) (a : Nat), endS a l ≤ T.length → a + (litS T a l).length + sumS l = T.length
  | [], a, h => by
    rw [endS] at h
    rw [litS, sumS, List.length_drop]
    omega
  | s :: l, a, h => by
    rw [endS] at h
    have h1 := endS_ge l (a + s.1 + s.2.1)
    have h2 := litS_length T l (a + s.1 + s.2.1) h
    rw [litS, sumS, List.length_append, List.length_drop, List.length_take]
    omega
/-- .. seen by one who cuts the text step by step. -/
theorem litS_cut (T : List Nat) : ∀ (l : List Stp) (a d : Nat), litS T (d + a) l = litS (T.drop d) a l
  | [], a, d => by rw [litS, litS, List.drop_drop]
  | s :: l, a, d => by
    rw [litS, litS, ← litS_cut T l (a + s.1 + s.2.1) d, show d + a + s.1 + s.2.1 = d + (a + s.1 + s.2.1) by omega]
    refine congrArg (· ++ _) ?_
    rw [List.take_drop, List.drop_drop, Nat.add_assoc]
theorem litS_lt {T : List Nat} (hT : ∀ x ∈ T, x < 256) : ∀ (l : List Stp) (a : Nat), ∀ x ∈ litS T a l, x < 256
  | [], _, x, hx => hT x (List.mem_of_mem_drop hx)
  | _ :: l, _, x, hx => (List.mem_append.1 hx).elim (fun h => hT x (List.mem_of_mem_take (List.mem_of_mem_drop h))) (litS_lt hT l _ x)
/-- So many places from one on are noted. -/
def notesF (T : List Nat) : List Nat → Nat → Nat → List Nat
  | P, _, 0 => P
  | P, a, n + 1 => notesF T (noteP T P (a : Int)) (a + 1) n
theorem places_notes (T : List Nat) : ∀ (n : Nat) (P : List Nat) (a : Nat), Places T P → Places T (notesF T P a n)
  | 0, _, _, h => h
  | n + 1, P, _, h => places_notes T n _ _ (places_note T P _ h)
/-- The steps that are made from a place on: so many places at most, what is noted, how many literals are ahead. -/
def stepsN (T : List Nat) (D : Int) : Nat → Nat → List Nat → Nat → List Stp
  | 0, _, _, _ => []
  | k + 1, a, P, n =>
    if T.length ≤ a then [] else
    if (findI T P (a : Int) D).2 = 0 ∨ (findI T P (a : Int) D).2 < (findI T (noteP T P (a : Int)) ((a : Int) + 1) D).2 then stepsN T D k (a + 1) (noteP T P (a : Int)) (n + 1)
    else (n, (findI T P (a : Int) D).2, (findI T P (a : Int) D).1) :: stepsN T D k (a + (findI T P (a : Int) D).2) (notesF T (noteP T P (a : Int)) (a + 1) ((findI T P (a : Int) D).2 - 1)) 0
theorem stepsN_succ (T : List Nat) (D : Int) (k a : Nat) (P : List Nat) (n : Nat) : stepsN T D (k + 1) a P n = if T.length ≤ a then [] else
    if (findI T P (a : Int) D).2 = 0 ∨ (findI T P (a : Int) D).2 < (findI T (noteP T P (a : Int)) ((a : Int) + 1) D).2 then stepsN T D k (a + 1) (noteP T P (a : Int)) (n + 1)
    else (n, (findI T P (a : Int) D).2, (findI T P (a : Int) D).1) :: stepsN T D k (a + (findI T P (a : Int) D).2) (notesF T (noteP T P (a : Int)) (a + 1) ((findI T P (a : Int) D).2 - 1)) 0 := rfl
/-- A match that was found. -/
theorem findL_ok (T : List Nat) (k : Nat) (D : Int) (hk : k + 3 ≤ T.length) : ∀ (ps : List Nat) (o n s : Nat), Places T ps →
    findL T k D ps o n s = (o, n) ∨ ∃ p, p < k ∧ findL T k D ps o n s = (k - p, sameN T p k) ∧ 3 ≤ sameN T p k
  | [], _, _, _, _ => .inl rfl
  | p :: ps, o, n, s, hP => by
    have hP2 : Places T ps := fun x hx => hP x (List.mem_cons_of_mem _ hx)
    rw [findL]
    by_cases hA : three T p = three T k
    · rw [if_neg (fun h => h hA)]
      have hA3 := (three_iff T p k (hP p List.mem_cons_self) hk).1 hA
      split
      · exact .inl rfl
      · split
        · exact findL_ok T k D hk ps o n (s + 1) hP2
        · next hlt =>
          split
          · rcases findL_ok T k D hk ps (k - p) (sameN T p k) (s + 1) hP2 with h | h
            · exact .inr ⟨p, by omega, h, hA3⟩
            · exact .inr h
          · exact findL_ok T k D hk ps o n (s + 1) hP2
    · rw [if_pos hA]
      exact findL_ok T k D hk ps o n s hP2
theorem find_ok (T P : List Nat) (a : Nat) (D : Int) (hP : Places T P) (h : (findI T P (a : Int) D).2 ≠ 0) :
    3 ≤ (findI T P (a : Int) D).2 ∧ 1 ≤ (findI T P (a : Int) D).1 ∧ (findI T P (a : Int) D).1 ≤ a ∧ a + (findI T P (a : Int) D).2 ≤ T.length ∧
    (T.take (a - (findI T P (a : Int) D).1 + (findI T P (a : Int) D).2)).drop (a - (findI T P (a : Int) D).1) = (T.take (a + (findI T P (a : Int) D).2)).drop a := by
  rw [findI, rightI] at h ⊢
  by_cases hr : a + 3 ≤ T.length
  · rw [if_pos (by simp; omega), Int.toNat_natCast] at h ⊢
    rcases findL_ok T a D hr P.reverse 0 0 0 (fun p hp => hP p (List.mem_reverse.1 hp)) with e | ⟨p, hp, e, h3⟩
    · rw [e] at h; exact absurd rfl h
    · rw [e]
      have h2 := (sameN_le T p a).2
      refine ⟨h3, by show 1 ≤ a - p; omega, by show a - p ≤ a; omega, by show a + sameN T p a ≤ T.length; omega, ?_⟩
      show (T.take (a - (a - p) + sameN T p a)).drop (a - (a - p)) = _
      rw [show a - (a - p) = p by omega]
      exact sameN_cut T p a _ rfl
  · rw [if_neg (by simp; omega)] at h
    exact absurd rfl h
theorem find_le (T P : List Nat) (a : Nat) (D : Int) (hP : Places T P) : (findI T P (a : Int) D).1 ≤ a ∧ (findI T P (a : Int) D).2 ≤ T.length := by
  rw [findI, rightI]
  by_cases hr : a + 3 ≤ T.length
  · rw [if_pos (by simp; omega), Int.toNat_natCast]
    rcases findL_ok T a D hr P.reverse 0 0 0 (fun p hp => hP p (List.mem_reverse.1 hp)) with e | ⟨p, hp, e, h3⟩
    · rw [e]; exact ⟨Nat.zero_le _, Nat.zero_le _⟩
    · rw [e]
      have h2 := (sameN_le T p a).2
      exact ⟨by show a - p ≤ a; omega, by show sameN T p a ≤ T.length; omega⟩
  · rw [if_neg (by simp; omega)]
    exact ⟨Nat.zero_le _, Nat.zero_le _⟩
/-- They make the text. -/
theorem steps_ok (T : List Nat) (D : Int) : ∀ (k a : Nat) (P : List Nat) (n : Nat), Places T P → a + n ≤ T.length → OkS T a (stepsN T D k (a + n) P n)
  | 0, a, P, n, _, h => by rw [stepsN]; show a ≤ T.length; omega
  | k + 1, a, P, n, hP, h => by
    rw [stepsN]
    split
    · show a ≤ T.length; omega
    · next hlt =>
      split
      · have h1 := steps_ok T D k a (noteP T P ((a + n : Nat) : Int)) (n + 1) (places_note T P _ hP) (by omega)
        exact h1
      · next hf =>
        obtain ⟨h1, h2, h3, h4, h5⟩ := find_ok T P (a + n) D hP (fun e => hf (.inl e))
        refine ⟨h1, h2, h3, h4, h5, ?_⟩
        have h6 := steps_ok T D k (a + n + (findI T P ((a + n : Nat) : Int) D).2) (notesF T (noteP T P ((a + n : Nat) : Int)) (a + n + 1) ((findI T P ((a + n : Nat) : Int) D).2 - 1)) 0 (places_notes T _ _ _ (places_note T P _ hP)) (by omega)
        exact h6
theorem steps_length (T : List Nat) (D : Int) : ∀ (k a : Nat) (P : List Nat) (n : Nat), (stepsN T D k a P n).length ≤ k
  | 0, _, _, _ => by rw [stepsN]; exact Nat.le_refl _
  | k + 1, a, P, n => by
    rw [stepsN]
    split
    · exact Nat.zero_le _
    · split
      · exact Nat.le_succ_of_le (steps_length T D k _ _ _)
      · rw [List.length_cons]
        exact Nat.succ_le_succ (steps_length T D k _ _ _)
/-- How many places are looked at. -/
def depN (v : Int) : Nat := if v ≤ 0 then 0 else if v = 1 then 4 else if v = 2 then 16 else 64
/-- What Steps answers. -/
def stepsA (D X : List Nat) (v : Int) : List Stp :=
  if depN v = 0 then [] else stepsN (D.drop (D.length - 600) ++ X.take 600) (depN v : Int) (X.take 600).length (D.drop (D.length - 600)).length (notesF (D.drop (D.length - 600) ++ X.take 600) [] 0 (D.drop (D.length - 600)).length) 0
theorem stepsA_ok (D X : List Nat) (v : Int) : OkS (D.drop (D.length - 600) ++ X.take 600) (D.drop (D.length - 600)).length (stepsA D X v) := by
  unfold stepsA
  split
  · show (D.drop (D.length - 600)).length ≤ _
    rw [List.length_append]; omega
  · generalize D.drop (D.length - 600) = D'
    generalize X.take 600 = X'
    have h := steps_ok (D' ++ X') (depN v : Int) X'.length D'.length (notesF (D' ++ X') [] 0 D'.length) 0 (places_notes _ _ _ _ (fun p hp => by simp at hp)) (by rw [List.length_append]; omega)
    rw [Nat.add_zero] at h
    exact h
theorem stepsA_length (D X : List Nat) (v : Int) : (stepsA D X v).length ≤ 600 := by
  rw [stepsA]
  split
  · rw [List.length_nil]; omega
  · refine Nat.le_trans (steps_length _ _ _ _ _ _) ?_
    rw [List.length_take]; omega
theorem stepsA_all (D X : List Nat) (v : Int) (hD : D.length ≤ 600) (hX : X.length ≤ 600) : OkS (D ++ X) D.length (stepsA D X v) := by
  have h := stepsA_ok D X v
  rwa [show D.length - 600 = 0 by omega, List.drop_zero, List.take_of_length_le hX] at h
theorem stepsA_none (D X : List Nat) (v : Int) (hv : v ≤ 0) : stepsA D X v = [] := by
  have h : depN v = 0 := by unfold depN; rw [if_pos hv]
  rw [stepsA, if_pos h]
set_option maxRecDepth 100000 in
theorem steps_abc : stepsA [] [97, 98, 99, 97, 98, 99, 97, 98, 99] 1 = [(3, 6, 3)] := by decide
end Go.Proofs.Ytjcehdibklndkaa.Bm
