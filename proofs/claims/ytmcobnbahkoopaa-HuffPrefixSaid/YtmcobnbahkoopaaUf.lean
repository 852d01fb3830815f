/-
  Mathematics of layer 9's answers: lengths that may be answered for counts; whole lengths, above 0 just where the counts are, cost no less than Huffman's. No condition.
-/
import Derived.Test.YtmcobnbahkoopaaUo
import Derived.Test.YtmcobnbahkoopaaUm
import Derived.Test.YtmcobnbahkoopaaIn
import Derived.Test.YtmcobnbahkoopaaTm
namespace Go.Proofs.Ytmcobnbahkoopaa
open Go.RowKit
namespace Bm
/-- The counts above 0. -/
def posC : List Nat → List Nat
  | [] => []
  | c :: cs => if 0 < c then c :: posC cs else posC cs
/-- Huffman's cost; of one symbol its count. -/
def bestN (cs : List Nat) : Nat := if (posC cs).length = 1 then (posC cs).sum else hbest (posC cs)
/-- The flattest codes' cost. -/
def flatN (cs : List Nat) : Nat := if (posC cs).length = 1 then (posC cs).sum else
  (posC cs).sum * wid ((posC cs).length - 1) - ((isort (posC cs)).reverse.take (2 ^ wid ((posC cs).length - 1) - (posC cs).length)).sum
/-- Lengths that may be answered for counts. -/
structure GoodN (cs ls : List Nat) : Prop where
  len : ls.length = cs.length
  whole : WholeN ls
  just : ∀ i, i < cs.length → (0 < ls[i]?.getD 0 ↔ 0 < cs[i]?.getD 0)
  cost : costN cs ls ≤ max (flatN cs) (bestN cs)
theorem GoodN.fit {cs ls : List Nat} (h : GoodN cs ls) : FitN cs ls := fun i hi h0 => (h.just i hi).2 h0
/-- Counts with their lengths, where there are any. -/
def prs : List Nat → List Nat → List (Nat × Nat)
  | c :: cs, l :: ls => if 0 < l then (c, l) :: prs cs ls else prs cs ls
  | _, _ => []
theorem costN_cons (c l : Nat) (cs ls : List Nat) : costN (c :: cs) (l :: ls) = c * l + costN cs ls := by
  unfold costN
  rw [List.length_cons, List.range_succ_eq_map, List.map_cons, List.sum_cons, List.map_map]
  simp only [List.getElem?_cons_zero, Option.getD_some]
  congr 2
theorem prs_all : ∀ (cs ls : List Nat), ls.length = cs.length → (∀ i, i < cs.length → (0 < ls[i]?.getD 0 ↔ 0 < cs[i]?.getD 0)) → (∀ x ∈ ls, x ≤ 11) →
    (prs cs ls).map (·.1) = posC cs ∧ wcost (prs cs ls) = costN cs ls ∧ kraft 11 (prs cs ls) = krN ls ∧ (∀ p ∈ prs cs ls, 0 < p.2 ∧ p.2 ≤ 11) ∧ (prs cs ls).length = someN ls
  | [], [], _, _, _ => by simp [prs, posC, wcost, kraft, krN, someN, costN]
  | [], _ :: _, h, _, _ => by simp at h
  | _ :: _, [], h, _, _ => by simp at h
  | c :: cs, l :: ls, h, hj, h11 => by
    obtain ⟨i1, i2, i3, i4, i5⟩ := prs_all cs ls (by simpa using h) (fun i hi => by
      have := hj (i + 1) (by simpa using hi)
      simpa using this) (fun x hx => h11 x (List.mem_cons_of_mem _ hx))
    have h0 := hj 0 (by simp)
    simp only [List.getElem?_cons_zero, Option.getD_some] at h0
    have hl := h11 l List.mem_cons_self
    rw [costN_cons]
    unfold prs posC krN someN
    rw [List.map_cons, List.sum_cons, List.countP_cons]
    by_cases hp : 0 < l
    · rw [if_pos hp, if_pos (h0.1 hp), List.map_cons, i1, wcost_cons, kraft_cons, i2, i3]
      refine ⟨rfl, rfl, ?_, ?_, ?_⟩
      · unfold krN partL
        rw [if_neg (by omega)]
      · intro p hm
        rcases List.mem_cons.1 hm with rfl | hm
        · exact ⟨hp, hl⟩
        · exact i4 p hm
      · rw [List.length_cons, i5, if_pos (decide_eq_true hp)]
        rfl
    · have hl0 : l = 0 := by omega
      subst hl0
      rw [if_neg hp, if_neg (fun h => hp (h0.2 h)), i2, i3, i5]
      refine ⟨i1, by omega, ?_, i4, ?_⟩
      · unfold krN partL
        simp
      · unfold someN
        simp
/-- No whole lengths cost less than Huffman's. -/
theorem best_le (cs ls : List Nat) (h : GoodN cs ls) : bestN cs ≤ costN cs ls := by
  obtain ⟨i1, i2, i3, i4, i5⟩ := prs_all cs ls h.len h.just h.whole.2.1
  have hw := h.whole.2.2
  unfold bestN
  rw [← i1, ← i2, List.length_map]
  generalize prs cs ls = ps at *
  split
  · next h1 =>
    obtain ⟨p, rfl⟩ := List.length_eq_one_iff.1 h1
    have h2 := (i4 p (by simp)).1
    have := Nat.mul_le_mul_left p.1 h2
    simp [wcost]
    omega
  · next h1 => exact opt _ 11 ps (Nat.le_refl _) (fun p hp => (i4 p hp).2) (by rw [i3]; omega)
/-- Three counts' lengths. -/
theorem three_fin : ∀ a b c : Fin 12, (decide (krN [a.1, b.1, c.1] = 2048) && decide (costN [5, 2, 1] [a.1, b.1, c.1] ≤ 11) && decide (0 < a.1) && decide (0 < b.1) && decide (0 < c.1)) = true → (a.1 == 1 && b.1 == 2 && c.1 == 2) = true := by decide +kernel
theorem three_lens (a : Nat) (ha : a < 12) (b : Nat) (hb : b < 12) (c : Nat) (hc : c < 12) (h1 : krN [a, b, c] = 2048) (h2 : costN [5, 2, 1] [a, b, c] ≤ 11) (h3 : 0 < a) (h4 : 0 < b) (h5 : 0 < c) : a = 1 ∧ b = 2 ∧ c = 2 := by
  have h := three_fin ⟨a, ha⟩ ⟨b, hb⟩ ⟨c, hc⟩ (by simp only [h1, h2, h3, h4, h5, decide_true, Bool.and_self])
  simpa [and_assoc] using h
theorem good_521 (ls : List Nat) (h : GoodN [5, 2, 1] ls) : ls = [1, 2, 2] := by
  have hl := h.len
  match ls, hl with
  | [a, b, c], _ =>
    have h11 := h.whole.2.1
    have hc := h.cost
    have h0 := h.just 0 (by simp)
    have h1 := h.just 1 (by simp)
    have h2 := h.just 2 (by simp)
    simp at h0 h1 h2
    have hm : max (flatN [5, 2, 1]) (bestN [5, 2, 1]) = 11 := by decide +kernel
    rw [hm] at hc
    have hs : someN [a, b, c] = 3 := by simp [someN, h0, h1, h2]
    have hk : krN [a, b, c] = 2048 := by have := h.whole.2.2; omega
    have ha := h11 a (by simp)
    have hb := h11 b (by simp)
    have hcc := h11 c (by simp)
    obtain ⟨rfl, rfl, rfl⟩ := three_lens a (by omega) b (by omega) c (by omega) hk hc h0 h1 h2
    rfl
theorem whole_122 : WholeI [1, 2, 2] := by decide +kernel
theorem codes_122 : codesN [1, 2, 2] = [0, 2, 3] := by decide +kernel
end Bm
namespace Bm
instance (cs ls : List Nat) : Decidable (FitN cs ls) := by unfold FitN; exact inferInstance
end Bm
/-- What Cost answers. -/
def costV (cs ls : List Nat) : Value := .tuple #[.int .i64 ((if Bm.FitN cs ls then Bm.costN cs ls else 0 : Nat) : Int), .bool (decide (Bm.FitN cs ls))]

end Go.Proofs.Ytmcobnbahkoopaa
