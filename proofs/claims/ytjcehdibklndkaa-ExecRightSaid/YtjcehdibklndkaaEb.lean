/-
  Plain mathematics for layer 11 (chain): noted places in chains, from the one noted last back; a walk along a chain finds what the document's walk over all places finds; it speaks of no program. No condition.
-/
import Derived.Test.YtjcehdibklndkaaEt
namespace Go.Proofs.Ytjcehdibklndkaa.Bm

/-- Which chain a place is in. -/
def hshN (T : List Nat) (p : Nat) : Nat := (three T p).foldl (fun a c => a * 256 + c) 0 % 2003
theorem hshN_lt (T : List Nat) (p : Nat) : hshN T p < 2003 := Nat.mod_lt _ (by decide)
theorem hshN_eq {T : List Nat} {p q : Nat} (h : three T p = three T q) : hshN T p = hshN T q := by unfold hshN; rw [h]
/-- The places of a chain, the one noted last first. -/
def chnN (T P : List Nat) (c : Nat) : List Nat := (P.filter fun p => hshN T p == c).reverse
theorem chnN_nil (T : List Nat) (c : Nat) : chnN T [] c = [] := rfl
theorem chnN_in (T P : List Nat) (a : Nat) : chnN T (P ++ [a]) (hshN T a) = a :: chnN T P (hshN T a) := by
  unfold chnN
  rw [List.filter_append, List.reverse_append, List.filter_cons_of_pos (by simp)]
  simp
theorem chnN_out (T P : List Nat) (a c : Nat) (h : hshN T a ≠ c) : chnN T (P ++ [a]) c = chnN T P c := by
  unfold chnN
  rw [List.filter_append, List.filter_cons_of_neg (by simpa using h)]
  simp
theorem chnN_mem {T P : List Nat} {c p : Nat} (h : p ∈ chnN T P c) : p ∈ P := by
  unfold chnN at h
  rw [List.mem_reverse] at h
  exact (List.mem_filter.1 h).1
theorem chnN_length (T P : List Nat) (c : Nat) : (chnN T P c).length ≤ P.length := by
  unfold chnN
  rw [List.length_reverse]
  exact List.length_filter_le _ _
/-- From this value on, back and back again: just these places. -/
def Lnk (A : Nat → Nat) : Nat → List Nat → Prop
  | v, [] => v = 0
  | v, p :: ps => v = p + 1 ∧ Lnk A (A p) ps
theorem Lnk.congr {A B : Nat → Nat} : ∀ {ps : List Nat} {v : Nat}, Lnk A v ps → (∀ p ∈ ps, B p = A p) → Lnk B v ps
  | [], _, h, _ => h
  | p :: ps, _, h, hb => ⟨h.1, by rw [hb p List.mem_cons_self]; exact Lnk.congr h.2 (fun q hq => hb q (List.mem_cons_of_mem _ hq))⟩
/-- How long it is (f: long enough). -/
def lnkN (A : Nat → Nat) : Nat → Nat → Nat
  | 0, _ => 0
  | f + 1, v => if v = 0 then 0 else 1 + lnkN A f (A (v - 1))
theorem lnkN_eq {A : Nat → Nat} : ∀ (f : Nat) (v : Nat) (ps : List Nat), Lnk A v ps → ps.length ≤ f → lnkN A f v = ps.length
  | 0, v, [], _, _ => rfl
  | 0, v, p :: ps, _, hl => by simp at hl
  | f + 1, v, [], h, _ => by
    rw [lnkN, if_pos (show v = 0 from h)]; rfl
  | f + 1, v, p :: ps, h, hl => by
    have hv : v = p + 1 := h.1
    subst hv
    rw [lnkN, if_neg (by omega), Nat.add_sub_cancel, lnkN_eq f (A p) ps h.2 (by simpa using hl), List.length_cons]
    omega
/-- All chains at once: L (where a chain begins), A (what is ahead of a place). -/
def ChnOk (T P : List Nat) (L A : Nat → Nat) : Prop := ∀ c, c < 2003 → Lnk A (L c) (chnN T P c)
theorem ChnOk.zero (T : List Nat) : ChnOk T [] (fun _ => 0) (fun _ => 0) := fun _ _ => rfl
theorem ChnOk.note {T P : List Nat} {L A : Nat → Nat} (h : ChnOk T P L A) (a : Nat) (ha : a ∉ P) :
    ChnOk T (P ++ [a]) (fun c => if c = hshN T a then a + 1 else L c) (fun p => if p = a then L (hshN T a) else A p) := by
  intro c hc
  have hold : ∀ v ps, Lnk A v ps → (∀ p ∈ ps, p ∈ P) → Lnk (fun p => if p = a then L (hshN T a) else A p) v ps := fun v ps h1 h2 =>
    h1.congr fun p hp => if_neg (fun e => ha (by have h3 := h2 p hp; rwa [show p = a from e] at h3))
  by_cases hca : c = hshN T a
  · subst hca
    rw [chnN_in]
    refine ⟨if_pos rfl, ?_⟩
    simp only [if_true]
    exact hold _ _ (h _ hc) fun p hp => chnN_mem hp
  · rw [chnN_out T P a c (fun e => hca e.symm)]
    simp only [if_neg hca]
    exact hold _ _ (h _ hc) fun p hp => chnN_mem hp
theorem lnk_lt {A : Nat → Nat} {v : Nat} {ps : List Nat} {n : Nat} (h : Lnk A v ps) (hp : ∀ p ∈ ps, p < n) : v ≤ n := by
  cases ps with
  | nil => have : v = 0 := h; omega
  | cons p ps => have h1 : v = p + 1 := h.1; have := hp p List.mem_cons_self; omega

/-- The program's walk along one chain: what was found till now, and how many places are still to be looked at. -/
def findC (T : List Nat) (a : Nat) : List Nat → Nat → Nat → Nat → Nat × Nat
  | [], o, n, _ => (o, n)
  | p :: ps, o, n, l =>
    if l = 0 then (o, n)
    else if sameN T p a < 3 then findC T a ps o n l
    else if p < a ∧ (n < sameN T p a ∨ (sameN T p a = n ∧ a - p < o)) then findC T a ps (a - p) (sameN T p a) (l - 1)
    else findC T a ps o n (l - 1)
theorem findC_zero (T : List Nat) (a : Nat) (ps : List Nat) (o n : Nat) : findC T a ps o n 0 = (o, n) := by
  cases ps with
  | nil => rfl
  | cons p ps => rw [findC, if_pos rfl]
theorem findL_done (T : List Nat) (a : Nat) (depth : Int) : ∀ (ps : List Nat) (o n s : Nat), (depth < ((s + 1 : Nat) : Int) ∨ 1000 < s + 1) → findL T a depth ps o n s = (o, n)
  | [], _, _, _, _ => rfl
  | p :: ps, o, n, s, h => by
    rw [findL]
    by_cases h3 : three T p ≠ three T a
    · rw [if_pos h3]; exact findL_done T a depth ps o n s h
    · rw [if_neg h3, if_pos h]
theorem findL_C (T : List Nat) (a : Nat) (depth : Int) (ha : a + 3 ≤ T.length) : ∀ (ps : List Nat) (o n s : Nat), (∀ p ∈ ps, p + 3 ≤ T.length) →
    findL T a depth ps o n s = findC T a (ps.filter fun p => hshN T p == hshN T a) o n (min depth 1000 - s).toNat
  | [], _, _, _, _ => rfl
  | p :: ps, o, n, s, hp => by
    have hp1 := hp p List.mem_cons_self
    have hp2 : ∀ q ∈ ps, q + 3 ≤ T.length := fun q hq => hp q (List.mem_cons_of_mem _ hq)
    have h3 := three_iff T p a hp1 ha
    by_cases hs : depth < ((s + 1 : Nat) : Int) ∨ 1000 < s + 1
    · rw [findL_done T a depth _ o n s hs, show (min depth 1000 - (s : Int)).toNat = 0 by omega, findC_zero]
    · have hl0 : ¬ (min depth 1000 - (s : Int)).toNat = 0 := by omega
      have hl : (min depth 1000 - (s : Int)).toNat - 1 = (min depth 1000 - ((s + 1 : Nat) : Int)).toNat := by omega
      rw [findL]
      by_cases hA : three T p = three T a
      · have hA3 : ¬ sameN T p a < 3 := by have := h3.1 hA; omega
        rw [if_neg (fun h => h hA), if_neg hs, List.filter_cons_of_pos (by simpa using hshN_eq hA), findC, if_neg hl0, if_neg hA3, hl]
        by_cases hB : a ≤ p
        · have hB2 : ¬ (p < a ∧ (n < sameN T p a ∨ (sameN T p a = n ∧ a - p < o))) := fun h => by omega
          rw [if_pos hB, if_neg hB2]
          exact findL_C T a depth ha ps o n (s + 1) hp2
        · rw [if_neg hB]
          by_cases hC : n < sameN T p a ∨ (sameN T p a = n ∧ a - p < o)
          · have hC2 : p < a ∧ (n < sameN T p a ∨ (sameN T p a = n ∧ a - p < o)) := ⟨by omega, hC⟩
            rw [if_pos hC, if_pos hC2]
            exact findL_C T a depth ha ps _ _ (s + 1) hp2
          · have hC2 : ¬ (p < a ∧ (n < sameN T p a ∨ (sameN T p a = n ∧ a - p < o))) := fun h => hC h.2
            rw [if_neg hC, if_neg hC2]
            exact findL_C T a depth ha ps _ _ (s + 1) hp2
      · have hA3 : sameN T p a < 3 := by
          rcases Nat.lt_or_ge (sameN T p a) 3 with h | h
          · exact h
          · exact absurd (h3.2 h) hA
        rw [if_pos hA]
        by_cases hh : hshN T p = hshN T a
        · rw [List.filter_cons_of_pos (by simpa using hh), findC, if_neg hl0, if_pos hA3]
          exact findL_C T a depth ha ps o n s hp2
        · rw [List.filter_cons_of_neg (by simpa using hh)]
          exact findL_C T a depth ha ps o n s hp2
/-- Along its chain a place finds what the document's walk finds. -/
theorem findI_C (T P : List Nat) (a : Nat) (depth : Int) (ha : a + 3 ≤ T.length) (hP : Places T P) :
    findI T P (a : Int) depth = findC T a (chnN T P (hshN T a)) 0 0 (min depth 1000).toNat := by
  rw [findI, rightI, if_pos (by simp; omega), Int.toNat_natCast, findL_C T a depth ha P.reverse 0 0 0 (fun p hp => hP p (by simpa using hp)), chnN, List.filter_reverse]
  simp
theorem hshN_val (T : List Nat) (p : Nat) (h : p + 3 ≤ T.length) : hshN T p = ((T[p] * 256 + T[p + 1]) * 256 + T[p + 2]) % 2003 := by
  unfold hshN
  rw [three_eq T p h]
  simp
end Go.Proofs.Ytjcehdibklndkaa.Bm
