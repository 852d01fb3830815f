/-
  Plain mathematics for layer 9 (huff): nodes joined two at a time, what each is joined to, how many stand above each: Huffman's lengths. It speaks of no program. No condition.
-/
import Derived.Test.YtmcobnbahkoopaaVe
import Derived.Test.YtmcobnbahkoopaaUg
namespace Go.Proofs.Ytmcobnbahkoopaa.Bm
/-- The symbols that have a count, of the first k. -/
def lvsTo (cs : List Nat) (k : Nat) : List (Nat × Nat) := (List.range k).flatMap fun i => if 0 < cs[i]?.getD 0 then [(cs[i]?.getD 0, i)] else []
def lvs (cs : List Nat) : List (Nat × Nat) := lvsTo cs cs.length
theorem lvsTo_succ (cs : List Nat) (k : Nat) : lvsTo cs (k + 1) = lvsTo cs k ++ if 0 < cs[k]?.getD 0 then [(cs[k]?.getD 0, k)] else [] := by
  unfold lvsTo
  rw [List.range_succ, List.flatMap_append]
  simp
theorem lvsTo_len (cs : List Nat) : ∀ k, (lvsTo cs k).length ≤ k
  | 0 => by simp [lvsTo]
  | k + 1 => by
    have := lvsTo_len cs k
    rw [lvsTo_succ, List.length_append]
    split <;> simp <;> omega
theorem lvsTo_mem (cs : List Nat) (k : Nat) (t : Nat × Nat) : t ∈ lvsTo cs k ↔ t.2 < k ∧ t.1 = cs[t.2]?.getD 0 ∧ 0 < t.1 := by
  unfold lvsTo
  rw [List.mem_flatMap]
  constructor
  · rintro ⟨i, hi, ht⟩
    have hi := List.mem_range.1 hi
    split at ht
    · next h => simp at ht; subst ht; exact ⟨hi, rfl, h⟩
    · simp at ht
  · rintro ⟨h1, h2, h3⟩
    refine ⟨t.2, List.mem_range.2 h1, ?_⟩
    rw [if_pos (by omega), ← h2]
    simp
/-- Sums over the symbols that have a count. -/
theorem lvs_sum (cs : List Nat) (F : Nat × Nat → Nat) : ∀ k, ((lvsTo cs k).map F).sum = ((List.range k).map fun i => if 0 < cs[i]?.getD 0 then F (cs[i]?.getD 0, i) else 0).sum
  | 0 => by simp [lvsTo]
  | k + 1 => by
    rw [lvsTo_succ, List.map_append, List.sum_append_nat, lvs_sum cs F k, List.range_succ, List.map_append, List.sum_append_nat]
    split <;> simp_all
theorem lvsTo_fst (cs : List Nat) : ∀ k, k ≤ cs.length → (lvsTo cs k).map (·.1) = posC (cs.take k)
  | 0, _ => by simp [lvsTo, posC]
  | k + 1, h => by
    rw [lvsTo_succ, List.map_append, lvsTo_fst cs k (by omega), posC_take cs k (by omega), List.getElem?_eq_getElem (by omega), Option.getD_some]
    congr 1
    split <;> simp
theorem lvs_fst (cs : List Nat) : (lvs cs).map (·.1) = posC cs := by
  unfold lvs
  rw [lvsTo_fst cs cs.length (Nat.le_refl _), List.take_length]
/-- A list's number at a place. -/
abbrev nat1 (l : List Nat) (i : Nat) : Nat := l[i]?.getD 0
/-- A node's depth is one more than that of what it is joined to. -/
def DepOk (A : List Nat) (d : Nat → Nat) : Prop := ∀ i, i < A.length → nat1 A i ≠ 0 → d i = d (nat1 A i) + 1
def sumW (L : List (Nat × Nat)) (d : Nat → Nat) : Nat := (L.map fun t => t.1 * d t.2).sum
def sumK (D : Nat) (L : List (Nat × Nat)) (d : Nat → Nat) : Nat := (L.map fun t => 2 ^ (D - d t.2)).sum
/-- What join keeps: what each is joined to, the nodes that are joined to none, what has been paid. -/
structure JoinN (cs A : List Nat) (L : List (Nat × Nat)) (C : Nat) : Prop where
  len : cs.length ≤ A.length
  free : ∀ t ∈ L, t.2 < A.length ∧ nat1 A t.2 = 0
  apart : (L.map (·.2)).Nodup
  above : ∀ i, i < A.length → nat1 A i ≠ 0 → i < nat1 A i ∧ nat1 A i < A.length
  none : ∀ i, i < cs.length → nat1 cs i = 0 → nat1 A i = 0
  some : ∀ i, i < cs.length → 0 < nat1 cs i → nat1 A i ≠ 0 ∨ i ∈ L.map (·.2)
  cost : ∀ d, DepOk A d → sumW (lvs cs) d = sumW L d + C
  kraft : ∀ d D, DepOk A d → (∀ i, d i ≤ D) → sumK D (lvs cs) d = sumK D L d
  best : C + hbest (L.map (·.1)) = hbest (posC cs)
  last : cs.length < A.length → A.length - 1 ∈ L.map (·.2)
  count : L.length + (A.length - cs.length) = (lvs cs).length
  total : (L.map (·.1)).sum = (posC cs).sum
  pos : ∀ t ∈ L, t.2 < cs.length → 0 < nat1 cs t.2
theorem nodup_lvs (cs : List Nat) : ∀ k, ((lvsTo cs k).map (·.2)).Nodup
  | 0 => by simp [lvsTo]
  | k + 1 => by
    rw [lvsTo_succ, List.map_append]
    have ih := nodup_lvs cs k
    split
    · rw [List.nodup_append]
      refine ⟨ih, by simp, ?_⟩
      intro a ha b hb
      obtain ⟨t, ht, rfl⟩ := List.mem_map.1 ha
      have := ((lvsTo_mem cs k t).1 ht).1
      simp at hb
      omega
    · simpa using ih
theorem rep_zero (n i : Nat) : nat1 (List.replicate n 0) i = 0 := by
  unfold nat1
  rw [List.getElem?_replicate]
  split <;> rfl
theorem join_start (cs : List Nat) (L : List (Nat × Nat)) (h : L.Perm (lvs cs)) : JoinN cs (List.replicate cs.length 0) L 0 where
  len := by simp
  free := fun t ht => by
    have := (lvsTo_mem cs _ t).1 (h.mem_iff.1 ht)
    exact ⟨by simpa using this.1, rep_zero _ _⟩
  apart := (h.map _).nodup_iff.2 (nodup_lvs cs _)
  above := fun i _ h => absurd (rep_zero _ _) h
  none := fun i _ _ => rep_zero _ _
  some := fun i hi h0 => .inr ((h.map _).mem_iff.2 (List.mem_map.2 ⟨(nat1 cs i, i), (lvsTo_mem cs _ _).2 ⟨hi, rfl, h0⟩, rfl⟩))
  cost := fun d _ => by unfold sumW; rw [(h.map _).sum_nat]; rfl
  kraft := fun d D _ _ => by unfold sumK; rw [(h.map _).sum_nat]
  best := by rw [Nat.zero_add, hbest_perm (h.map _), lvs_fst]
  last := fun h => by simp at h
  count := by simp [h.length_eq]
  total := by rw [(h.map _).sum_nat, lvs_fst]
  pos := fun t ht _ => by
    have := (lvsTo_mem cs _ t).1 (h.mem_iff.1 ht)
    unfold nat1
    omega
theorem set_two (A : List Nat) (a b P i : Nat) (ha : a < A.length) (hb : b < A.length) : nat1 ((A.set a P).set b P ++ [0]) i = if i = a ∨ i = b then P else nat1 A i := by
  unfold nat1
  by_cases h1 : i < A.length
  · rw [List.getElem?_append_left (by simpa using h1), List.getElem?_set, List.getElem?_set, List.length_set]
    by_cases e1 : b = i
    · subst e1; rw [if_pos rfl, if_pos hb, if_pos (.inr rfl)]; rfl
    · rw [if_neg e1]
      by_cases e2 : a = i
      · subst e2; rw [if_pos rfl, if_pos ha, if_pos (.inl rfl)]; rfl
      · rw [if_neg e2, if_neg (by omega)]
  · rw [List.getElem?_append_right (by simpa using h1), if_neg (by omega), List.getElem?_eq_none (show A.length ≤ i by omega), List.getElem?_singleton]
    split <;> rfl
theorem join_step {cs A : List Nat} {L R L' : List (Nat × Nat)} {C wa a wb b : Nat} (h : JoinN cs A L C) (hp : L.Perm ((wa, a) :: (wb, b) :: R)) (hab : wa ≤ wb) (hR : ∀ y ∈ R, wb ≤ y.1) (h2 : 2 ≤ A.length) (hL' : L'.Perm ((wa + wb, A.length) :: R)) :
    JoinN cs ((A.set a A.length).set b A.length ++ [0]) L' (C + (wa + wb)) := by
  have ma := h.free (wa, a) (hp.mem_iff.2 (by simp))
  have mb := h.free (wb, b) (hp.mem_iff.2 (by simp))
  have hR2 : ∀ t ∈ R, t.2 < A.length ∧ nat1 A t.2 = 0 := fun t ht => h.free t (hp.mem_iff.2 (by simp [ht]))
  have hnd := (hp.map (·.2)).nodup_iff.1 h.apart
  simp only [List.map_cons, List.nodup_cons, List.mem_cons, not_or] at hnd
  obtain ⟨⟨hne, haR⟩, hbR, hRn⟩ := hnd
  have hs := fun i => set_two A a b A.length i ma.1 mb.1
  have hlen : ((A.set a A.length).set b A.length ++ [0]).length = A.length + 1 := by simp
  have hdep : ∀ d, DepOk ((A.set a A.length).set b A.length ++ [0]) d → DepOk A d ∧ d a = d A.length + 1 ∧ d b = d A.length + 1 := fun d hd => by
    refine ⟨fun i hi hA => ?_, ?_, ?_⟩
    · have h1 := hd i (by omega)
      rw [hs, if_neg (by
        rintro (rfl | rfl)
        · exact hA ma.2
        · exact hA mb.2)] at h1
      exact h1 hA
    · have h1 := hd a (by have := ma.1; omega)
      rw [hs, if_pos (.inl rfl)] at h1
      exact h1 (by omega)
    · have h1 := hd b (by have := mb.1; omega)
      rw [hs, if_pos (.inr rfl)] at h1
      exact h1 (by omega)
  refine ⟨by rw [hlen]; have := h.len; omega, fun t ht => ?_, ?_, fun i hi hA => ?_, fun i hi h0 => ?_, fun i hi h0 => ?_, fun d hd => ?_, fun d D hd hD => ?_, ?_, fun _ => ?_, ?_, ?_, fun t ht hc => ?_⟩
  · rw [hlen, hs]
    rcases List.mem_cons.1 (hL'.mem_iff.1 ht) with rfl | ht
    · refine ⟨by show A.length < A.length + 1; omega, ?_⟩
      rw [if_neg (by have := ma.1; have := mb.1; simp only; omega)]
      unfold nat1
      rw [List.getElem?_eq_none (by exact Nat.le_refl _)]
      rfl
    · have h1 := hR2 t ht
      refine ⟨by omega, ?_⟩
      rw [if_neg (by
        rintro (e | e)
        · exact haR (List.mem_map.2 ⟨t, ht, e⟩)
        · exact hbR (List.mem_map.2 ⟨t, ht, e⟩))]
      exact h1.2
  · refine (hL'.map (·.2)).nodup_iff.2 ?_
    rw [List.map_cons, List.nodup_cons]
    refine ⟨fun hm => ?_, hRn⟩
    obtain ⟨t, ht, e⟩ := List.mem_map.1 hm
    have := (hR2 t ht).1
    simp only at e
    omega
  · rw [hs] at hA ⊢
    rw [hlen] at hi ⊢
    split at hA
    · next hc =>
      rw [if_pos hc]
      have := ma.1
      have := mb.1
      omega
    · next hc =>
      rw [if_neg hc]
      have hi2 : i < A.length := by
        rcases Nat.lt_or_ge i A.length with h1 | h1
        · exact h1
        · exfalso
          apply hA
          unfold nat1
          rw [List.getElem?_eq_none h1]
          rfl
      have := h.above i hi2 hA
      omega
  · rw [hs]
    have h1 := h.none i hi h0
    rw [if_neg ?_]
    · exact h1
    · rintro (rfl | rfl)
      · have := h.pos (wa, i) (hp.mem_iff.2 (by simp)) hi
        simp only at this
        omega
      · have := h.pos (wb, i) (hp.mem_iff.2 (by simp)) hi
        simp only at this
        omega
  · rw [hs]
    have := h.len
    rcases h.some i hi h0 with h1 | h1
    · left
      split
      · omega
      · exact h1
    · rw [(hp.map _).mem_iff] at h1
      simp only [List.map_cons, List.mem_cons] at h1
      rcases h1 with h1 | h1 | h1
      · left; rw [if_pos (.inl h1)]; omega
      · left; rw [if_pos (.inr h1)]; omega
      · right
        rw [(hL'.map _).mem_iff]
        simp [h1]
  · obtain ⟨h1, h3, h4⟩ := hdep d hd
    have e1 : sumW L d = wa * d a + (wb * d b + sumW R d) := by
      unfold sumW
      rw [(hp.map _).sum_nat, List.map_cons, List.map_cons, List.sum_cons, List.sum_cons]
    have e2 : sumW L' d = (wa + wb) * d A.length + sumW R d := by
      unfold sumW
      rw [(hL'.map _).sum_nat, List.map_cons, List.sum_cons]
    rw [h.cost d h1, e1, e2, h3, h4, Nat.mul_succ, Nat.mul_succ, Nat.add_mul]
    omega
  · obtain ⟨h1, h3, h4⟩ := hdep d hd
    have e1 : sumK D L d = 2 ^ (D - d a) + (2 ^ (D - d b) + sumK D R d) := by
      unfold sumK
      rw [(hp.map _).sum_nat, List.map_cons, List.map_cons, List.sum_cons, List.sum_cons]
    have e2 : sumK D L' d = 2 ^ (D - d A.length) + sumK D R d := by
      unfold sumK
      rw [(hL'.map _).sum_nat, List.map_cons, List.sum_cons]
    have hDa := hD a
    rw [h.kraft d D h1 hD, e1, e2, h3, h4, show D - d A.length = (D - (d A.length + 1)) + 1 by omega, Nat.pow_succ]
    omega
  · have e1 : hbest (L.map (·.1)) = (wa + wb) + hbest (R.map (·.1) ++ [wa + wb]) := by
      rw [hbest_perm (hp.map _)]
      simp only [List.map_cons]
      exact hbest_step wa wb (R.map (·.1)) hab (fun x hx => by
        obtain ⟨y, hy, rfl⟩ := List.mem_map.1 hx
        exact hR y hy)
    have e2 : hbest (L'.map (·.1)) = hbest (R.map (·.1) ++ [wa + wb]) := by
      rw [hbest_perm (hL'.map _)]
      simp only [List.map_cons]
      exact hbest_perm (List.perm_append_singleton _ _).symm
    have := h.best
    omega
  · rw [hlen, Nat.add_sub_cancel, (hL'.map _).mem_iff]
    simp
  · have h1 := h.count
    have h3 := hp.length_eq
    have h4 := hL'.length_eq
    have := h.len
    simp only [List.length_cons] at h3 h4
    rw [hlen]
    omega
  · have h1 := h.total
    rw [(hp.map _).sum_nat] at h1
    rw [(hL'.map _).sum_nat, ← h1]
    simp only [List.map_cons, List.sum_cons]
    omega
  · rcases List.mem_cons.1 (hL'.mem_iff.1 ht) with rfl | ht
    · have := h.len
      simp only at hc
      omega
    · exact h.pos t (hp.mem_iff.2 (by simp [ht])) hc
/-- Lengths as Huffman's: above 0 just where the counts are, whole if within 11, of the least cost. -/
structure UnbN (cs ls : List Nat) : Prop where
  len : ls.length = cs.length
  just : ∀ i, i < cs.length → (0 < ls[i]?.getD 0 ↔ 0 < cs[i]?.getD 0)
  whole : (∀ x ∈ ls, x ≤ 11) → WholeN ls
  cost : costN cs ls = bestN cs
  most : ∀ x ∈ ls, x ≤ 512
theorem costN_lvs (cs ls : List Nat) : costN cs ls = ((lvs cs).map fun t => t.1 * nat1 ls t.2).sum := by
  unfold lvs
  rw [lvs_sum]
  unfold costN
  congr 1
  apply List.map_congr_left
  intro i _
  split
  · rfl
  · next h => rw [show cs[i]?.getD 0 = 0 by omega, Nat.zero_mul]
theorem krN_lvs (cs ls : List Nat) (hl : ls.length = cs.length) (hj : ∀ i, i < cs.length → (0 < ls[i]?.getD 0 ↔ 0 < cs[i]?.getD 0)) : krN ls = ((lvs cs).map fun t => 2 ^ (11 - nat1 ls t.2)).sum := by
  unfold lvs
  rw [lvs_sum, krN_range, hl]
  congr 1
  apply List.map_congr_left
  intro i hi
  have h1 := hj i (List.mem_range.1 hi)
  unfold partL nat1
  by_cases h : 0 < cs[i]?.getD 0
  · rw [if_pos h, if_neg (by omega)]
  · rw [if_neg h, if_pos (by omega)]
/-- What depths answers. -/
structure DepthN (A ls : List Nat) : Prop where
  len : ls.length = A.length
  none : ∀ i, i < A.length → nat1 A i = 0 → nat1 ls i = 0
  some : ∀ i, i < A.length → nat1 A i ≠ 0 → nat1 ls i = nat1 ls (nat1 A i) + 1
  most : ∀ i, i < A.length → nat1 ls i ≤ A.length - i
theorem join_end {cs A ls : List Nat} {t : Nat × Nat} {C : Nat} (h : JoinN cs A [t] C) (hd : DepthN A ls) (h2 : 2 ≤ (lvs cs).length) (h256 : cs.length ≤ 256) (hA : A.length ≤ 512) : UnbN cs (ls.take cs.length) := by
  have hcnt := h.count
  have hlen := h.len
  simp only [List.length_singleton] at hcnt
  have hlast := h.last (by omega)
  simp only [List.map_cons, List.map_nil, List.mem_singleton] at hlast
  have hfree := h.free t (by simp)
  have hok : DepOk A (nat1 ls) := fun i hi h0 => hd.some i hi h0
  have hdt : nat1 ls t.2 = 0 := hd.none t.2 hfree.1 hfree.2
  have hg : ∀ i, i < cs.length → (ls.take cs.length)[i]?.getD 0 = nat1 ls i := fun i hi => by rw [List.getElem?_take, if_pos hi]
  have hjust : ∀ i, i < cs.length → (0 < (ls.take cs.length)[i]?.getD 0 ↔ 0 < cs[i]?.getD 0) := fun i hi => by
    rw [hg i hi]
    constructor
    · intro h1
      rcases Nat.eq_zero_or_pos (cs[i]?.getD 0) with h0 | h0
      · have := hd.none i (by omega) (h.none i hi h0)
        omega
      · exact h0
    · intro h0
      rcases h.some i hi h0 with h1 | h1
      · have := hd.some i (by omega) h1
        omega
      · simp only [List.map_cons, List.map_nil, List.mem_singleton] at h1
        omega
  have htl : (ls.take cs.length).length = cs.length := by rw [List.length_take, hd.len]; omega
  have hmem : ∀ u ∈ lvs cs, u.2 < cs.length := fun u hu => ((lvsTo_mem cs _ u).1 hu).1
  refine ⟨htl, hjust, fun h11 => ⟨by omega, h11, .inl ?_⟩, ?_, ?_⟩
  · rw [krN_lvs cs _ htl hjust]
    obtain ⟨D, hD, hD11⟩ : ∃ D, (∀ i, nat1 ls i ≤ D) ∧ 11 ≤ D := ⟨512, fun i => by
      rcases Nat.lt_or_ge i A.length with hi | hi
      · have := hd.most i hi; omega
      · unfold nat1
        rw [List.getElem?_eq_none (by rw [hd.len]; exact hi)]
        exact Nat.zero_le _, by omega⟩
    have hk := h.kraft (nat1 ls) D hok hD
    have e1 : sumK D [t] (nat1 ls) = 2 ^ D := by simp [sumK, hdt]
    have e2 : sumK D (lvs cs) (nat1 ls) = 2 ^ (D - 11) * ((lvs cs).map fun u => 2 ^ (11 - nat1 (ls.take cs.length) u.2)).sum := by
      unfold sumK
      have : ∀ L : List (Nat × Nat), (∀ u ∈ L, u ∈ lvs cs) → (L.map fun u => 2 ^ (D - nat1 ls u.2)).sum = 2 ^ (D - 11) * (L.map fun u => 2 ^ (11 - nat1 (ls.take cs.length) u.2)).sum := fun L => by
        induction L with
        | nil => intro _; rfl
        | cons u L ih =>
          intro hL
          have hu := hmem u (hL u (by simp))
          have h5 : nat1 (ls.take cs.length) u.2 ≤ 11 := by
            unfold nat1
            rw [List.getElem?_eq_getElem (by omega), Option.getD_some]
            exact h11 _ (List.getElem_mem _)
          rw [List.map_cons, List.sum_cons, List.map_cons, List.sum_cons, ih (fun v hv => hL v (by simp [hv])), Nat.mul_add, ← Nat.pow_add]
          have e3 : nat1 (ls.take cs.length) u.2 = nat1 ls u.2 := hg u.2 hu
          rw [e3] at h5 ⊢
          rw [show D - 11 + (11 - nat1 ls u.2) = D - nat1 ls u.2 by omega]
      exact this _ (fun _ h => h)
    rw [e1, e2, show D = (D - 11) + 11 by omega, Nat.pow_add, Nat.add_sub_cancel] at hk
    have h2k : (2 : Nat) ^ 11 = 2048 := by decide
    rw [h2k] at hk
    exact Nat.eq_of_mul_eq_mul_left (Nat.two_pow_pos _) hk
  · rw [costN_lvs]
    have hc := h.cost (nat1 ls) hok
    have e1 : sumW [t] (nat1 ls) = 0 := by simp [sumW, hdt]
    have hb := h.best
    have hb0 : hbest ([t].map (·.1)) = 0 := hbest_few _ (by simp)
    have hne : (posC cs).length ≠ 1 := by rw [← lvs_fst, List.length_map]; omega
    unfold bestN
    rw [if_neg hne, ← hb, hb0, Nat.add_zero]
    rw [e1, Nat.zero_add] at hc
    rw [← hc]
    unfold sumW
    congr 1
    apply List.map_congr_left
    intro u hu
    rw [show nat1 (ls.take cs.length) u.2 = nat1 ls u.2 from hg u.2 (hmem u hu)]
  · intro x hx
    obtain ⟨i, hi, rfl⟩ := List.mem_iff_getElem.1 hx
    rw [htl] at hi
    have h5 := hd.most i (by omega)
    have h6 := hg i hi
    rw [List.getElem?_eq_getElem (by omega), Option.getD_some] at h6
    rw [h6]
    omega
/-- Of one symbol. -/
theorem unb_one {cs : List Nat} {c i : Nat} (h : lvs cs = [(c, i)]) (h256 : cs.length ≤ 256) : UnbN cs ((List.replicate cs.length 0).set i 1) := by
  have hm := (lvsTo_mem cs cs.length (c, i)).1 (show (c, i) ∈ lvs cs by rw [h]; simp)
  simp only at hm
  obtain ⟨hi, hc, h0⟩ := hm
  have hg : ∀ k, k < cs.length → ((List.replicate cs.length 0).set i 1)[k]?.getD 0 = if k = i then 1 else 0 := fun k hk => by
    rw [List.getElem?_set]
    by_cases e : i = k
    · subst e; rw [if_pos rfl, if_pos (by simpa using hk), if_pos rfl]; rfl
    · rw [if_neg e, if_neg (fun h => e h.symm)]; exact rep_zero _ _
  have hl : ((List.replicate cs.length 0).set i 1).length = cs.length := by simp
  have hj : ∀ k, k < cs.length → (0 < ((List.replicate cs.length 0).set i 1)[k]?.getD 0 ↔ 0 < cs[k]?.getD 0) := fun k hk => by
    rw [hg k hk]
    by_cases e : k = i
    · subst e; rw [if_pos rfl]; omega
    · rw [if_neg e]
      constructor
      · intro h; omega
      · intro h1
        have : (cs[k]?.getD 0, k) ∈ lvs cs := (lvsTo_mem cs _ _).2 ⟨hk, rfl, h1⟩
        rw [h] at this
        simp at this
        omega
  have hms : ∀ x ∈ (List.replicate cs.length 0).set i 1, x ≤ 1 := fun x hx => by
    obtain ⟨k, hk, rfl⟩ := List.mem_iff_getElem.1 hx
    have h1 := hg k (by omega)
    rw [List.getElem?_eq_getElem (by omega), Option.getD_some] at h1
    rw [h1]
    split <;> omega
  have hn1 : nat1 ((List.replicate cs.length 0).set i 1) i = 1 := by rw [nat1, hg i hi, if_pos rfl]
  have hkr : krN ((List.replicate cs.length 0).set i 1) = 1024 := by
    rw [krN_lvs cs _ hl hj, h]
    simp [hn1]
  refine ⟨hl, hj, fun h11 => ⟨by omega, h11, .inr ⟨?_, hkr⟩⟩, ?_, fun x hx => by have := hms x hx; omega⟩
  · unfold someN
    have : ∀ (n k : Nat), k < n → ((List.replicate n 0).set k 1).countP (fun n => decide (0 < n)) = 1 := fun n => by
      induction n with
      | zero => intro k hk; omega
      | succ n ih =>
        intro k hk
        rw [List.replicate_succ]
        cases k with
        | zero => simp [List.countP_replicate]
        | succ k =>
          rw [List.set_cons_succ, List.countP_cons, ih k (by omega)]
          simp
    exact this _ _ hi
  · rw [costN_lvs, h]
    have hp : posC cs = [c] := by rw [← lvs_fst, h]; rfl
    unfold bestN
    rw [hp]
    simp [hn1]
end Go.Proofs.Ytmcobnbahkoopaa.Bm
