/-
  Plain mathematics for layer 19 (train): a heap of pieces that are worth what they were, or less: what is on top, and worth as much as ever, is the first greatest; how great a heap is, told by its memory. It speaks of no program. No condition.
-/
import Derived.Test.YtaebnkeddcbmkaaGa
import Derived.Test.YtaebnkeddcbmkaaGm
namespace Go.Proofs.Ytaebnkeddcbmkaa
open Go.RowKit
namespace Bm
/-- A heap over candidates: each of its pieces is one, and worth no more than is told; each candidate that is worth more than nothing is in it. -/
def HInv (C : List ByteArray) (v : ByteArray → Nat) (L : List Pce) : Prop :=
  (∀ x ∈ L, C[x.2.2]? = some x.1 ∧ 0 < x.2.1 ∧ v x.1 ≤ x.2.1) ∧ (∀ j t, C[j]? = some t → 0 < v t → ∃ x ∈ L, x.2.2 = j)
section
variable {C : List ByteArray} {v v' : ByteArray → Nat} {L L' : List Pce} {x : Pce}
theorem hinv_perm (hp : L'.Perm L) (h : HInv C v L) : HInv C v L' :=
  ⟨fun y hy => h.1 y (hp.mem_iff.1 hy), fun j t hj hv => by
    obtain ⟨y, hy, e⟩ := h.2 j t hj hv
    exact ⟨y, hp.mem_iff.2 hy, e⟩⟩
theorem hinv_drop (h : HInv C v (x :: L)) (h0 : v x.1 = 0) : HInv C v L :=
  ⟨fun y hy => h.1 y (List.mem_cons_of_mem _ hy), fun j t hj hv => by
    obtain ⟨y, hy, e⟩ := h.2 j t hj hv
    rcases List.mem_cons.1 hy with rfl | hy
    · have h1 := (h.1 y List.mem_cons_self).1
      rw [e, hj] at h1
      injection h1 with h1
      subst h1
      omega
    · exact ⟨y, hy, e⟩⟩
theorem hinv_low (h : HInv C v (x :: L)) (h0 : 0 < v x.1) : HInv C v ((x.1, v x.1, x.2.2) :: L) :=
  ⟨fun y hy => by
    rcases List.mem_cons.1 hy with rfl | hy
    · exact ⟨(h.1 x List.mem_cons_self).1, h0, Nat.le_refl _⟩
    · exact h.1 y (List.mem_cons_of_mem _ hy), fun j t hj hv => by
    obtain ⟨y, hy, e⟩ := h.2 j t hj hv
    rcases List.mem_cons.1 hy with rfl | hy
    · exact ⟨_, List.mem_cons_self, e⟩
    · exact ⟨y, List.mem_cons_of_mem _ hy, e⟩⟩
theorem hinv_first (h : HInv C v (x :: L)) (hl : ∀ y ∈ L, ¬ lt3 y x) (he : v x.1 = x.2.1) : scan v C (⟨#[]⟩, 0) = (x.1, v x.1) := by
  obtain ⟨h1, h2, h3⟩ := h.1 x List.mem_cons_self
  obtain ⟨hj, hx⟩ := List.getElem?_eq_some_iff.1 h1
  have hC : C = C.take x.2.2 ++ x.1 :: C.drop (x.2.2 + 1) := by
    rw [← hx, ← List.drop_eq_getElem_cons hj, List.take_append_drop]
  have key : ∀ k t, C[k]? = some t → v t ≤ v x.1 ∧ (k < x.2.2 → v t < v x.1) := fun k t hk => by
    rcases Nat.eq_zero_or_pos (v t) with h0 | h0
    · omega
    · obtain ⟨y, hy, e⟩ := h.2 k t hk h0
      have hy1 := h.1 y hy
      rw [e, hk] at hy1
      obtain ⟨hy1, hy2, hy3⟩ := hy1
      injection hy1 with hy1
      subst hy1
      rcases List.mem_cons.1 hy with rfl | hy
      · exact ⟨Nat.le_refl _, fun hlt => by omega⟩
      · have hnl := hl y hy
        unfold lt3 at hnl
        constructor
        · omega
        · intro hlt; omega
  rw [hC]
  refine scan_at v x.1 _ (fun t ht => ?_) _ _ (fun t ht => ?_) (by show 0 < v x.1; omega)
  · obtain ⟨k, hk, e⟩ := List.mem_iff_getElem.1 ht
    rw [List.length_drop] at hk
    rw [List.getElem_drop] at e
    exact (key (x.2.2 + 1 + k) t (by rw [List.getElem?_eq_getElem (by omega), e])).1
  · obtain ⟨k, hk, e⟩ := List.mem_iff_getElem.1 ht
    rw [List.length_take] at hk
    rw [List.getElem_take] at e
    exact (key k t (by rw [List.getElem?_eq_getElem (by omega), e])).2 (by omega)
theorem hinv_none (h : HInv C v []) : scan v C (⟨#[]⟩, 0) = (⟨#[]⟩, 0) := scan_low v C _ (fun t ht => by
  obtain ⟨j, hj, e⟩ := List.mem_iff_getElem.1 ht
  rcases Nat.eq_zero_or_pos (v t) with h0 | h0
  · rw [h0]; exact Nat.le_refl _
  · obtain ⟨y, hy, _⟩ := h.2 j t (by rw [List.getElem?_eq_getElem hj, e]) h0
    simp at hy)
theorem hinv_taken (h : HInv C v (x :: L)) (hle : ∀ t, v' t ≤ v t) (h0 : v' x.1 = 0) : HInv C v' L :=
  hinv_drop (x := x) ⟨fun y hy => ⟨(h.1 y hy).1, (h.1 y hy).2.1, Nat.le_trans (hle _) (h.1 y hy).2.2⟩, fun j t hj hv => h.2 j t hj (Nat.lt_of_lt_of_le hv (hle t))⟩ h0
theorem hinv_start (v : ByteArray → Nat) : HInv [] v [] := ⟨fun y hy => by simp at hy, fun j t hj => by simp at hj⟩
theorem hinv_snoc (h : HInv C v L) (t : ByteArray) (h0 : 0 < v t) : HInv (C ++ [t]) v (L ++ [(t, v t, C.length)]) := by
  refine ⟨fun y hy => ?_, fun j u hj hv => ?_⟩
  · rcases List.mem_append.1 hy with hy | hy
    · obtain ⟨h1, h2⟩ := h.1 y hy
      obtain ⟨hl, _⟩ := List.getElem?_eq_some_iff.1 h1
      exact ⟨by rw [List.getElem?_append_left hl]; exact h1, h2⟩
    · rw [List.mem_singleton] at hy
      subst hy
      exact ⟨by simp, h0, Nat.le_refl _⟩
  · rcases Nat.lt_or_ge j C.length with hl | hl
    · rw [List.getElem?_append_left hl] at hj
      obtain ⟨y, hy, e⟩ := h.2 j u hj hv
      exact ⟨y, List.mem_append_left _ hy, e⟩
    · rw [List.getElem?_append_right hl] at hj
      have : j = C.length := by
        rcases Nat.eq_or_lt_of_le hl with e | e
        · exact e.symm
        · rw [List.getElem?_eq_none (by simp; omega)] at hj; cases hj
      exact ⟨_, List.mem_append_right _ (List.mem_singleton.2 rfl), this.symm⟩
theorem hinv_same (h : HInv C v L) (t : ByteArray) (h0 : v t = 0) : HInv (C ++ [t]) v L := by
  refine ⟨fun y hy => ?_, fun j u hj hv => ?_⟩
  · obtain ⟨h1, h2⟩ := h.1 y hy
    obtain ⟨hl, _⟩ := List.getElem?_eq_some_iff.1 h1
    exact ⟨by rw [List.getElem?_append_left hl]; exact h1, h2⟩
  · rcases Nat.lt_or_ge j C.length with hl | hl
    · rw [List.getElem?_append_left hl] at hj
      exact h.2 j u hj hv
    · rw [List.getElem?_append_right hl] at hj
      rcases Nat.eq_or_lt_of_le hl with e | e
      · rw [← e] at hj
        simp at hj
        subst hj
        omega
      · rw [List.getElem?_eq_none (by simp; omega)] at hj; cases hj
end
end Bm
/-- How great cells are; a heap's, told by its memory. -/
def hmsL (xs : List Value) : Nat := (xs.map fun v => (intOf v).toNat + 1).sum
def hmsW (w : World) (p : Nat) : Nat := match w.heap[p]? with
  | some (Obj.cells cs _ _) => (match cs[0]? with
    | some (Value.slice (some a) n _) => (match w.heap[a.block]? with
      | some (Obj.cells rs _ _) => hmsL (rs.toList.take (n * 3))
      | _ => 0)
    | _ => 0)
  | _ => 0
theorem hmsW_pil {w : World} {base p g cap : Nat} {L : List Pce} (h : PilQ w base p g cap L) : hmsW w p = hmsL (p3 L) := by
  obtain ⟨post, _, hr⟩ := h.row
  have hv := h.var
  unfold Row at hr hv
  have hl : (p3 L).length = L.length * 3 := cc3_length L
  unfold hmsW
  rw [hv]
  simp only [List.getElem?_toArray, List.getElem?_cons_zero]
  rw [hr]
  simp only []
  rw [← hl, List.take_left]
theorem hmsL_p3 (L : List Pce) : hmsL (p3 L) = (L.map fun x : Pce => x.2.1 + x.2.2 + 3).sum := by
  unfold hmsL p3
  induction L with
  | nil => rfl
  | cons x L ih =>
    have e1 : intOf (pcT x) = 0 := rfl
    have e2 : intOf (pcW x) = (x.2.1 : Int) := rfl
    have e3 : intOf (pcO x) = (x.2.2 : Int) := rfl
    rw [cc3, List.map_cons, List.map_cons, List.map_cons, List.sum_cons, List.sum_cons, List.sum_cons, ih, List.map_cons, List.sum_cons, e1, e2, e3]
    omega
theorem hms_perm {L L' : List Pce} (h : L.Perm L') : hmsL (p3 L) = hmsL (p3 L') := by
  rw [hmsL_p3, hmsL_p3]
  exact (h.map _).sum_nat
theorem hms_cons (x : Pce) (L : List Pce) : hmsL (p3 (x :: L)) = x.2.1 + x.2.2 + 3 + hmsL (p3 L) := by
  rw [hmsL_p3, hmsL_p3]
  simp
end Go.Proofs.Ytaebnkeddcbmkaa
