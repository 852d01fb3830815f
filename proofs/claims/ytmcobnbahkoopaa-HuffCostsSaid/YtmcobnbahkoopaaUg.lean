/-
  A slice of numbers in a block of the call's own, wherever in it it begins: what lies in it, a store, a cut, an append onto it. No condition.
-/
import Derived.Test.YtmcobnbahkoopaaUh
namespace Go.Proofs.Ytmcobnbahkoopaa
open Go.RowKit

/-- Block g, the call's own, holds the numbers from place off on; cap of them have room. -/
def Seg (w : World) (base g off cap : Nat) (l : List Nat) : Prop := base ≤ g ∧ cap ≤ maxLen ∧ ∃ pre post : List Value, pre.length = off ∧ l.length + post.length = cap ∧ Row w g 3 (pre ++ (i64s l ++ post))
section
variable {w w' : World} {base g off cap : Nat} {l : List Nat}
theorem Seg.lt (h : Seg w base g off cap l) : g < w.heap.size := by
  obtain ⟨_, _, _, _, _, _, h⟩ := h
  exact h.lt
theorem Seg.fits (h : Seg w base g off cap l) : l.length ≤ cap ∧ cap ≤ maxLen := by
  obtain ⟨_, h2, _, _, _, h4, _⟩ := h
  exact ⟨by omega, h2⟩
theorem Seg.keep (h : Seg w base g off cap l) (hb : w'.heap[g]? = w.heap[g]?) : Seg w' base g off cap l := by
  obtain ⟨h1, h2, pre, post, h3, h4, h5⟩ := h
  exact ⟨h1, h2, pre, post, h3, h4, h5.keep hb⟩
theorem Seg.alloc (h : Seg w base g off cap l) (o : Obj) : Seg (w.alloc o) base g off cap l := h.keep (Below.heap_alloc w o g h.lt)
theorem Seg.cell (h : Seg w base g off cap l) (j : Nat) (hj : j < l.length) : w.cell? ⟨g, off + j, none⟩ = some (.int .i64 (l[j] : Int)) := by
  obtain ⟨_, _, pre, post, rfl, _, h5⟩ := h
  rw [h5.cell, List.getElem?_append_right (Nat.le_add_right _ _), Nat.add_sub_cancel_left, List.getElem?_append_left (by rw [i64s_length]; exact hj), i64s_get? l j hj]
theorem Seg.free (h : Seg w base g off cap l) (i : Nat) : w.frozen? ⟨g, i, none⟩ = false := by
  obtain ⟨_, _, _, _, _, _, h5⟩ := h
  exact h5.free i
theorem Seg.set (h : Seg w base g off cap l) (j : Nat) (hj : j < l.length) (z : Nat) : Seg (w.setCell ⟨g, off + j, none⟩ (.int .i64 (z : Int))) base g off cap (l.set j z) := by
  obtain ⟨h1, h2, pre, post, rfl, h4, h5⟩ := h
  refine ⟨h1, h2, pre, post, rfl, by rw [List.length_set]; exact h4, ?_⟩
  have h6 := h5.set_ (pre.length + j) (.int .i64 (z : Int))
  rw [List.set_append_right _ _ (Nat.le_add_right _ _), Nat.add_sub_cancel_left, List.set_append_left _ _ (by rw [i64s_length]; exact hj)] at h6
  rw [show i64s (l.set j z) = (i64s l).set j (.int .i64 (z : Int)) by simp [i64s, List.map_set]]
  exact h6
theorem Seg.below (h : Seg w base g off cap l) (hb : Below w.heap.size w w') : Seg w' base g off cap l := h.keep (hb.block g h.lt)
theorem Seg.cut {a b : Nat} (h : Seg w base g off cap (a :: b :: l)) : 2 ≤ cap ∧ Seg w base g (off + 2) (cap - 2) l := by
  obtain ⟨h1, h2, pre, post, rfl, h4, h5⟩ := h
  rw [List.length_cons, List.length_cons] at h4
  refine ⟨by omega, h1, by omega, pre ++ i64s [a, b], post, by simp [i64s], by omega, ?_⟩
  have e : pre ++ (i64s (a :: b :: l) ++ post) = pre ++ i64s [a, b] ++ (i64s l ++ post) := by simp [i64s]
  rw [← e]
  exact h5
theorem Seg.room (h : Seg w base g off cap l) (z : Nat) (hr : l.length + 1 ≤ cap) : Seg (w.setCells g (off + l.length) [.int .i64 (z : Int)]) base g off cap (l ++ [z]) := by
  obtain ⟨h1, h2, pre, post, rfl, h4, h5⟩ := h
  match post, h4, h5 with
  | [], h4, _ => simp at h4; omega
  | y :: post, h4, h5 =>
    rw [List.length_cons] at h4
    refine ⟨h1, h2, pre, post, rfl, by rw [List.length_append]; simp; omega, ?_⟩
    have h6 := h5.set_ (pre.length + l.length) (.int .i64 (z : Int))
    rw [List.set_append_right _ _ (Nat.le_add_right _ _), Nat.add_sub_cancel_left, List.set_append_right _ _ (by rw [i64s_length]; exact Nat.le_refl _), i64s_length, Nat.sub_self, List.set_cons_zero] at h6
    have e : pre ++ (i64s (l ++ [z]) ++ post) = pre ++ (i64s l ++ Value.int .i64 (z : Int) :: post) := by simp [i64s]
    rw [e]
    simpa [World.setCells] using h6
/-- Where there is room for one more, there is a cell that may be written. -/
theorem Seg.spare (h : Seg w base g off cap l) (hr : l.length + 1 ≤ cap) : (w.cell? ⟨g, off + l.length, none⟩).isSome = true := by
  obtain ⟨h1, h2, pre, post, rfl, h4, h5⟩ := h
  rw [h5.cell, List.getElem?_append_right (Nat.le_add_right _ _), Nat.add_sub_cancel_left, List.getElem?_append_right (by rw [i64s_length]; exact Nat.le_refl _), i64s_length, Nat.sub_self]
  match post, h4 with
  | [], h4 => simp at h4; omega
  | y :: post, _ => rfl
end
theorem seg_of_own {w : World} {base n : Nat} {v : Value} {l : List Nat} (h : w.ownsRow base 3 1 v n (i64s l)) (hn : 0 < n) : l.length = n ∧ ∃ g cap, v = .slice (some ⟨g, 0, none⟩) n cap ∧ Seg w base g 0 cap l := by
  have hl : l.length = n := by have := h.1; rw [i64s_length, Nat.mul_one] at this; exact this
  rcases h.2 with ⟨_, h0⟩ | ⟨g, cap, cur, rfl, hb, hg, hnc, hcm, hcs, ht⟩
  · omega
  · rw [Nat.mul_one] at ht hcs
    refine ⟨hl, g, cap, rfl, hb, hcm, [], cur.toList.drop n, rfl, by have hcl : cur.toList.length = cur.size := Array.length_toList; rw [List.length_drop]; omega, ?_⟩
    unfold Row
    rw [List.nil_append, ← ht, List.take_append_drop, Array.toArray_toList]
    exact hg
namespace Bm
theorem posC_append (a b : List Nat) : posC (a ++ b) = posC a ++ posC b := by
  induction a with
  | nil => rfl
  | cons x a ih => rw [List.cons_append, posC, posC, ih]; split <;> rfl
theorem posC_take (cs : List Nat) (k : Nat) (h : k < cs.length) : posC (cs.take (k + 1)) = posC (cs.take k) ++ if 0 < cs[k] then [cs[k]] else [] := by
  rw [List.take_succ_eq_append_getElem h, posC_append]
  rfl
theorem posC_le (cs : List Nat) : (posC cs).length ≤ cs.length := by
  induction cs with
  | nil => simp [posC]
  | cons x a ih => rw [posC]; split <;> simp <;> omega
theorem posC_mem (cs : List Nat) (x : Nat) : x ∈ posC cs → x ∈ cs ∧ 0 < x := by
  induction cs with
  | nil => simp [posC]
  | cons y a ih =>
    rw [posC]
    split
    · next h =>
      intro hx
      rcases List.mem_cons.1 hx with rfl | hx
      · exact ⟨List.mem_cons_self, h⟩
      · exact ⟨List.mem_cons_of_mem _ (ih hx).1, (ih hx).2⟩
    · intro hx
      exact ⟨List.mem_cons_of_mem _ (ih hx).1, (ih hx).2⟩
theorem posC_some (cs : List Nat) (h : ∃ x ∈ cs, 0 < x) : 0 < (posC cs).length := by
  obtain ⟨x, hx, h0⟩ := h
  induction cs with
  | nil => simp at hx
  | cons y a ih =>
    rw [posC]
    split
    · simp
    · next hy =>
      rcases List.mem_cons.1 hx with rfl | hx
      · exact absurd h0 hy
      · exact ih hx
end Bm
end Go.Proofs.Ytmcobnbahkoopaa
