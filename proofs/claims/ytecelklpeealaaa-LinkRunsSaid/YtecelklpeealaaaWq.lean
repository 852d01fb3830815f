/-
  A queue that the call owns: a slice that may begin anywhere in a row of its own; one more behind it (in the row that it has, or in a new one), the first one gone. Conditions: as each theorem's premises say.
-/
import Derived.Test.YtecelklpeealaaaGw
import Derived.Test.YtecelklpeealaaaIn
import Derived.Deep.AppendSrc
import Derived.RegionTactic
import Derived.Deep.RegionLaw
import Derived.Deep.DrawnRows
import Derived.Shelf.RegionOpenPlain
namespace Go.Proofs.Ytecelklpeealaaa
open Go.RowKit

/-- A slice of the call's own, of elements of one cell, that reads as xs; it may begin anywhere in its row. -/
def QRow (w : World) (base : Nat) (e : TypeId) (v : Value) (xs : List Value) : Prop :=
  (v = .slice none 0 0 ∧ xs = []) ∨ ∃ g off cap cur, v = .slice (some ⟨g, off, none⟩) xs.length cap ∧ base ≤ g ∧ w.heap[g]? = some (.cells cur e (0, 0)) ∧ xs.length ≤ cap ∧ cap ≤ maxLen ∧ off + cap ≤ cur.size ∧ ∀ j (h : j < xs.length), cur[off + j]? = some xs[j]
section
variable {w w' : World} {base : Nat} {e : TypeId} {v : Value} {xs : List Value}
theorem QRow.nil (w : World) (base : Nat) (e : TypeId) : QRow w base e (.slice none 0 0) [] := Or.inl ⟨rfl, rfl⟩
theorem QRow.shape (h : QRow w base e v xs) : ∃ A c, v = .slice A xs.length c := by
  rcases h with ⟨rfl, rfl⟩ | ⟨g, off, cap, cur, rfl, _⟩
  · exact ⟨none, 0, rfl⟩
  · exact ⟨_, _, rfl⟩
theorem QRow.ownT (h : QRow w base e v xs) : ∀ k, v.ownBlock = some k → base ≤ k ∧ ∃ cs fz, w.heap[k]? = some (.cells cs e fz) := fun k hk => by
  rcases h with ⟨rfl, _⟩ | ⟨g, off, cap, cur, rfl, hb, hg, _⟩
  · simp [Value.ownBlock] at hk
  · simp only [Value.ownBlock, Option.some.injEq] at hk
    subst hk
    exact ⟨hb, _, _, hg⟩
theorem QRow.keep (h : QRow w base e v xs) (hk : ∀ k, v.ownBlock = some k → w'.heap[k]? = w.heap[k]?) : QRow w' base e v xs := by
  rcases h with h | ⟨g, off, cap, cur, rfl, hb, hg, h⟩
  · exact Or.inl h
  · exact Or.inr ⟨g, off, cap, cur, rfl, hb, (hk g rfl).trans hg, h⟩
theorem QRow.below (h : QRow w base e v xs) (hb : Below w.heap.size w w') : QRow w' base e v xs := h.keep fun k hk => hb.block k (by
  obtain ⟨_, cs, fz, h1⟩ := h.ownT k hk
  rcases Nat.lt_or_ge k w.heap.size with h2 | h2
  · exact h2
  · rw [Array.getElem?_eq_none h2] at h1; cases h1)
/-- The first one: where it lies. -/
theorem QRow.head {x : Value} (h : QRow w base e v (x :: xs)) : ∃ g off cap, v = .slice (some ⟨g, off, none⟩) (xs.length + 1) cap ∧ xs.length + 1 ≤ cap ∧ cap ≤ maxLen ∧ w.cell? ⟨g, off, none⟩ = some x ∧
    QRow w base e (.slice (if cap = 1 then some ⟨g, off, none⟩ else some ⟨g, off + 1, none⟩) xs.length (cap - 1)) xs := by
  rcases h with ⟨_, h⟩ | ⟨g, off, cap, cur, rfl, hb, hg, hl, hm, hs, hc⟩
  · cases h
  · rw [List.length_cons] at hl
    refine ⟨g, off, cap, rfl, hl, hm, ?_, Or.inr ?_⟩
    · rw [cell_of_row w g off cur e (0, 0) hg]
      exact hc 0 (Nat.zero_lt_succ _)
    · by_cases h1 : cap = 1
      · subst h1
        obtain rfl : xs = [] := List.eq_nil_of_length_eq_zero (by omega)
        exact ⟨g, off, 0, cur, by rw [if_pos rfl], hb, hg, Nat.le_refl _, Nat.zero_le _, by omega, fun j hj => absurd hj (Nat.not_lt_zero _)⟩
      · refine ⟨g, off + 1, cap - 1, cur, by rw [if_neg h1], hb, hg, by omega, by omega, by omega, fun j hj => ?_⟩
        have := hc (j + 1) (by rw [List.length_cons]; omega)
        rw [List.getElem_cons_succ] at this
        rw [← this]
        congr 1
        omega
end
section
variable {P : Program}
/-- One more behind it: where there is room, there; else a new row. -/
theorem run_append_q (w : World) (t ty : TypeId) (base : Nat) (e : TypeId) (i : TypeInfo) (z : Value) (bytes : Nat) (ht : P.underlying t = some (.slice e)) (hi : P.info? e = some i) (hz : i.zero = some z)
    (hsize : i.size = 1) (hby : i.bytes = bytes) (hzs : z.cells.size = 1)
    (v : Value) (xs : List Value) (hq : QRow w base e v xs)
    (B o c : Nat) (u : Value) (hu : w.cell? ⟨B, o, none⟩ = some u) (h1 : u.oneCell' = true)
    (hbytes : (xs.length + 1) * bytes ≤ 140737488355328) (h63 : xs.length + 1 ≤ maxLen) (hbase : base ≤ w.heap.size) :
    ∃ v' w', (Builtin.append_ #[t, t] ty #[v, .slice (some ⟨B, o, none⟩) 1 c]).run P w = .ok v' w' ∧ QRow w' base e v' (xs ++ [u]) ∧ w.grownBy w' v.ownBlock ∧ ∀ k, v'.ownBlock = some k → v.ownBlock = some k ∨ w.heap.size ≤ k := by
  have hsmall : xs.length + 1 ≤ 9223372036854775807 := by simp only [maxLen] at h63; omega
  have hnews : ∀ j y, [u][j]? = some y → w.cell? ((⟨B, o, none⟩ : Addr).add j) = some y := fun j y hj => by
    match j, hj with
    | 0, hj =>
      simp at hj
      subst hj
      have : (⟨B, o, none⟩ : Addr).add 0 = ⟨B, o, none⟩ := by unfold Addr.add; split <;> simp_all
      rw [this]
      exact hu
  have hsrc : Src P i.size t (.slice (some ⟨B, o, none⟩) 1 c) 1 [u] w := Src.ofSlice w ht ⟨B, o, none⟩ 1 c [u] (by rw [hsize]; rfl) hnews (fun y hy => by rw [List.mem_singleton.1 hy]; exact h1)
  have grown : ∀ old, ∀ row : Option Nat, QRow (w.drew.alloc (.cells ((xs ++ [u]).toArray ++ Builtin.zeroCells z.cells (grownCap w (xs.length + 1) old e - (xs.length + 1))) e)) base e (.slice (some ⟨w.heap.size, 0, none⟩) (xs.length + 1) (grownCap w (xs.length + 1) old e)) (xs ++ [u]) ∧
      w.grownBy (w.drew.alloc (.cells ((xs ++ [u]).toArray ++ Builtin.zeroCells z.cells (grownCap w (xs.length + 1) old e - (xs.length + 1))) e)) row := fun old row => by
    have hge := grownCap_ge w (xs.length + 1) old e
    have hcm := grownCap_le_maxLen w (xs.length + 1) old e h63
    have hl : (xs ++ [u]).length = xs.length + 1 := by rw [List.length_append, List.length_singleton]
    refine ⟨Or.inr ⟨w.heap.size, 0, _, _, by rw [hl], hbase, heap_alloc_new w.drew _, by rw [hl]; exact hge, hcm, ?_, fun j hj => ?_⟩, ⟨rfl, rfl, rfl, by simp, fun k hk _ => Below.heap_alloc w.drew _ k hk⟩⟩
    · rw [Array.size_append, size_zeroCells, hzs, List.size_toArray, hl]
      omega
    · rw [Nat.zero_add, Array.getElem?_append_left (by rw [List.size_toArray]; exact hj), List.getElem?_toArray, List.getElem?_eq_getElem hj]
  rcases hq with ⟨rfl, rfl⟩ | ⟨g, off, cap, cur, rfl, hb, hg, hl, hm, hs, hc⟩
  · have hr := run_append_nil (P := P) w t ty e i z ht hi hz ⟨B, o, none⟩ 1 c [u] (by rw [hsize]; rfl) hnews (by omega) (by omega) (by subst hby; simp at hbytes; omega)
    have hgr := grown 0 (Value.ownBlock (.slice none 0 0))
    exact ⟨_, _, hr, hgr.1, hgr.2, fun k hk => Or.inr (by simp only [Value.ownBlock, Option.some.injEq] at hk; omega)⟩
  · by_cases hroom : xs.length + 1 ≤ cap
    · have hcell : ∀ j, j < [u].length → (w.cell? ⟨g, off + xs.length * i.size + j, none⟩).isSome = true := fun j hj => by
        rw [cell_of_row w g _ cur e (0, 0) hg, hsize]
        rw [List.length_singleton] at hj
        rw [Array.getElem?_eq_getElem (by omega)]
        rfl
      have hfz : ∀ j, j < [u].length → w.frozen? ⟨g, off + xs.length * i.size + j, none⟩ = false := fun j _ => by simp [World.frozen?, hg]
      have hr := run_append_room_src (P := P) w t t ty e i ht hi g off xs.length cap (.slice (some ⟨B, o, none⟩) 1 c) 1 [u] hsrc hroom hcell hfz
      rw [hsize, Nat.mul_one] at hr
      have hst : w.setCells g (off + xs.length) [u] = w.setCell ⟨g, off + xs.length, none⟩ u := rfl
      rw [hst] at hr
      refine ⟨_, _, hr, Or.inr ⟨g, off, cap, cur.setIfInBounds (off + xs.length) u, by rw [List.length_append, List.length_singleton], hb, ?_, by rw [List.length_append, List.length_singleton]; exact hroom, hm, by simpa using hs, fun j hj => ?_⟩, grown_set (grown_refl w _) _ _, fun k hk => Or.inl hk⟩
      · simp [World.setCell, Array.getElem?_modify, hg]
      · rw [List.length_append, List.length_singleton] at hj
        by_cases hj2 : j = xs.length
        · subst hj2
          rw [Array.getElem?_setIfInBounds_self_of_lt (by omega), List.getElem_append_right (Nat.le_refl _)]
          simp
        · rw [Array.getElem?_setIfInBounds_ne (by omega), List.getElem_append_left (by omega)]
          exact hc j (by omega)
    · have hold : (Builtin.firstCells i.size xs.length (.slice (some ⟨g, off, none⟩) xs.length cap)).run P w.drew = .ok xs.toArray w.drew :=
        run_firstCells_some (P := P) w.drew i.size xs.length ⟨g, off, none⟩ xs.length cap xs (by rw [hsize, Nat.mul_one]) (fun j y hj => by
          have hjl : j < xs.length := by
            rcases Nat.lt_or_ge j xs.length with h3 | h3
            · exact h3
            · rw [List.getElem?_eq_none h3] at hj; cases hj
          have hadd : (⟨g, off, none⟩ : Addr).add j = ⟨g, off + j, none⟩ := by unfold Addr.add; split <;> simp_all
          rw [hadd]
          refine (cell_of_row w g (off + j) cur e (0, 0) hg).trans ?_
          rw [hc j hjl, ← hj, List.getElem?_eq_getElem hjl])
      have hr := run_append_grow_src (P := P) w t t ty e i z ht hi hz (some ⟨g, off, none⟩) xs.length cap xs hold (.slice (some ⟨B, o, none⟩) 1 c) 1 [u] hsrc (by omega) (by omega) (growslice_fits (by omega) (by subst hby; exact hbytes))
      have hgr := grown cap (Value.ownBlock (.slice (some ⟨g, off, none⟩) xs.length cap))
      exact ⟨_, _, hr, hgr.1, hgr.2, fun k hk => Or.inr (by simp only [Value.ownBlock, Option.some.injEq] at hk; omega)⟩
/-- .. at the operation. -/
theorem wp_append_q {w : World} {o : Oper} {a : Act} {K : Act → World → Prop} {Q : Exit → Act → World → Prop} (s x : Operand) (t : TypeId)
    (ho : o.op = .call { callee := .builtin .append, args := #[s, x], argTypes := #[t, t] })
    (base : Nat) (e : TypeId) (i : TypeInfo) (z : Value) (bytes : Nat) (ht : P.underlying t = some (.slice e)) (hi : P.info? e = some i) (hz : i.zero = some z)
    (hsize : i.size = 1) (hby : i.bytes = bytes) (hzs : z.cells.size = 1)
    (v : Value) (xs : List Value) (hs : a.eval s = v) (hq : QRow w base e v xs)
    (B f c : Nat) (u : Value) (hx : a.eval x = .slice (some ⟨B, f, none⟩) 1 c) (hu : w.cell? ⟨B, f, none⟩ = some u) (h1 : u.oneCell' = true)
    (hbytes : (xs.length + 1) * bytes ≤ 140737488355328) (h63 : xs.length + 1 ≤ maxLen) (hbase : base ≤ w.heap.size)
    (h : ∀ v' w', QRow w' base e v' (xs ++ [u]) → w.grownBy w' v.ownBlock → (∀ k, v'.ownBlock = some k → v.ownBlock = some k ∨ w.heap.size ≤ k) → K (a.put o.dst v') w') : o.wp P a w K Q := by
  obtain ⟨v', w', hr, h2, h3, h4⟩ := run_append_q (P := P) w t o.type base e i z bytes ht hi hz hsize hby hzs v xs hq B f c u hu h1 hbytes h63 hbase
  unfold Oper.wp execOp
  simp only [ho, resolve, invoke, builtin, Sem.run_bind, Sem.run_pure, Result.andThen_ok, List.map_toArray, List.map_cons, List.map_nil, hs, hx, hr]
  exact h v' w' h2 h3 h4
/-- .. at a step of a region that draws its order. -/
theorem step_append_q {w : World} {ops : Array Oper} {o : Oper} {a : Act} {K : Act → World → Prop} {Q : Exit → Act → World → Prop} {E : Prop} (hgd : o.guard = none) (s x : Operand) (t : TypeId)
    (ho : o.op = .call { callee := .builtin .append, args := #[s, x], argTypes := #[t, t] })
    (base : Nat) (e : TypeId) (i : TypeInfo) (z : Value) (bytes : Nat) (ht : P.underlying t = some (.slice e)) (hi : P.info? e = some i) (hz : i.zero = some z)
    (hsize : i.size = 1) (hby : i.bytes = bytes) (hzs : z.cells.size = 1)
    (v : Value) (xs : List Value) (hs : a.eval s = v) (hq : QRow w base e v xs)
    (B f c : Nat) (u : Value) (hx : a.eval x = .slice (some ⟨B, f, none⟩) 1 c) (hu : w.cell? ⟨B, f, none⟩ = some u) (h1 : u.oneCell' = true)
    (hbytes : (xs.length + 1) * bytes ≤ 140737488355328) (h63 : xs.length + 1 ≤ maxLen) (hbase : base ≤ w.heap.size)
    (h : ∀ v' w', QRow w' base e v' (xs ++ [u]) → w.grownBy w' v.ownBlock → (∀ k, v'.ownBlock = some k → v.ownBlock = some k ∨ w.heap.size ≤ k) → K (a.put o.dst v') w') :
    if Region.wanted o (yielded ops a.tmps) = true then Oper.wp P o a w K Q else E := by
  have hw : Region.wanted o (yielded ops a.tmps) = true := by simp [Region.wanted, hgd]
  rw [if_pos hw]
  exact wp_append_q s x t ho base e i z bytes ht hi hz hsize hby hzs v xs hs hq B f c u hx hu h1 hbytes h63 hbase h
end
end Go.Proofs.Ytecelklpeealaaa
