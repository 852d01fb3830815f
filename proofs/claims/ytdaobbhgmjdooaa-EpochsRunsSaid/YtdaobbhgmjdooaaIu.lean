/-
  The reference of layer 21 (epochs), by its walk: Add. Conditions: as the theorem's premises say.
-/
import Derived.Test.YtdaobbhgmjdooaaIs
import Derived.Deep.DeepCutAuto
namespace Go.Proofs.Ytdaobbhgmjdooaa
open Go.RowKit

/-- One more of T: an append to its row, and the new slice laid into the Store. -/
theorem RV.appT {w : World} {p base : Nat} {vT vB vH : Value} {T : List ByteArray} {B : List Bool} {H : List Nat} (h : RV w p base vT vB vH T B H) (o : Obj) (t : ByteArray) {g cap : Nat} {w' : World}
    (hown : w'.ownsRow base 9 1 (.slice (some ⟨g, 0, none⟩) (T.length + 1) cap) (T.length + 1) (strC T ++ [Value.string t])) (hgr : (w.alloc o).grownBy w' vT.ownBlock) :
    Row w' p 31 [vT, vB, vH] ∧ RV (w'.setCell ⟨p, 0, none⟩ (.slice (some ⟨g, 0, none⟩) (T.length + 1) cap)) p base (.slice (some ⟨g, 0, none⟩) (T.length + 1) cap) vB vH (T ++ [t]) B H ∧ KeptE base p w (w'.setCell ⟨p, 0, none⟩ (.slice (some ⟨g, 0, none⟩) (T.length + 1) cap)) := by
  have hrow : Row w' p 31 [vT, vB, vH] := (h.row.alloc o).keep (hgr.block p (by have := h.row.lt; simp; omega) (fun e => own_rowE h.oT h.row (by decide) e.symm))
  have hset : w'.grownBy (w'.setCell ⟨p, 0, none⟩ (.slice (some ⟨g, 0, none⟩) (T.length + 1) cap)) (some p) := grown_set (grown_refl w' (some p)) 0 _
  refine ⟨hrow, ⟨?_, (by rw [List.length_append, List.length_singleton, show strC (T ++ [t]) = strC T ++ [Value.string t] by simp [strC]]; exact hown.kept hset (Or.inr (own_rowE hown hrow (by decide)))), (((h.oB.alloc o).kept hgr (own_ownE h.oB h.oT (by decide))).kept hset (Or.inr (own_rowE ((h.oB.alloc o).kept hgr (own_ownE h.oB h.oT (by decide))) hrow (by decide)))), (((h.oH.alloc o).kept hgr (own_ownE h.oH h.oT (by decide))).kept hset (Or.inr (own_rowE ((h.oH.alloc o).kept hgr (own_ownE h.oH h.oT (by decide))) hrow (by decide)))), h.lt, ?_⟩, ?_⟩
  · exact hrow.set_ 0 _
  · refine Nat.le_trans h.le (Nat.le_trans ?_ hset.size)
    have := hgr.size
    simp at this
    omega
  · exact ((KeptE.of_below (Below.alloc (Below.refl w.heap.size w) (Nat.le_refl _) o)).trans (KeptE.grown hgr (fun k e => Or.inr (own_ownT (h.oT.alloc o) (Or.inl rfl) k e)))).trans (KeptE.set_ (Or.inl rfl) _)
/-- One more of B: an append to its row, and the new slice laid into the Store. -/
theorem RV.appB {w : World} {p base : Nat} {vT vB vH : Value} {T : List ByteArray} {B : List Bool} {H : List Nat} (h : RV w p base vT vB vH T B H) (o : Obj) (t : Bool) {g cap : Nat} {w' : World}
    (hown : w'.ownsRow base 4 1 (.slice (some ⟨g, 0, none⟩) (B.length + 1) cap) (B.length + 1) (booC B ++ [Value.bool t])) (hgr : (w.alloc o).grownBy w' vB.ownBlock) :
    Row w' p 31 [vT, vB, vH] ∧ RV (w'.setCell ⟨p, 1, none⟩ (.slice (some ⟨g, 0, none⟩) (B.length + 1) cap)) p base vT (.slice (some ⟨g, 0, none⟩) (B.length + 1) cap) vH T (B ++ [t]) H ∧ KeptE base p w (w'.setCell ⟨p, 1, none⟩ (.slice (some ⟨g, 0, none⟩) (B.length + 1) cap)) := by
  have hrow : Row w' p 31 [vT, vB, vH] := (h.row.alloc o).keep (hgr.block p (by have := h.row.lt; simp; omega) (fun e => own_rowE h.oB h.row (by decide) e.symm))
  have hset : w'.grownBy (w'.setCell ⟨p, 1, none⟩ (.slice (some ⟨g, 0, none⟩) (B.length + 1) cap)) (some p) := grown_set (grown_refl w' (some p)) 1 _
  refine ⟨hrow, ⟨?_, (((h.oT.alloc o).kept hgr (own_ownE h.oT h.oB (by decide))).kept hset (Or.inr (own_rowE ((h.oT.alloc o).kept hgr (own_ownE h.oT h.oB (by decide))) hrow (by decide)))), (by rw [List.length_append, List.length_singleton, show booC (B ++ [t]) = booC B ++ [Value.bool t] by simp [booC]]; exact hown.kept hset (Or.inr (own_rowE hown hrow (by decide)))), (((h.oH.alloc o).kept hgr (own_ownE h.oH h.oB (by decide))).kept hset (Or.inr (own_rowE ((h.oH.alloc o).kept hgr (own_ownE h.oH h.oB (by decide))) hrow (by decide)))), h.lt, ?_⟩, ?_⟩
  · exact hrow.set_ 1 _
  · refine Nat.le_trans h.le (Nat.le_trans ?_ hset.size)
    have := hgr.size
    simp at this
    omega
  · exact ((KeptE.of_below (Below.alloc (Below.refl w.heap.size w) (Nat.le_refl _) o)).trans (KeptE.grown hgr (fun k e => Or.inr (own_ownT (h.oB.alloc o) (Or.inr (Or.inl rfl)) k e)))).trans (KeptE.set_ (Or.inl rfl) _)
/-- One more of H: an append to its row, and the new slice laid into the Store. -/
theorem RV.appH {w : World} {p base : Nat} {vT vB vH : Value} {T : List ByteArray} {B : List Bool} {H : List Nat} (h : RV w p base vT vB vH T B H) (o : Obj) (t : Nat) {g cap : Nat} {w' : World}
    (hown : w'.ownsRow base 3 1 (.slice (some ⟨g, 0, none⟩) (H.length + 1) cap) (H.length + 1) (i64s H ++ [Value.int .i64 (t : Int)])) (hgr : (w.alloc o).grownBy w' vH.ownBlock) :
    Row w' p 31 [vT, vB, vH] ∧ RV (w'.setCell ⟨p, 2, none⟩ (.slice (some ⟨g, 0, none⟩) (H.length + 1) cap)) p base vT vB (.slice (some ⟨g, 0, none⟩) (H.length + 1) cap) T B (H ++ [t]) ∧ KeptE base p w (w'.setCell ⟨p, 2, none⟩ (.slice (some ⟨g, 0, none⟩) (H.length + 1) cap)) := by
  have hrow : Row w' p 31 [vT, vB, vH] := (h.row.alloc o).keep (hgr.block p (by have := h.row.lt; simp; omega) (fun e => own_rowE h.oH h.row (by decide) e.symm))
  have hset : w'.grownBy (w'.setCell ⟨p, 2, none⟩ (.slice (some ⟨g, 0, none⟩) (H.length + 1) cap)) (some p) := grown_set (grown_refl w' (some p)) 2 _
  refine ⟨hrow, ⟨?_, (((h.oT.alloc o).kept hgr (own_ownE h.oT h.oH (by decide))).kept hset (Or.inr (own_rowE ((h.oT.alloc o).kept hgr (own_ownE h.oT h.oH (by decide))) hrow (by decide)))), (((h.oB.alloc o).kept hgr (own_ownE h.oB h.oH (by decide))).kept hset (Or.inr (own_rowE ((h.oB.alloc o).kept hgr (own_ownE h.oB h.oH (by decide))) hrow (by decide)))), (by rw [List.length_append, List.length_singleton, show i64s (H ++ [t]) = i64s H ++ [Value.int .i64 (t : Int)] by simp [i64s]]; exact hown.kept hset (Or.inr (own_rowE hown hrow (by decide)))), h.lt, ?_⟩, ?_⟩
  · exact hrow.set_ 2 _
  · refine Nat.le_trans h.le (Nat.le_trans ?_ hset.size)
    have := hgr.size
    simp at this
    omega
  · exact ((KeptE.of_below (Below.alloc (Below.refl w.heap.size w) (Nat.le_refl _) o)).trans (KeptE.grown hgr (fun k e => Or.inr (own_ownT (h.oH.alloc o) (Or.inr (Or.inr rfl)) k e)))).trans (KeptE.set_ (Or.inl rfl) _)
theorem RV.setB {w : World} {p base g n cap j : Nat} {vT vH : Value} {T : List ByteArray} {B : List Bool} {H : List Nat} (hn : B.length = n) (h : RV w p base vT (.slice (some ⟨g, 0, none⟩) n cap) vH T B H) (t : Bool) :
    RV (w.setCell ⟨g, j, none⟩ (Value.bool t)) p base vT (.slice (some ⟨g, 0, none⟩) n cap) vH T (B.set j t) H ∧ KeptE base p w (w.setCell ⟨g, j, none⟩ (Value.bool t)) := by
  subst hn
  have hst := h.oB.stored j (Value.bool t)
  have hg := own_ownT h.oB (Or.inr (Or.inl rfl)) g rfl
  exact ⟨⟨h.row.keep (hst.2.block p h.row.lt (fun e => own_rowE h.oB h.row (by decide) e.symm)), (h.oT.kept hst.2 (own_ownE h.oT h.oB (by decide))), (by rw [List.length_set, show booC (B.set j t) = (booC B).set j (Value.bool t) by simp [booC, List.map_set]]; exact hst.1), (h.oH.kept hst.2 (own_ownE h.oH h.oB (by decide))), h.lt, Nat.le_trans h.le hst.2.size⟩, KeptE.set_ (Or.inr hg) _⟩
theorem RV.setH {w : World} {p base g n cap j : Nat} {vT vB : Value} {T : List ByteArray} {B : List Bool} {H : List Nat} (hn : H.length = n) (h : RV w p base vT vB (.slice (some ⟨g, 0, none⟩) n cap) T B H) (t : Nat) :
    RV (w.setCell ⟨g, j, none⟩ (Value.int .i64 (t : Int))) p base vT vB (.slice (some ⟨g, 0, none⟩) n cap) T B (H.set j t) ∧ KeptE base p w (w.setCell ⟨g, j, none⟩ (Value.int .i64 (t : Int))) := by
  subst hn
  have hst := h.oH.stored j (Value.int .i64 (t : Int))
  have hg := own_ownT h.oH (Or.inr (Or.inr rfl)) g rfl
  exact ⟨⟨h.row.keep (hst.2.block p h.row.lt (fun e => own_rowE h.oH h.row (by decide) e.symm)), (h.oT.kept hst.2 (own_ownE h.oT h.oH (by decide))), (h.oB.kept hst.2 (own_ownE h.oB h.oH (by decide))), (by rw [List.length_set, show i64s (H.set j t) = (i64s H).set j (Value.int .i64 (t : Int)) by simp [i64s, List.map_set]]; exact hst.1), h.lt, Nat.le_trans h.le hst.2.size⟩, KeptE.set_ (Or.inr hg) _⟩
end Go.Proofs.Ytdaobbhgmjdooaa
