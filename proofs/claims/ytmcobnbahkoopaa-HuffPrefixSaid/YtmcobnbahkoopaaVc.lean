/-
  The program's layer 9 (huff): elements of two cells in memory; the pile's own methods, by their walks. Conditions: as each theorem's premises say.
-/
import Derived.Test.YtmcobnbahkoopaaUg
import Derived.Test.YtmcobnbahkoopaaVa
import Derived.Deep.AppendLies
import Derived.Deep.DeepCutAuto
import Derived.Deep.RegionHeld3
import Derived.RegionTactic
import Derived.Deep.RegionLaw
import Derived.Deep.DrawnRows
import Derived.Shelf.RegionOpenPlain
import Derived.OneCell
namespace Go.Proofs.Ytmcobnbahkoopaa
open Go.RowKit
/-- The cells of elements of two cells each. -/
def cc2 {α : Type} (f h : α → Value) : List α → List Value
  | [] => []
  | x :: l => f x :: h x :: cc2 f h l
section
variable {α : Type} {f h : α → Value}
theorem cc2_length (l : List α) : (cc2 f h l).length = l.length * 2 := by
  induction l with
  | nil => rfl
  | cons x l ih => rw [cc2, List.length_cons, List.length_cons, ih, List.length_cons]; omega
theorem cc2_append (l m : List α) : cc2 f h (l ++ m) = cc2 f h l ++ cc2 f h m := by
  induction l with
  | nil => rfl
  | cons x l ih => rw [List.cons_append, cc2, ih, cc2]; rfl
theorem cc2_get (l : List α) (i : Nat) (hi : i < l.length) : (cc2 f h l)[i * 2]? = some (f l[i]) ∧ (cc2 f h l)[i * 2 + 1]? = some (h l[i]) := by
  induction l generalizing i with
  | nil => simp at hi
  | cons x l ih =>
    cases i with
    | zero => exact ⟨rfl, rfl⟩
    | succ i =>
      have h1 := ih i (by simpa using hi)
      rw [cc2, show (i + 1) * 2 = i * 2 + 1 + 1 by omega]
      exact h1
theorem cc2_set (l : List α) (i : Nat) (x : α) (hi : i < l.length) : ((cc2 f h l).set (i * 2) (f x)).set (i * 2 + 1) (h x) = cc2 f h (l.set i x) := by
  induction l generalizing i with
  | nil => simp at hi
  | cons y l ih =>
    cases i with
    | zero => rfl
    | succ i =>
      have h1 := ih i (by simpa using hi)
      rw [cc2, show (i + 1) * 2 = i * 2 + 1 + 1 by omega, List.set_cons_succ, List.set_cons_succ, List.set_cons_succ, List.set_cons_succ, h1]
      rfl
theorem cc2_take (l : List α) (k : Nat) : cc2 f h (l.take k) = (cc2 f h l).take (k * 2) := by
  induction l generalizing k with
  | nil => simp [cc2]
  | cons x l ih =>
    cases k with
    | zero => simp [cc2]
    | succ k =>
      rw [List.take_succ_cons, cc2, ih, cc2, show (k + 1) * 2 = k * 2 + 1 + 1 by omega, List.take_succ_cons, List.take_succ_cons]
end
/-- Two elements changed round. -/
def swp {α : Type} (d : α) (l : List α) (i j : Nat) : List α := (l.set i (l[j]?.getD d)).set j (l[i]?.getD d)
theorem swp_length {α : Type} (d : α) (l : List α) (i j : Nat) : (swp d l i j).length = l.length := by simp [swp]
section
variable {α : Type} {f h : α → Value} {w w' : World} {g : Nat} {t : TypeId} {post : List Value}
theorem row2_cell {l : List α} (hr : Row w g t (cc2 f h l ++ post)) (i : Nat) (hi : i < l.length) : w.cell? ⟨g, i * 2, none⟩ = some (f l[i]) ∧ w.cell? ⟨g, i * 2 + 1, none⟩ = some (h l[i]) := by
  obtain ⟨h1, h2⟩ := cc2_get (f := f) (h := h) l i hi
  have hl := cc2_length (f := f) (h := h) l
  rw [hr.cell, hr.cell, List.getElem?_append_left (by omega), List.getElem?_append_left (by omega)]
  exact ⟨h1, h2⟩
theorem row2_set {l : List α} (hr : Row w g t (cc2 f h l ++ post)) (i : Nat) (hi : i < l.length) (x : α) : Row ((w.setCell ⟨g, i * 2, none⟩ (f x)).setCell ⟨g, i * 2 + 1, none⟩ (h x)) g t (cc2 f h (l.set i x) ++ post) := by
  have hl := cc2_length (f := f) (h := h) l
  have h1 := (hr.set_ (i * 2) (f x)).set_ (i * 2 + 1) (h x)
  rw [List.set_append_left _ _ (by omega), List.set_append_left _ _ (by rw [List.length_set]; omega), cc2_set l i x hi] at h1
  exact h1
theorem row2_swp {l : List α} {d : α} (hr : Row w g t (cc2 f h l ++ post)) (i j : Nat) (hi : i < l.length) (hj : j < l.length) :
    Row ((((w.setCell ⟨g, i * 2, none⟩ (f l[j])).setCell ⟨g, i * 2 + 1, none⟩ (h l[j])).setCell ⟨g, j * 2, none⟩ (f l[i])).setCell ⟨g, j * 2 + 1, none⟩ (h l[i])) g t (cc2 f h (swp d l i j) ++ post) := by
  have h1 := row2_set (row2_set hr i hi l[j]) j (by simpa using hj) l[i]
  unfold swp
  rw [List.getElem?_eq_getElem hi, List.getElem?_eq_getElem hj]
  exact h1
theorem grown_four (w : World) (g a b c d : Nat) (u v x y : Value) : w.grownBy ((((w.setCell ⟨g, a, none⟩ u).setCell ⟨g, b, none⟩ v).setCell ⟨g, c, none⟩ x).setCell ⟨g, d, none⟩ y) (some g) :=
  grown_set (grown_set (grown_set (grown_set (grown_refl w (some g)) _ _) _ _) _ _) _ _
end
/-- A node: its weight, its place. -/
abbrev Nod := Nat × Nat
def nodW (t : Nod) : Value := .int .i64 (t.1 : Int)
def nodP (t : Nod) : Value := .int .i64 (t.2 : Int)
def n2 (l : List Nod) : List Value := cc2 nodW nodP l
namespace Bm
/-- Is a node lighter, or as light and elder? -/
def lt2 (a b : Nat × Nat) : Prop := a.1 < b.1 ∨ (a.1 = b.1 ∧ a.2 < b.2)
instance (a b : Nat × Nat) : Decidable (lt2 a b) := by unfold lt2; exact inferInstance
end Bm
theorem uplen_any (A : Option Addr) (n c : Nat) (w : World) : Calls Try.prog 30 #[.slice A n c] w fun e w' => e = .returned (.int .i64 (n : Int)) ∧ w = w' := by
  go_enter Try.func30, Try.ntmps30
  go_wp2
  go_ret
  exact ⟨rfl, rfl⟩
set_option maxHeartbeats 1000000 in
set_option maxRecDepth 100000 in
theorem upless_any (g n c i j : Nat) (x y : Nod) (w : World) (hi : i < n) (hj : j < n) (h0 : w.cell? ⟨g, i * 2, none⟩ = some (nodW x) ∧ w.cell? ⟨g, i * 2 + 1, none⟩ = some (nodP x)) (h1 : w.cell? ⟨g, j * 2, none⟩ = some (nodW y) ∧ w.cell? ⟨g, j * 2 + 1, none⟩ = some (nodP y)) :
    Calls Try.prog 70 #[.slice (some ⟨g, 0, none⟩) n c, .int .i64 (i : Int), .int .i64 (j : Int)] w fun e w' => e = .returned (.bool (decide (Bm.lt2 x y))) ∧ Below w.heap.size w w' := by
  obtain ⟨a, p⟩ := x
  obtain ⟨b, q⟩ := y
  obtain ⟨c0, c1⟩ := h0
  obtain ⟨k0, k1⟩ := h1
  simp only [nodW, nodP] at c0 c1 k0 k1
  obtain ⟨r, hr⟩ : ∃ r, r = decide (Bm.lt2 (a, p) (b, q)) := ⟨_, rfl⟩
  rw [← hr]
  have Hr := Lib.hid hr
  clear hr
  by_cases hab : a = b
  · subst hab
    have hd0 : ((a : Int) == (a : Int)) = true := by simp
    have Hf : Hid (decide (p < q) = r) := Lib.hid (by rw [Hr.out, decide_eq_decide]; unfold Bm.lt2; simp)
    go_enter Try.func70, Try.ntmps70
    go_wp2_with fail
    go_quiet (fail)
    go_wp2_with fail
    go_quiet (fail)
    go_wp2
    go_ret
    exact ⟨congrArg (fun x => Ending.returned (Value.bool x)) Hf.out, below_drewN (below_drewN (Below.refl _ _) _) _⟩
  · have hd0 : ((a : Int) == (b : Int)) = false := by simp; omega
    have Hf : Hid (decide (a < b) = r) := Lib.hid (by rw [Hr.out, decide_eq_decide]; unfold Bm.lt2; simp; omega)
    go_enter Try.func70, Try.ntmps70
    go_wp2_with fail
    go_quiet (fail)
    go_wp2_with fail
    go_quiet (fail)
    go_wp2
    go_ret
    exact ⟨congrArg (fun x => Ending.returned (Value.bool x)) Hf.out, below_drewN (below_drewN (Below.refl _ _) _) _⟩
set_option maxHeartbeats 4000000 in
set_option maxRecDepth 100000 in
theorem upswap_any (g c i j : Nat) (L : List Nod) (post : List Value) (w : World) (hi : i < L.length) (hj : j < L.length) (hr : Row w g 41 (n2 L ++ post)) :
    Calls Try.prog 73 #[.slice (some ⟨g, 0, none⟩) L.length c, .int .i64 (i : Int), .int .i64 (j : Int)] w fun e w' => e = .returned (.tuple #[]) ∧ Row w' g 41 (n2 (swp (0, 0) L i j) ++ post) ∧ w.grownBy w' (some g) := by
  obtain ⟨c0, c1⟩ := row2_cell (f := nodW) (h := nodP) hr i hi
  obtain ⟨k0, k1⟩ := row2_cell (f := nodW) (h := nodP) hr j hj
  have f0 := hr.free (i * 2)
  have f1 := hr.free (i * 2 + 1)
  have f2 := hr.free (j * 2)
  have f3 := hr.free (j * 2 + 1)
  have hs := row2_swp (f := nodW) (h := nodP) (d := (0, 0)) hr i j hi hj
  have Hs := Lib.hid hs
  clear hs hr
  generalize swp (0, 0) L i j = L2 at *
  simp only [nodW, nodP] at c0 c1 k0 k1 Hs
  generalize L[i].1 = a at *
  generalize L[i].2 = p at *
  generalize L[j].1 = b at *
  generalize L[j].2 = q at *
  obtain ⟨v1, hy1⟩ := cell?_setCell_some (w := w) (p := ⟨g, i * 2, none⟩) (x := .int .i64 (b : Int)) (q := ⟨g, j * 2, none⟩) k0
  obtain ⟨v2, hy2⟩ := cell?_setCell_some (w := w) (p := ⟨g, i * 2, none⟩) (x := .int .i64 (b : Int)) (q := ⟨g, j * 2 + 1, none⟩) k1
  obtain ⟨v3, hy3⟩ := cell?_setCell_some (w := w.setCell ⟨g, i * 2, none⟩ (.int .i64 (b : Int))) (p := ⟨g, i * 2 + 1, none⟩) (x := .int .i64 (q : Int)) (q := ⟨g, j * 2 + 1, none⟩) hy2
  clear hy2
  go_enter Try.func73, Try.ntmps73
  go_wp2_with fail
  go_region
  all_goals (try go_wp2)
  all_goals go_end0
  all_goals exact ⟨rfl, Hs.out, grown_drew (grown_four _ _ _ _ _ _ _ _ _ _)⟩
theorem pm_load (name : String) (i f : Nat) (p n c : Nat) (A : Option Addr) (w : World) (h : w.cell? ⟨p, 0, none⟩ = some (.slice A n c))
    (h1 : ∀ w, (typeInfo 37).run Try.prog w = .ok Try.prog.types[37]! w)
    (h2 : (Try.prog.types[37]!).methods.find? (fun m => m.name == name) = some ((Try.prog.types[37]!).methods[i]!))
    (hp : ((Try.prog.types[37]!).methods[i]!).path = #[]) (hf : ((Try.prog.types[37]!).methods[i]!).func = some (f, false))
    (hs : ∀ s w, (Builtin.ssaWrapNilChk_ #[37] 37 #[.pointer (some ⟨p, 0, none⟩), strVal "", strVal s]).run Try.prog w = .ok (.pointer (some ⟨p, 0, none⟩)) w) :
    (method 192 37 (.pointer (some ⟨p, 0, none⟩)) name).run Try.prog w = .ok (f, .slice A n c) w := by
  rw [method]
  simp only [Sem.run_bind, h1, Result.andThen_ok, h2, hp, hf, follow, receiverAt, underlying, Sem.run_pure, Place.get]
  simp [loadVar, isAgg, underlying, Try.underlying51, Try.underlying37, h, Result.andThen, hs, asAddr]
theorem pm_type : ∀ w, (typeInfo 37).run Try.prog w = .ok Try.prog.types[37]! w := fun _ => by kernel_rfl
theorem pm_len (p n c : Nat) (A : Option Addr) (w : World) (h : w.cell? ⟨p, 0, none⟩ = some (.slice A n c)) : (method 192 37 (.pointer (some ⟨p, 0, none⟩)) "Len").run Try.prog w = .ok (30, .slice A n c) w :=
  pm_load "Len" 0 30 p n c A w h pm_type (by kernel_rfl) (by kernel_rfl) (by kernel_rfl) (fun _ _ => by kernel_rfl)
theorem pm_less (p n c : Nat) (A : Option Addr) (w : World) (h : w.cell? ⟨p, 0, none⟩ = some (.slice A n c)) : (method 192 37 (.pointer (some ⟨p, 0, none⟩)) "Less").run Try.prog w = .ok (70, .slice A n c) w :=
  pm_load "Less" 1 70 p n c A w h pm_type (by kernel_rfl) (by kernel_rfl) (by kernel_rfl) (fun _ _ => by kernel_rfl)
theorem pm_swap (p n c : Nat) (A : Option Addr) (w : World) (h : w.cell? ⟨p, 0, none⟩ = some (.slice A n c)) : (method 192 37 (.pointer (some ⟨p, 0, none⟩)) "Swap").run Try.prog w = .ok (73, .slice A n c) w :=
  pm_load "Swap" 4 73 p n c A w h pm_type (by kernel_rfl) (by kernel_rfl) (by kernel_rfl) (fun _ _ => by kernel_rfl)
theorem pm_push (p : Nat) (w : World) : (method 192 37 (.pointer (some ⟨p, 0, none⟩)) "Push").run Try.prog w = .ok (72, .pointer (some ⟨p, 0, none⟩)) w := by kernel_rfl
theorem pm_pop (p : Nat) (w : World) : (method 192 37 (.pointer (some ⟨p, 0, none⟩)) "Pop").run Try.prog w = .ok (71, .pointer (some ⟨p, 0, none⟩)) w := by kernel_rfl
/-- A pile in memory: its variable, its nodes, with room for cap. -/
structure Pile (w : World) (base p g cap : Nat) (L : List Nod) : Prop where
  lowp : base ≤ p
  lowg : base ≤ g
  fits : L.length ≤ cap
  most : cap ≤ maxLen
  var : Row w p 51 [.slice (some ⟨g, 0, none⟩) L.length cap]
  row : ∃ post, post.length + L.length * 2 = cap * 2 ∧ Row w g 41 (n2 L ++ post)
/-- Blocks from base on may have changed, of those only piles and nodes. -/
structure KeptP (base : Nat) (w w' : World) : Prop where
  bel : Below base w w'
  rows : ∀ (b : Nat) (t : TypeId) (cs : List Value), t ≠ 51 → t ≠ 41 → Row w b t cs → Row w' b t cs
section
variable {w w' w'' : World} {base p g cap : Nat} {L : List Nod}
theorem KeptP.refl (base : Nat) (w : World) : KeptP base w w := ⟨Below.refl _ _, fun _ _ _ _ _ h => h⟩
theorem KeptP.trans (h : KeptP base w w') (h' : KeptP base w' w'') : KeptP base w w'' := ⟨h.bel.trans h'.bel, fun b t cs h1 h2 h3 => h'.rows b t cs h1 h2 (h.rows b t cs h1 h2 h3)⟩
theorem KeptP.below (h : Below w.heap.size w w') (hb : base ≤ w.heap.size) : KeptP base w w' := ⟨h.mono hb, fun _ _ _ _ _ hr => row_below hr h⟩
theorem KeptP.grown {t : TypeId} {cs : List Value} {b : Nat} (h : w.grownBy w' (some b)) (hr : Row w b t cs) (ht : t = 51 ∨ t = 41) (hb : base ≤ b) : KeptP base w w' :=
  ⟨below_grown h hb (Nat.le_trans hb (Nat.le_of_lt hr.lt)), fun b' t' cs' h1 h2 hr' => hr'.keep (h.block b' hr'.lt (fun e => by
    injection e with e
    subst e
    unfold Row at hr hr'
    rw [hr] at hr'
    injection hr' with hr'
    injection hr' with _ e
    rcases ht with rfl | rfl
    · exact h1 e.symm
    · exact h2 e.symm))⟩
/-- Of the old blocks from base on only the pile's two may have changed. -/
structure KeptG (base p g : Nat) (w w' : World) : Prop where
  bel : Below base w w'
  blk : ∀ b, b < w.heap.size → b ≠ p → b ≠ g → w'.heap[b]? = w.heap[b]?
theorem KeptG.refl (base p g : Nat) (w : World) : KeptG base p g w w := ⟨Below.refl _ _, fun _ _ _ _ => rfl⟩
theorem KeptG.trans (h : KeptG base p g w w') (h' : KeptG base p g w' w'') : KeptG base p g w w'' :=
  ⟨h.bel.trans h'.bel, fun b h1 h2 h3 => (h'.blk b (Nat.lt_of_lt_of_le h1 h.bel.size) h2 h3).trans (h.blk b h1 h2 h3)⟩
theorem KeptG.below (h : Below w.heap.size w w') (hb : base ≤ w.heap.size) : KeptG base p g w w' := ⟨h.mono hb, fun b hb _ _ => h.block b hb⟩
theorem KeptG.grown {b : Nat} (h : w.grownBy w' (some b)) (hlt : b < w.heap.size) (ht : b = p ∨ b = g) (hb : base ≤ b) : KeptG base p g w w' :=
  ⟨below_grown h hb (Nat.le_trans hb (Nat.le_of_lt hlt)), fun b' h1 h2 h3 => h.block b' h1 (fun e => by
    injection e with e
    rcases ht with h | h
    · exact h2 (e.trans h)
    · exact h3 (e.trans h))⟩
theorem KeptG.kept (h : KeptG base p g w w') (hp : Pile w base p g cap L) : KeptP base w w' := by
  refine ⟨h.bel, fun b t cs h1 h2 hr => hr.keep (h.blk b hr.lt ?_ ?_)⟩
  · rintro rfl
    have hv := hp.var
    unfold Row at hv hr
    rw [hr] at hv
    injection hv with hv
    injection hv with _ e
    exact h1 e
  · rintro rfl
    obtain ⟨_, _, hv⟩ := hp.row
    unfold Row at hv hr
    rw [hr] at hv
    injection hv with hv
    injection hv with _ e
    exact h2 e
theorem Pile.ne (h : Pile w base p g cap L) : p ≠ g := by
  obtain ⟨post, _, hr⟩ := h.row
  rintro rfl
  have hv := h.var
  unfold Row at hr hv
  rw [hr] at hv
  injection hv with hv
  injection hv with _ e
  exact absurd e (by decide)
theorem Pile.below (h : Pile w base p g cap L) (hb : Below w.heap.size w w') : Pile w' base p g cap L := by
  obtain ⟨post, h1, hr⟩ := h.row
  exact ⟨h.lowp, h.lowg, h.fits, h.most, row_below h.var hb, post, h1, row_below hr hb⟩
theorem Pile.same {L' : List Nod} (h : Pile w base p g cap L) (hl : L'.length = L.length) (hg : w.grownBy w' (some g)) {post : List Value} (hp : post.length + L.length * 2 = cap * 2) (hr : Row w' g 41 (n2 L' ++ post)) : Pile w' base p g cap L' :=
  ⟨h.lowp, h.lowg, by rw [hl]; exact h.fits, h.most, by rw [hl]; exact h.var.keep (hg.block p h.var.lt (fun e => by injection e with e; exact h.ne e)), post, by rw [hl]; exact hp, hr⟩
theorem Pile.cell (h : Pile w base p g cap L) : w.cell? ⟨p, 0, none⟩ = some (.slice (some ⟨g, 0, none⟩) L.length cap) := h.var.cell 0
theorem Pile.own (h : Pile w base p g cap L) : w.ownsRow base 41 2 (.slice (some ⟨g, 0, none⟩) L.length cap) L.length (n2 L) := by
  obtain ⟨post, h1, hr⟩ := h.row
  have hl := cc2_length (f := nodW) (h := nodP) L
  refine ⟨hl, .inr ⟨g, cap, (n2 L ++ post).toArray, rfl, h.lowg, hr, h.fits, h.most, ?_, ?_⟩⟩
  · rw [List.size_toArray, List.length_append]
    unfold n2
    omega
  · rw [List.toList_toArray, List.take_left' (by exact hl)]
theorem pile_of_own (hp : Row w p 51 [.slice (some ⟨g, 0, none⟩) L.length cap]) (hb : base ≤ p) (h : w.ownsRow base 41 2 (.slice (some ⟨g, 0, none⟩) L.length cap) L.length (n2 L)) : Pile w base p g cap L := by
  have hl := cc2_length (f := nodW) (h := nodP) L
  rcases h.2 with ⟨h1, _⟩ | ⟨g', cap', cur, e, hb2, hg, hnc, hcm, hcs, ht⟩
  · cases h1
  · injection e with e1 _ e3
    injection e1 with e1
    injection e1 with e1
    subst e1 e3
    refine ⟨hb, hb2, hnc, hcm, hp, cur.toList.drop (L.length * 2), ?_, ?_⟩
    · have hcl : cur.toList.length = cur.size := Array.length_toList
      rw [List.length_drop]
      omega
    · unfold Row
      rw [← ht, List.take_append_drop, Array.toArray_toList]
      exact hg
end
end Go.Proofs.Ytmcobnbahkoopaa
