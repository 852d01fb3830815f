/-
  The program's layer 9 (huff): elements of two cells in memory; the pile's own methods, by their walks. Conditions: as each theorem's premises say.
  The program's layer 10 (litcode): forks in memory. No condition beyond each theorem's premises.
  The program's layer 10 (litcode), by its walk: tree. Conditions: as each theorem's premises say.
  Plain mathematics for layer 9 (huff): a list as a heap: what up and down keep, and make. It speaks of no program. No condition.
  Plain mathematics for layer 9 (huff): nodes joined two at a time, what each is joined to, how many stand above each: Huffman's lengths. It speaks of no program. No condition.
-/
import Derived.Test.YtgcfdjgfnagmjaaGreatGai
import Derived.Test.YtgcfdjgfnagmjaaGreatGaj
import Derived.Test.YtgcfdjgfnagmjaaGreatGah
import Derived.Deep.AppendLies
import Derived.Deep.DeepCutAuto
import Derived.Deep.RegionHeld3
import Derived.RegionTactic
import Derived.Deep.RegionLaw
import Derived.Deep.DrawnRows
import Derived.Shelf.RegionOpenPlain
import Derived.OneCell
import Derived.Laws.BitsAllLaws
import Derived.Laws.BitsLemmas
namespace Go.Proofs.YtgcfdjgfnagmjaaGreat
open Go.RowKit
/-- The cells of elements of two cells each. -/
def cc2 {α : Type} (f h : α → Value) : List α → List Value
  | [] => []
  | x :: l => f x :: h x :: cc2 f h l
section
variable {α : Type} {f h : α → Value}
theorem cc2_length (l : List α) : (cc2 f h l).length = l.length * 2 := by
  induction l with
  | nil => rfl
  | cons x l ih => rw [cc2, List.length_cons, List.length_cons, ih, List.length_cons]; omega
theorem cc2_append (l m : List α) : cc2 f h (l ++ m) = cc2 f h l ++ cc2 f h m := by
  induction l with
  | nil => rfl
  | cons x l ih => rw [List.cons_append, cc2, ih, cc2]; rfl
theorem cc2_get (l : List α) (i : Nat) (hi : i < l.length) : (cc2 f h l)[i * 2]? = some (f l[i]) ∧ (cc2 f h l)[i * 2 + 1]? = some (h l[i]) := by
  induction l generalizing i with
  | nil => simp at hi
  | cons x l ih =>
    cases i with
    | zero => exact ⟨rfl, rfl⟩
    | succ i =>
      have h1 := ih i (by simpa using hi)
      rw [cc2, show (i + 1) * 2 = i * 2 + 1 + 1 by omega]
      exact h1
theorem cc2_set (l : List α) (i : Nat) (x : α) (hi : i < l.length) : ((cc2 f h l).set (i * 2) (f x)).set (i * 2 + 1) (h x) = cc2 f h (l.set i x) := by
  induction l generalizing i with
  | nil => simp at hi
  | cons y l ih =>
    cases i with
    | zero => rfl
    | succ i =>
      have h1 := ih i (by simpa using hi)
      rw [cc2, show (i + 1) * 2 = i * 2 + 1 + 1 by omega, List.set_cons_succ, List.set_cons_succ, List.set_cons_succ, List.set_cons_succ, h1]
      rfl
theorem cc2_take (l : List α) (k : Nat) : cc2 f h (l.take k) = (cc2 f h l).take (k * 2) := by
  induction l generalizing k with
  | nil => simp [cc2]
  | cons x l ih =>
    cases k with
    | zero => simp [cc2]
    | succ k =>
      rw [List.take_succ_cons, cc2, ih, cc2, show (k + 1) * 2 = k * 2 + 1 + 1 by omega, List.take_succ_cons, List.take_succ_cons]
end
/-- Two elements changed round. -/
def swp {α : Type} (d : α) (l : List α) (i j : Nat) : List α := (l.set i (l[j]?.getD d)).set j (l[i]?.getD d)
theorem swp_length {α : Type} (d : α) (l : List α) (i j : Nat) : (swp d l i j).length = l.length := by simp [swp]
section
variable {α : Type} {f h : α → Value} {w w' : World} {g : Nat} {t : TypeId} {post : List Value}
theorem row2_cell {l : List α} (hr : Row w g t (cc2 f h l ++ post)) (i : Nat) (hi : i < l.length) : w.cell? ⟨g, i * 2, none⟩ = some (f l[i]) ∧ w.cell? ⟨g, i * 2 + 1, none⟩ = some (h l[i]) := by
  obtain ⟨h1, h2⟩ := cc2_get (f := f) (h := h) l i hi
  have hl := cc2_length (f := f) (h := h) l
  rw [hr.cell, hr.cell, List.getElem?_append_left (by omega), List.getElem?_append_left (by omega)]
  exact ⟨h1, h2⟩
theorem row2_set {l : List α} (hr : Row w g t (cc2 f h l ++ post)) (i : Nat) (hi : i < l.length) (x : α) : Row ((w.setCell ⟨g, i * 2, none⟩ (f x)).setCell ⟨g, i * 2 + 1, none⟩ (h x)) g t (cc2 f h (l.set i x) ++ post) := by
  have hl := cc2_length (f := f) (h := h) l
  have h1 := (hr.set_ (i * 2) (f x)).set_ (i * 2 + 1) (h x)
  rw [List.set_append_left _ _ (by omega), List.set_append_left _ _ (by rw [List.length_set]; omega), cc2_set l i x hi] at h1
  exact h1
theorem row2_swp {l : List α} {d : α} (hr : Row w g t (cc2 f h l ++ post)) (i j : Nat) (hi : i < l.length) (hj : j < l.length) :
    Row ((((w.setCell ⟨g, i * 2, none⟩ (f l[j])).setCell ⟨g, i * 2 + 1, none⟩ (h l[j])).setCell ⟨g, j * 2, none⟩ (f l[i])).setCell ⟨g, j * 2 + 1, none⟩ (h l[i])) g t (cc2 f h (swp d l i j) ++ post) := by
  have h1 := row2_set (row2_set hr i hi l[j]) j (by simpa using hj) l[i]
  unfold swp
  rw [List.getElem?_eq_getElem hi, List.getElem?_eq_getElem hj]
  exact h1
theorem grown_four (w : World) (g a b c d : Nat) (u v x y : Value) : w.grownBy ((((w.setCell ⟨g, a, none⟩ u).setCell ⟨g, b, none⟩ v).setCell ⟨g, c, none⟩ x).setCell ⟨g, d, none⟩ y) (some g) :=
  grown_set (grown_set (grown_set (grown_set (grown_refl w (some g)) _ _) _ _) _ _) _ _
end
/-- A node: its weight, its place. -/
abbrev Nod := Nat × Nat
def nodW (t : Nod) : Value := .int .i64 (t.1 : Int)
def nodP (t : Nod) : Value := .int .i64 (t.2 : Int)
def n2 (l : List Nod) : List Value := cc2 nodW nodP l
namespace Bm
/-- Is a node lighter, or as light and elder? -/
def lt2 (a b : Nat × Nat) : Prop := a.1 < b.1 ∨ (a.1 = b.1 ∧ a.2 < b.2)
instance (a b : Nat × Nat) : Decidable (lt2 a b) := by unfold lt2; exact inferInstance
end Bm
theorem uplen_any (A : Option Addr) (n c : Nat) (w : World) : Calls Tryz.prog 80 #[.slice A n c] w fun e w' => e = .returned (.int .i64 (n : Int)) ∧ w = w' := by
  go_enter Tryz.func80, Tryz.ntmps80
  go_wp2
  go_ret
  exact ⟨rfl, rfl⟩
set_option maxHeartbeats 1000000 in
set_option maxRecDepth 100000 in
theorem upless_any (g n c i j : Nat) (x y : Nod) (w : World) (hi : i < n) (hj : j < n) (h0 : w.cell? ⟨g, i * 2, none⟩ = some (nodW x) ∧ w.cell? ⟨g, i * 2 + 1, none⟩ = some (nodP x)) (h1 : w.cell? ⟨g, j * 2, none⟩ = some (nodW y) ∧ w.cell? ⟨g, j * 2 + 1, none⟩ = some (nodP y)) :
    Calls Tryz.prog 128 #[.slice (some ⟨g, 0, none⟩) n c, .int .i64 (i : Int), .int .i64 (j : Int)] w fun e w' => e = .returned (.bool (decide (Bm.lt2 x y))) ∧ Below w.heap.size w w' := by
  obtain ⟨a, p⟩ := x
  obtain ⟨b, q⟩ := y
  obtain ⟨c0, c1⟩ := h0
  obtain ⟨k0, k1⟩ := h1
  simp only [nodW, nodP] at c0 c1 k0 k1
  obtain ⟨r, hr⟩ : ∃ r, r = decide (Bm.lt2 (a, p) (b, q)) := ⟨_, rfl⟩
  rw [← hr]
  have Hr := Lib.hid hr
  clear hr
  by_cases hab : a = b
  · subst hab
    have hd0 : ((a : Int) == (a : Int)) = true := by simp
    have Hf : Hid (decide (p < q) = r) := Lib.hid (by rw [Hr.out, decide_eq_decide]; unfold Bm.lt2; simp)
    go_enter Tryz.func128, Tryz.ntmps128
    go_wp2_with fail
    go_quiet (fail)
    go_wp2_with fail
    go_quiet (fail)
    go_wp2
    go_ret
    exact ⟨congrArg (fun x => Ending.returned (Value.bool x)) Hf.out, below_drewN (below_drewN (Below.refl _ _) _) _⟩
  · have hd0 : ((a : Int) == (b : Int)) = false := by simp; omega
    have Hf : Hid (decide (a < b) = r) := Lib.hid (by rw [Hr.out, decide_eq_decide]; unfold Bm.lt2; simp; omega)
    go_enter Tryz.func128, Tryz.ntmps128
    go_wp2_with fail
    go_quiet (fail)
    go_wp2_with fail
    go_quiet (fail)
    go_wp2
    go_ret
    exact ⟨congrArg (fun x => Ending.returned (Value.bool x)) Hf.out, below_drewN (below_drewN (Below.refl _ _) _) _⟩
set_option maxHeartbeats 4000000 in
set_option maxRecDepth 100000 in
theorem upswap_any (g c i j : Nat) (L : List Nod) (post : List Value) (w : World) (hi : i < L.length) (hj : j < L.length) (hr : Row w g 114 (n2 L ++ post)) :
    Calls Tryz.prog 131 #[.slice (some ⟨g, 0, none⟩) L.length c, .int .i64 (i : Int), .int .i64 (j : Int)] w fun e w' => e = .returned (.tuple #[]) ∧ Row w' g 114 (n2 (swp (0, 0) L i j) ++ post) ∧ w.grownBy w' (some g) := by
  obtain ⟨c0, c1⟩ := row2_cell (f := nodW) (h := nodP) hr i hi
  obtain ⟨k0, k1⟩ := row2_cell (f := nodW) (h := nodP) hr j hj
  have f0 := hr.free (i * 2)
  have f1 := hr.free (i * 2 + 1)
  have f2 := hr.free (j * 2)
  have f3 := hr.free (j * 2 + 1)
  have hs := row2_swp (f := nodW) (h := nodP) (d := (0, 0)) hr i j hi hj
  have Hs := Lib.hid hs
  clear hs hr
  generalize swp (0, 0) L i j = L2 at *
  simp only [nodW, nodP] at c0 c1 k0 k1 Hs
  generalize L[i].1 = a at *
  generalize L[i].2 = p at *
  generalize L[j].1 = b at *
  generalize L[j].2 = q at *
  obtain ⟨v1, hy1⟩ := cell?_setCell_some (w := w) (p := ⟨g, i * 2, none⟩) (x := .int .i64 (b : Int)) (q := ⟨g, j * 2, none⟩) k0
  obtain ⟨v2, hy2⟩ := cell?_setCell_some (w := w) (p := ⟨g, i * 2, none⟩) (x := .int .i64 (b : Int)) (q := ⟨g, j * 2 + 1, none⟩) k1
  obtain ⟨v3, hy3⟩ := cell?_setCell_some (w := w.setCell ⟨g, i * 2, none⟩ (.int .i64 (b : Int))) (p := ⟨g, i * 2 + 1, none⟩) (x := .int .i64 (q : Int)) (q := ⟨g, j * 2 + 1, none⟩) hy2
  clear hy2
  go_enter Tryz.func131, Tryz.ntmps131
  go_wp2_with fail
  go_region
  all_goals (try go_wp2)
  all_goals go_end0
  all_goals exact ⟨rfl, Hs.out, grown_drew (grown_four _ _ _ _ _ _ _ _ _ _)⟩
theorem pm_load (name : String) (i f : Nat) (p n c : Nat) (A : Option Addr) (w : World) (h : w.cell? ⟨p, 0, none⟩ = some (.slice A n c))
    (h1 : ∀ w, (typeInfo 111).run Tryz.prog w = .ok Tryz.prog.types[111]! w)
    (h2 : (Tryz.prog.types[111]!).methods.find? (fun m => m.name == name) = some ((Tryz.prog.types[111]!).methods[i]!))
    (hp : ((Tryz.prog.types[111]!).methods[i]!).path = #[]) (hf : ((Tryz.prog.types[111]!).methods[i]!).func = some (f, false))
    (hs : ∀ s w, (Builtin.ssaWrapNilChk_ #[111] 111 #[.pointer (some ⟨p, 0, none⟩), strVal "", strVal s]).run Tryz.prog w = .ok (.pointer (some ⟨p, 0, none⟩)) w) :
    (method 274 111 (.pointer (some ⟨p, 0, none⟩)) name).run Tryz.prog w = .ok (f, .slice A n c) w := by
  rw [method]
  simp only [Sem.run_bind, h1, Result.andThen_ok, h2, hp, hf, follow, receiverAt, underlying, Sem.run_pure, Place.get]
  simp [loadVar, isAgg, underlying, Tryz.underlying137, Tryz.underlying111, h, Result.andThen, hs, asAddr]
theorem pm_type : ∀ w, (typeInfo 111).run Tryz.prog w = .ok Tryz.prog.types[111]! w := fun _ => by kernel_rfl
theorem pm_len (p n c : Nat) (A : Option Addr) (w : World) (h : w.cell? ⟨p, 0, none⟩ = some (.slice A n c)) : (method 274 111 (.pointer (some ⟨p, 0, none⟩)) "Len").run Tryz.prog w = .ok (80, .slice A n c) w :=
  pm_load "Len" 0 80 p n c A w h pm_type (by kernel_rfl) (by kernel_rfl) (by kernel_rfl) (fun _ _ => by kernel_rfl)
theorem pm_less (p n c : Nat) (A : Option Addr) (w : World) (h : w.cell? ⟨p, 0, none⟩ = some (.slice A n c)) : (method 274 111 (.pointer (some ⟨p, 0, none⟩)) "Less").run Tryz.prog w = .ok (128, .slice A n c) w :=
  pm_load "Less" 1 128 p n c A w h pm_type (by kernel_rfl) (by kernel_rfl) (by kernel_rfl) (fun _ _ => by kernel_rfl)
theorem pm_swap (p n c : Nat) (A : Option Addr) (w : World) (h : w.cell? ⟨p, 0, none⟩ = some (.slice A n c)) : (method 274 111 (.pointer (some ⟨p, 0, none⟩)) "Swap").run Tryz.prog w = .ok (131, .slice A n c) w :=
  pm_load "Swap" 4 131 p n c A w h pm_type (by kernel_rfl) (by kernel_rfl) (by kernel_rfl) (fun _ _ => by kernel_rfl)
theorem pm_push (p : Nat) (w : World) : (method 274 111 (.pointer (some ⟨p, 0, none⟩)) "Push").run Tryz.prog w = .ok (130, .pointer (some ⟨p, 0, none⟩)) w := by kernel_rfl
theorem pm_pop (p : Nat) (w : World) : (method 274 111 (.pointer (some ⟨p, 0, none⟩)) "Pop").run Tryz.prog w = .ok (129, .pointer (some ⟨p, 0, none⟩)) w := by kernel_rfl
/-- A pile in memory: its variable, its nodes, with room for cap. -/
structure Pile (w : World) (base p g cap : Nat) (L : List Nod) : Prop where
  lowp : base ≤ p
  lowg : base ≤ g
  fits : L.length ≤ cap
  most : cap ≤ maxLen
  var : Row w p 137 [.slice (some ⟨g, 0, none⟩) L.length cap]
  row : ∃ post, post.length + L.length * 2 = cap * 2 ∧ Row w g 114 (n2 L ++ post)
/-- Blocks from base on may have changed, of those only piles and nodes. -/
structure KeptP (base : Nat) (w w' : World) : Prop where
  bel : Below base w w'
  rows : ∀ (b : Nat) (t : TypeId) (cs : List Value), t ≠ 137 → t ≠ 114 → Row w b t cs → Row w' b t cs
section
variable {w w' w'' : World} {base p g cap : Nat} {L : List Nod}
theorem KeptP.refl (base : Nat) (w : World) : KeptP base w w := ⟨Below.refl _ _, fun _ _ _ _ _ h => h⟩
theorem KeptP.trans (h : KeptP base w w') (h' : KeptP base w' w'') : KeptP base w w'' := ⟨h.bel.trans h'.bel, fun b t cs h1 h2 h3 => h'.rows b t cs h1 h2 (h.rows b t cs h1 h2 h3)⟩
theorem KeptP.below (h : Below w.heap.size w w') (hb : base ≤ w.heap.size) : KeptP base w w' := ⟨h.mono hb, fun _ _ _ _ _ hr => row_below hr h⟩
theorem KeptP.grown {t : TypeId} {cs : List Value} {b : Nat} (h : w.grownBy w' (some b)) (hr : Row w b t cs) (ht : t = 137 ∨ t = 114) (hb : base ≤ b) : KeptP base w w' :=
  ⟨below_grown h hb (Nat.le_trans hb (Nat.le_of_lt hr.lt)), fun b' t' cs' h1 h2 hr' => hr'.keep (h.block b' hr'.lt (fun e => by
    injection e with e
    subst e
    unfold Row at hr hr'
    rw [hr] at hr'
    injection hr' with hr'
    injection hr' with _ e
    rcases ht with rfl | rfl
    · exact h1 e.symm
    · exact h2 e.symm))⟩
/-- Of the old blocks from base on only the pile's two may have changed. -/
structure KeptG (base p g : Nat) (w w' : World) : Prop where
  bel : Below base w w'
  blk : ∀ b, b < w.heap.size → b ≠ p → b ≠ g → w'.heap[b]? = w.heap[b]?
theorem KeptG.refl (base p g : Nat) (w : World) : KeptG base p g w w := ⟨Below.refl _ _, fun _ _ _ _ => rfl⟩
theorem KeptG.trans (h : KeptG base p g w w') (h' : KeptG base p g w' w'') : KeptG base p g w w'' :=
  ⟨h.bel.trans h'.bel, fun b h1 h2 h3 => (h'.blk b (Nat.lt_of_lt_of_le h1 h.bel.size) h2 h3).trans (h.blk b h1 h2 h3)⟩
theorem KeptG.below (h : Below w.heap.size w w') (hb : base ≤ w.heap.size) : KeptG base p g w w' := ⟨h.mono hb, fun b hb _ _ => h.block b hb⟩
theorem KeptG.grown {b : Nat} (h : w.grownBy w' (some b)) (hlt : b < w.heap.size) (ht : b = p ∨ b = g) (hb : base ≤ b) : KeptG base p g w w' :=
  ⟨below_grown h hb (Nat.le_trans hb (Nat.le_of_lt hlt)), fun b' h1 h2 h3 => h.block b' h1 (fun e => by
    injection e with e
    rcases ht with h | h
    · exact h2 (e.trans h)
    · exact h3 (e.trans h))⟩
theorem KeptG.kept (h : KeptG base p g w w') (hp : Pile w base p g cap L) : KeptP base w w' := by
  refine ⟨h.bel, fun b t cs h1 h2 hr => hr.keep (h.blk b hr.lt ?_ ?_)⟩
  · rintro rfl
    have hv := hp.var
    unfold Row at hv hr
    rw [hr] at hv
    injection hv with hv
    injection hv with _ e
    exact h1 e
  · rintro rfl
    obtain ⟨_, _, hv⟩ := hp.row
    unfold Row at hv hr
    rw [hr] at hv
    injection hv with hv
    injection hv with _ e
    exact h2 e
theorem Pile.ne (h : Pile w base p g cap L) : p ≠ g := by
  obtain ⟨post, _, hr⟩ := h.row
  rintro rfl
  have hv := h.var
  unfold Row at hr hv
  rw [hr] at hv
  injection hv with hv
  injection hv with _ e
  exact absurd e (by decide)
theorem Pile.below (h : Pile w base p g cap L) (hb : Below w.heap.size w w') : Pile w' base p g cap L := by
  obtain ⟨post, h1, hr⟩ := h.row
  exact ⟨h.lowp, h.lowg, h.fits, h.most, row_below h.var hb, post, h1, row_below hr hb⟩
theorem Pile.same {L' : List Nod} (h : Pile w base p g cap L) (hl : L'.length = L.length) (hg : w.grownBy w' (some g)) {post : List Value} (hp : post.length + L.length * 2 = cap * 2) (hr : Row w' g 114 (n2 L' ++ post)) : Pile w' base p g cap L' :=
  ⟨h.lowp, h.lowg, by rw [hl]; exact h.fits, h.most, by rw [hl]; exact h.var.keep (hg.block p h.var.lt (fun e => by injection e with e; exact h.ne e)), post, by rw [hl]; exact hp, hr⟩
theorem Pile.cell (h : Pile w base p g cap L) : w.cell? ⟨p, 0, none⟩ = some (.slice (some ⟨g, 0, none⟩) L.length cap) := h.var.cell 0
theorem Pile.own (h : Pile w base p g cap L) : w.ownsRow base 114 2 (.slice (some ⟨g, 0, none⟩) L.length cap) L.length (n2 L) := by
  obtain ⟨post, h1, hr⟩ := h.row
  have hl := cc2_length (f := nodW) (h := nodP) L
  refine ⟨hl, .inr ⟨g, cap, (n2 L ++ post).toArray, rfl, h.lowg, hr, h.fits, h.most, ?_, ?_⟩⟩
  · rw [List.size_toArray, List.length_append]
    unfold n2
    omega
  · rw [List.toList_toArray, List.take_left' (by exact hl)]
theorem pile_of_own (hp : Row w p 137 [.slice (some ⟨g, 0, none⟩) L.length cap]) (hb : base ≤ p) (h : w.ownsRow base 114 2 (.slice (some ⟨g, 0, none⟩) L.length cap) L.length (n2 L)) : Pile w base p g cap L := by
  have hl := cc2_length (f := nodW) (h := nodP) L
  rcases h.2 with ⟨h1, _⟩ | ⟨g', cap', cur, e, hb2, hg, hnc, hcm, hcs, ht⟩
  · cases h1
  · injection e with e1 _ e3
    injection e1 with e1
    injection e1 with e1
    subst e1 e3
    refine ⟨hb, hb2, hnc, hcm, hp, cur.toList.drop (L.length * 2), ?_, ?_⟩
    · have hcl : cur.toList.length = cur.size := Array.length_toList
      rw [List.length_drop]
      omega
    · unfold Row
      rw [← ht, List.take_append_drop, Array.toArray_toList]
      exact hg
end
end Go.Proofs.YtgcfdjgfnagmjaaGreat

namespace Go.Proofs.YtgcfdjgfnagmjaaGreat
open Go.RowKit
def fk0 (t : Int × Int) : Value := .int .i64 t.1
def fk1 (t : Int × Int) : Value := .int .i64 t.2
def fkc (F : List (Int × Int)) : List Value := cc2 fk0 fk1 F
/-- Forks in a block of the call's own. -/
structure FT (w : World) (base g cap : Nat) (F : List (Int × Int)) : Prop where
  low : base ≤ g
  fits : F.length ≤ cap
  most : cap ≤ maxLen
  row : ∃ post, post.length + F.length * 2 = cap * 2 ∧ Row w g 135 (fkc F ++ post)
theorem fkc_length (F : List (Int × Int)) : (fkc F).length = F.length * 2 := cc2_length F
section
variable {w w' : World} {base g cap : Nat} {F : List (Int × Int)}
theorem FT.lt (h : FT w base g cap F) : g < w.heap.size := by
  obtain ⟨post, _, hr⟩ := h.row
  exact hr.lt
theorem FT.keep {row : Option Nat} (h : FT w base g cap F) (hg : w.grownBy w' row) (hne : row ≠ some g) : FT w' base g cap F := by
  obtain ⟨post, h1, hr⟩ := h.row
  exact ⟨h.low, h.fits, h.most, post, h1, hr.keep (hg.block g hr.lt (fun e => hne e.symm))⟩
theorem FT.below (h : FT w base g cap F) (hb : Below w.heap.size w w') : FT w' base g cap F := h.keep (row := none) (grown_below hb none) (by simp)
theorem FT.cell (h : FT w base g cap F) {a b : Nat} (ha : a < F.length) (hb : b < 2) : w.cell? ⟨g, a * 2 + b, none⟩ = some (.int .i64 (Bm.entF F a b)) := by
  obtain ⟨post, _, hr⟩ := h.row
  obtain ⟨h1, h2⟩ := row2_cell (f := fk0) (h := fk1) hr a ha
  unfold Bm.entF
  rw [List.getElem?_eq_getElem ha, Option.getD_some]
  rcases Nat.lt_or_ge b 1 with e | e
  · obtain rfl : b = 0 := by omega
    exact h1
  · obtain rfl : b = 1 := by omega
    exact h2
theorem FT.free (h : FT w base g cap F) (i : Nat) : w.frozen? ⟨g, i, none⟩ = false := by
  obtain ⟨post, _, hr⟩ := h.row
  exact hr.free i
theorem cc2_one {α : Type} {f h : α → Value} (l : List α) (i : Nat) (x : α) (hi : i < l.length) :
    (h x = h l[i] → (cc2 f h l).set (i * 2) (f x) = cc2 f h (l.set i x)) ∧ (f x = f l[i] → (cc2 f h l).set (i * 2 + 1) (h x) = cc2 f h (l.set i x)) := by
  have e := cc2_set (f := f) (h := h) l i x hi
  obtain ⟨g1, g2⟩ := cc2_get (f := f) (h := h) l i hi
  have hl := cc2_length (f := f) (h := h) l
  constructor
  · intro hx
    rw [← e]
    apply List.ext_getElem?
    intro j
    rw [List.getElem?_set]
    by_cases hj : i * 2 + 1 = j
    · subst hj
      rw [List.getElem?_set_self (by rw [List.length_set]; omega), if_neg (by omega), g2, hx]
    · rw [List.getElem?_set_ne hj, List.getElem?_set]
  · intro hx
    rw [← e]
    congr 1
    apply List.ext_getElem?
    intro j
    by_cases hj : i * 2 = j
    · subst hj
      rw [List.getElem?_set_self (by omega), g1, hx]
    · rw [List.getElem?_set_ne hj]
theorem fkc_set (F : List (Int × Int)) (a b : Nat) (z : Int) (ha : a < F.length) (hb : b < 2) : (fkc F).set (a * 2 + b) (.int .i64 z) = fkc (Bm.setF F a b z) := by
  unfold Bm.setF
  rw [List.getElem?_eq_getElem ha, Option.getD_some]
  rcases Nat.lt_or_ge b 1 with e | e
  · obtain rfl : b = 0 := by omega
    exact (cc2_one (f := fk0) (h := fk1) F a (z, F[a].2) ha).1 rfl
  · obtain rfl : b = 1 := by omega
    exact (cc2_one (f := fk0) (h := fk1) F a (F[a].1, z) ha).2 rfl
theorem FT.set (h : FT w base g cap F) {a b : Nat} (z : Int) (ha : a < F.length) (hb : b < 2) : FT (w.setCell ⟨g, a * 2 + b, none⟩ (.int .i64 z)) base g cap (Bm.setF F a b z) := by
  obtain ⟨post, h1, hr⟩ := h.row
  have hs := hr.set_ (a * 2 + b) (.int .i64 z)
  rw [List.set_append_left _ _ (by rw [fkc_length]; omega), fkc_set F a b z ha hb] at hs
  exact ⟨h.low, by rw [Bm.setF_length]; exact h.fits, h.most, post, by rw [Bm.setF_length]; exact h1, hs⟩
theorem FT.own (h : FT w base g cap F) : w.ownsRow base 135 2 (.slice (some ⟨g, 0, none⟩) F.length cap) F.length (fkc F) := by
  obtain ⟨post, h1, hr⟩ := h.row
  have hl := fkc_length F
  refine ⟨hl, .inr ⟨g, cap, (fkc F ++ post).toArray, rfl, h.low, hr, h.fits, h.most, ?_, ?_⟩⟩
  · rw [List.size_toArray, List.length_append]
    omega
  · rw [List.toList_toArray, List.take_left' hl]
theorem ft_of_own {n : Nat} (hn : n = F.length) (h : w.ownsRow base 135 2 (.slice (some ⟨g, 0, none⟩) n cap) n (fkc F)) : FT w base g cap F := by
  subst hn
  have hl := fkc_length F
  rcases h.2 with ⟨h1, _⟩ | ⟨g', cap', cur, e, hb2, hg, hnc, hcm, hcs, ht⟩
  · cases h1
  · injection e with e1 _ e3
    injection e1 with e1
    injection e1 with e1
    subst e1 e3
    refine ⟨hb2, hnc, hcm, cur.toList.drop (F.length * 2), ?_, ?_⟩
    · have hcl : cur.toList.length = cur.size := Array.length_toList
      rw [List.length_drop]
      omega
    · unfold Row
      rw [← ht, List.take_append_drop, Array.toArray_toList]
      exact hg
theorem fkc_push (F : List (Int × Int)) : fkc F ++ [.int .i64 0, .int .i64 0] = fkc (F ++ [(0, 0)]) := by
  unfold fkc
  rw [cc2_append]
  rfl
end
theorem info_fork : (Tryz.prog.info? 135).map (fun i => (i.zero, i.size, i.bytes)) = some (some (.agg #[.int .i64 0, .int .i64 0]), 2, 16) := by kernel_rfl
theorem fork_one : (madeCells #[Value.int .i64 0, .int .i64 0] 2).toList = fkc [(0, 0)] := by kernel_rfl
end Go.Proofs.YtgcfdjgfnagmjaaGreat

namespace Go.Proofs.YtgcfdjgfnagmjaaGreat
open Go.RowKit
theorem and_low10 (W b : Nat) (hW : W < 4294967296) (hb : b < 32) : bits .and .i64 (W : Int) (((2 ^ b : Nat) : Int) - 1) = ((W % 2 ^ b : Nat) : Int) := by
  have hp : 2 ^ b < 2 ^ 32 := Nat.pow_lt_pow_right (by omega) hb
  have hpos := Nat.two_pow_pos b
  have h1 : ∀ a : Nat, a < 4294967296 → (BitVec.ofInt 64 (a : Int)).toNat = a := fun a ha => by
    rw [BitVec.ofInt_natCast, BitVec.toNat_ofNat]; exact Nat.mod_eq_of_lt (by omega)
  rw [show ((2 ^ b : Nat) : Int) - 1 = ((2 ^ b - 1 : Nat) : Int) by omega]
  show IntKind.i64.wrap ((BitVec.ofInt 64 (W : Int) &&& BitVec.ofInt 64 ((2 ^ b - 1 : Nat) : Int)).toNat : Int) = _
  rw [BitVec.toNat_and, h1 W hW, h1 _ (by omega), Nat.and_two_pow_sub_one_eq_mod, IntKind.wrap_i64]
  have h2 := Nat.mod_lt W hpos
  omega
theorem and_one (x : Nat) (hx : x < 4294967296) : bits .and .i64 (x : Int) 1 = ((x % 2 : Nat) : Int) := by
  have h := and_low10 x 1 hx (by omega)
  exact h
set_option maxHeartbeats 4000000 in
set_option maxRecDepth 100000 in
theorem littree_any (A B : Option Addr) (c d : Nat) (ls : List Nat) (w : World) (hW : Bm.WholeN ls) (hr : Reads w A (i64s ls)) (hs : Reads w B (i64s (Bm.codesN ls))) :
    Calls Tryz.prog 77 #[.slice A ls.length c, .slice B ls.length d] w fun e w' => ∃ g cap P F, e = .returned (.slice (some ⟨g, 0, none⟩) (F : List (Int × Int)).length cap) ∧ FT w' w.heap.size g cap F ∧ Bm.Tr ls ls.length P F ∧ Below w.heap.size w w' := by
  obtain ⟨i0, hi, hz0, hz1, hz2⟩ := info_parts info_fork
  have Hr := Lib.hid hr
  have Hs := Lib.hid hs
  have HW := Lib.hid hW
  have hl256 := hW.1
  clear hr hs hW
  go_enter Tryz.func77, Tryz.ntmps77
  go_wp2_with (at_make; refine wpList_make_full _ rfl _ _ 107 rfl w.heap.size 135 i0 (.agg #[.int .i64 0, .int .i64 0]) 2 Tryz.underlying107 hi hz0 hz1 .i64 .i64 _ _ 1 rfl rfl ?c1 ?c1 ?c2 ?c3 ?c4 ?_)
  case c1 => omega
  case c2 => first | omega | (rw [hz2]; omega)
  case c3 => unfold maxLen; omega
  try case c4 => omega
  intro w1 hown1 hg1
  have hb1 := below_of_grown hg1
  have hft1 : FT w1 w.heap.size w.heap.size 1 [(0, 0)] := ft_of_own (n := 1) rfl (by rw [← fork_one]; exact hown1)
  have Hft1 := Lib.hid hft1
  have Hb1 := Lib.hid hb1
  have Htr1 := Lib.hid (Bm.Tr.start ls)
  clear hown1 hg1 hb1 hft1
  go_wp2
  go_loopw [5, 15] (fun fv iv wr => ∃ (q g cap : Nat) (P : List (List Nat)) (F : List (Int × Int)), q ≤ ls.length ∧ iv = .int .i64 (q : Int) ∧ fv = .slice (some ⟨g, 0, none⟩) F.length cap ∧ F.length ≤ 1 + 11 * q ∧ Hid (FT wr w.heap.size g cap F) ∧ Hid (Bm.Tr ls q P F) ∧ Hid (Below w.heap.size w wr)) (fun _ iv _ => ls.length - (intOf iv).toNat)
  case atStart => exact ⟨0, w.heap.size, 1, [[]], [(0, 0)], by omega, rfl, rfl, by simp, Hft1, Htr1, Hb1⟩
  case round =>
    obtain ⟨q, g, cap, P, F, hq, rfl, rfl, hFl, hft, htr, hbel⟩ := hrel
    clear Hft1 Htr1 Hb1
    by_cases hql : q < ls.length
    · obtain ⟨gl, ol, rfl, hc⟩ := reads_i9 (reads_on Hr.out hbel.out) (by omega)
      have c0 := hc q hql
      have hge : ls[q]?.getD 0 = ls[q] := by rw [List.getElem?_eq_getElem hql, Option.getD_some]
      have h11 := HW.out.2.1 ls[q] (List.getElem_mem hql)
      have Hsk := Lib.hid (fun h => htr.out.skip h)
      have Hcl := Lib.hid (Bm.cbits_length ls q)
      have Hc9 := Lib.hid (fun h => Bm.code_lt9 ls q hql HW.out h)
      have Hcg := Lib.hid (fun j h => Bm.cbits_get ls q j h)
      rw [hge] at Hsk Hcl Hc9 Hcg
      clear hc hge
      by_cases hx : ls[q] = 0
      · rw [hx] at c0
        have Htr2 := Lib.hid (Hsk.out hx)
        clear Hsk Hcl Hc9 Hcg htr
        go_wp2
        go_roundw
        case rel => exact ⟨q + 1, g, cap, P, F, by omega, by go_num, rfl, by omega, hft, Htr2, hbel⟩
        case measure => simp [intOf]; omega
      · have hx0 : 0 < ls[q] := by omega
        obtain ⟨gc, oc, rfl, hcc⟩ := reads_i9 (reads_on Hs.out hbel.out) (by rw [Bm.codes_length]; omega)
        have c1 := hcc q (by rw [Bm.codes_length]; exact hql)
        rw [Bm.codes_get ls q hql] at c1
        have hc9 := Hc9.out hx0
        clear hcc Hsk Hc9
        generalize Bm.codeN9 ls q = cn at *
        obtain ⟨n, hn⟩ : ∃ n, ls[q] = n + 1 := ⟨ls[q] - 1, by omega⟩
        rw [hn] at c0 hc9 h11 Hcl Hcg
        have hd0 : ((n : Int) + 1 == 0) = false := by rw [beq_eq_false_iff_ne]; omega
        clear hx hx0 hn
        have hc2048 : cn < 2048 := Nat.lt_of_lt_of_le hc9 (Nat.pow_le_pow_right (n := 2) (j := 11) (by omega) h11)
        go_wp2
        go_loopw [5, 9, 10] (fun fv av iv wr => ∃ (j a g cap : Nat) (P : List (List Nat)) (F : List (Int × Int)), j ≤ n ∧ iv = .int .i64 ((n - j : Nat) : Int) ∧ av = .int .i64 (a : Int) ∧ fv = .slice (some ⟨g, 0, none⟩) F.length cap ∧ F.length ≤ 1 + 11 * q + j ∧ Hid (FT wr w.heap.size g cap F) ∧ Hid (Bm.Tr ls q P F) ∧ Hid (Below w.heap.size w wr) ∧ Hid (P[a]? = some ((Bm.cbits ls q).take j)) ∧ Hid (∀ i, i ≤ j → (Bm.cbits ls q).take i ∈ P)) (fun _ _ iv _ => (intOf iv).toNat)
        case atStart =>
          refine ⟨0, 0, g, cap, P, F, by omega, rfl, rfl, rfl, by omega, hft, htr, hbel, Lib.hid (by rw [List.take_zero]; exact htr.out.root), Lib.hid (fun i hi => ?_)⟩
          obtain rfl : i = 0 := by omega
          rw [List.take_zero]
          exact List.mem_of_getElem? htr.out.root
        case round =>
          clear hft htr hbel c0 c1
          obtain ⟨j, a, g, cap, P, F, hj, rfl, rfl, rfl, hFl, hft, htr, hbel, hat, hall⟩ := hrel
          rename World => wx
          have hal : a < F.length := by rw [htr.out.len]; exact Bm.at_lt hat.out
          by_cases hjn : j < n
          · have hjc : j < (Bm.cbits ls q).length := by rw [Hcl.out]; omega
            have hbt := Hcg.out j hjc
            rw [Nat.add_sub_cancel] at hbt
            have hb2 := Bm.cbits_lt ls q _ (List.getElem_mem hjc)
            have hpos := htr.out.pos HW.out hql hjc hat.out
            have hnx := Bm.take_next (Bm.cbits ls q) j hjc
            have hj2 : j + 1 < (Bm.cbits ls q).length := by rw [Hcl.out]; omega
            have Hgr := Lib.hid (fun (h : Bm.entF F a (Bm.cbits ls q)[j] = 0) => htr.out.grow hj2 hat.out h)
            have Hat2 := Lib.hid (fun (h : 0 < Bm.entF F a (Bm.cbits ls q)[j]) => htr.out.on hat.out hb2 h)
            have hbit : bits .and .i64 ((cn : Int) / 2 ^ (n - j)) 1 = (((Bm.cbits ls q)[j] : Nat) : Int) := by
              have h := and_one (cn / 2 ^ (n - j)) (Nat.lt_of_le_of_lt (Nat.div_le_self _ _) (by omega))
              rw [hbt, ← h]
              simp
            rw [← hnx] at Hat2
            clear hbt hnx
            generalize (Bm.cbits ls q)[j] = bb at *
            have cz := hft.out.cell hal hb2
            have fz := hft.out.free (a * 2 + bb)
            have Hc7 := Lib.hid (fun (z : Int) => Bm.ent_same F a bb z hal)
            have Hset := Lib.hid (fun z => hft.out.set z hal hb2)
            have hlen := htr.out.len
            by_cases hz : Bm.entF F a bb = 0
            · rw [hz] at cz
              have Htr2 := Lib.hid (Hgr.out hz)
              have hft2 := (Hset.out (P.length : Int)).below ((Below.refl _ _).alloc (Nat.le_refl _) (.cells #[.int .i64 0, .int .i64 0] 135))
              have hown2 := hft2.own
              rw [Bm.setF_length] at hown2
              have Hown2 := Lib.hid hown2
              have Hb2 := Lib.hid ((hbel.out.setCell (p := ⟨g, a * 2 + bb, none⟩) hft.out.low (.int .i64 (P.length : Int))).alloc (by simpa using hbel.out.size) (.cells #[.int .i64 0, .int .i64 0] 135))
              have hFb : F.length ≤ 1 + 11 * 256 + 11 := by omega
              rw [← hlen] at Hown2 Hb2
              have Hlen := Lib.hid hlen
              have hrn := Row.new (wx.setCell ⟨g, a * 2 + bb, none⟩ (.int .i64 (F.length : Int))) 135 [.int .i64 0, .int .i64 0]
              rw [show (wx.setCell ⟨g, a * 2 + bb, none⟩ (.int .i64 (F.length : Int))).heap.size = wx.heap.size by simp] at hrn
              have Hnews := Lib.hid (reads_news (row_reads hrn))
              clear hrn hlen hft2 hown2 Hset Hgr Hat2 hpos hft htr hbel
              go_wp2_with (at_builtin; refine wpList_append_lies _ rfl _ _ 107 rfl w.heap.size 135 i0 (.agg #[.int .i64 0, .int .i64 0]) 2 16 Tryz.underlying107 hi hz0 hz1 hz2 rfl (by decide) _ _ _ rfl Hown2.out ⟨wx.heap.size, 0, none⟩ 1 1 [.int .i64 0, .int .i64 0] rfl rfl ?d1 ?d2 (by decide) ?d3 ?d4 ?d5 _ rfl ?_)
              case d1 => exact Hnews.out
              case d2 => intro u hu; simp at hu; subst hu; rfl
              case d3 => unfold maxLen; omega
              case d4 => omega
              case d5 => have := Hb2.out.size; simpa using this
              intro g7 cap7 w7 hown7 hgr7 hat7 hlt7
              rw [fkc_push] at hown7
              have hl7 : (Bm.setF F a bb (F.length : Int) ++ [(0, 0)]).length = F.length + 1 := by rw [List.length_append, Bm.setF_length]; rfl
              have hft7 := ft_of_own hl7.symm hown7
              have c7 := hft7.cell (a := a) (b := bb) (by omega) hb2
              rw [Bm.ent_app _ _ _ _ (by rw [Bm.setF_length]; exact hal), Hc7.out] at c7
              have Hft7 := Lib.hid hft7
              have Hb7 : Hid (Below w.heap.size w w7) := Lib.hid (Hb2.out.grown hgr7 Hb2.out.size (fun k e => by have := (Hown2.out.lt k e).1; exact this))
              have Hl7 := Lib.hid hl7
              clear hl7 hown7 hgr7 hat7 hft7 Hb2 Hown2 hi hz0 hz1 hz2 cz fz
              go_wp2
              go_roundw
              case rel =>
                refine ⟨j + 1, F.length, g7, cap7, P ++ [(Bm.cbits ls q).take (j + 1)], _, by omega, by go_num, rfl, by rw [Hl7.out], by rw [Hl7.out]; omega, Hft7, ?_, Hb7, Lib.hid ?_, Lib.hid (fun i hi => ?_)⟩
                · rw [Hlen.out]; exact Htr2
                · rw [Hlen.out, List.getElem?_append_right (Nat.le_refl _), Nat.sub_self]; rfl
                · by_cases e : i = j + 1
                  · subst e; simp
                  · exact List.mem_append_left _ (hall.out i (by omega))
              case measure => simp [intOf]; omega
            · have hzp : 0 < Bm.entF F a bb := by omega
              have hd1 : (Bm.entF F a bb == 0) = false := by rw [beq_eq_false_iff_ne]; exact hz
              have hat2 := Hat2.out hzp
              obtain ⟨z, hzz⟩ : ∃ z : Nat, Bm.entF F a bb = (z : Int) := ⟨(Bm.entF F a bb).toNat, by omega⟩
              rw [hzz] at cz hd1 hat2
              rw [Int.toNat_natCast] at hat2
              have Hat3 := Lib.hid hat2
              clear Hset Hgr Hat2 hpos hlen hzz hz hzp Hc7 fz hat2
              go_wp2
              go_roundw
              case rel =>
                refine ⟨j + 1, z, g, cap, P, F, by omega, by go_num, rfl, rfl, by omega, hft, htr, hbel, Hat3, Lib.hid (fun i hi => ?_)⟩
                by_cases e : i = j + 1
                · subst e; exact Bm.mem_at Hat3.out
                · exact hall.out i (by omega)
              case measure => simp [intOf]; omega
          · obtain rfl : j = n := by omega
            rw [Nat.sub_self]
            have hjc : j < (Bm.cbits ls q).length := by rw [Hcl.out]; omega
            have hbt := Hcg.out j hjc
            rw [Nat.add_sub_cancel, Nat.sub_self, Nat.pow_zero, Nat.div_one] at hbt
            have hb2 := Bm.cbits_lt ls q _ (List.getElem_mem hjc)
            have Hlf := Lib.hid (htr.out.leaf Hcl.out.symm hat.out hall.out)
            have hbit : bits .and .i64 (cn : Int) 1 = (((Bm.cbits ls q)[j] : Nat) : Int) := by
              rw [hbt]
              exact and_one cn (by omega)
            clear hbt
            generalize (Bm.cbits ls q)[j] = bb at *
            have cz := hft.out.cell hal hb2
            have fz := hft.out.free (a * 2 + bb)
            have Hset := Lib.hid (hft.out.set (-1 - (q : Int)) hal hb2)
            have Hb3 := Lib.hid (hbel.out.setCell (p := ⟨g, a * 2 + bb, none⟩) hft.out.low (.int .i64 (-1 - (q : Int))))
            have hsl := Bm.setF_length F a bb (-1 - (q : Int))
            have Hsl := Lib.hid hsl
            clear hft htr hbel hat hall hsl
            go_wp2
            go_roundw
            case rel => exact ⟨q + 1, g, cap, P, _, by omega, by go_num, by rw [Hsl.out], by rw [Hsl.out]; omega, Hset, Hlf, Hb3⟩
            case measure => simp [intOf]; omega
    · obtain rfl : q = ls.length := by omega
      go_wp2
      go_ret
      exact ⟨g, cap, P, F, rfl, hft.out, htr.out, hbel.out⟩
end Go.Proofs.YtgcfdjgfnagmjaaGreat

namespace Go.Proofs.YtgcfdjgfnagmjaaGreat.Bm
theorem lt2_iff (a b : Nat × Nat) : lt2 a b ↔ (a.1 < b.1 ∨ (a.1 = b.1 ∧ a.2 < b.2)) := Iff.rfl
/-- The element at a place. -/
abbrev at2 (l : List (Nat × Nat)) (i : Nat) : Nat × Nat := l[i]?.getD (0, 0)
theorem swp_at (l : List (Nat × Nat)) (i j k : Nat) (hi : i < l.length) (hj : j < l.length) : at2 (swp (0, 0) l i j) k = if k = j then at2 l i else if k = i then at2 l j else at2 l k := by
  unfold at2 swp
  rw [List.getElem?_set, List.length_set]
  by_cases h1 : j = k
  · subst h1
    rw [if_pos rfl, if_pos rfl, if_pos hj, Option.getD_some]
  · rw [if_neg h1, if_neg (fun h => h1 h.symm), List.getElem?_set]
    by_cases h2 : i = k
    · subst h2
      rw [if_pos rfl, if_pos rfl, if_pos hi, Option.getD_some]
    · rw [if_neg h2, if_neg (fun h => h2 h.symm)]
theorem swp_perm (l : List (Nat × Nat)) (i j : Nat) (hi : i < l.length) (hj : j < l.length) : (swp (0, 0) l i j).Perm l := by
  unfold swp
  rw [List.getElem?_eq_getElem hi, List.getElem?_eq_getElem hj, Option.getD_some, Option.getD_some]
  rcases Nat.lt_trichotomy i j with h | h | h
  · exact List.set_set_perm hi hj
  · subst h; exact List.set_set_perm hi hj
  · exact List.set_set_perm hi hj
/-- Of the first n, none is lighter than the one above it. -/
def HeapN (l : List (Nat × Nat)) (n : Nat) : Prop := ∀ k, 0 < k → k < n → ¬ lt2 (at2 l k) (at2 l ((k - 1) / 2))
/-- A heap, but that j may be too light. -/
def UpN (l : List (Nat × Nat)) (n j : Nat) : Prop := (∀ k, 0 < k → k < n → k ≠ j → ¬ lt2 (at2 l k) (at2 l ((k - 1) / 2))) ∧ (0 < j → ∀ k, 0 < k → k < n → (k - 1) / 2 = j → ¬ lt2 (at2 l k) (at2 l ((j - 1) / 2)))
/-- A heap, but that i may be too heavy. -/
def DownN (l : List (Nat × Nat)) (n i : Nat) : Prop := (∀ k, 0 < k → k < n → (k - 1) / 2 ≠ i → ¬ lt2 (at2 l k) (at2 l ((k - 1) / 2))) ∧ (0 < i → ∀ k, 0 < k → k < n → (k - 1) / 2 = i → ¬ lt2 (at2 l k) (at2 l ((i - 1) / 2)))
theorem up_end0 (l : List (Nat × Nat)) (n : Nat) (h : UpN l n 0) : HeapN l n := fun k h0 hk => h.1 k h0 hk (by omega)
theorem up_end (l : List (Nat × Nat)) (n j : Nat) (h : UpN l n j) (hj : ¬ lt2 (at2 l j) (at2 l ((j - 1) / 2))) : HeapN l n := fun k h0 hk => by
  by_cases e : k = j
  · subst e; exact hj
  · exact h.1 k h0 hk e
theorem up_step (l : List (Nat × Nat)) (n j : Nat) (hn : n ≤ l.length) (hj : j < n) (h0 : 0 < j) (h : UpN l n j) (hlt : lt2 (at2 l j) (at2 l ((j - 1) / 2))) : UpN (swp (0, 0) l ((j - 1) / 2) j) n ((j - 1) / 2) := by
  obtain ⟨p, hp⟩ : ∃ p, p = (j - 1) / 2 := ⟨_, rfl⟩
  rw [← hp] at hlt ⊢
  obtain ⟨h1, h2⟩ := h
  rw [← hp] at h2
  have hs := fun k => swp_at l p j k (by omega) (by omega)
  refine ⟨fun k k0 kn kp => ?_, fun p0 k k0 kn kp => ?_⟩
  · rw [hs, hs]
    by_cases e : k = j
    · subst e
      rw [if_pos rfl, ← hp, if_neg (by omega), if_pos rfl]
      rw [lt2_iff] at hlt ⊢
      omega
    · rw [if_neg e, if_neg kp]
      by_cases e2 : (k - 1) / 2 = j
      · rw [if_pos e2]
        exact h2 h0 k k0 kn e2
      · rw [if_neg e2]
        by_cases e3 : (k - 1) / 2 = p
        · rw [if_pos e3]
          have := h1 k k0 kn e
          rw [e3] at this
          rw [lt2_iff] at hlt this ⊢
          omega
        · rw [if_neg e3]
          exact h1 k k0 kn e
  · rw [hs, hs, if_neg (show ¬ (p - 1) / 2 = j by omega), if_neg (show ¬ (p - 1) / 2 = p by omega)]
    have hpp := h1 p p0 (by omega) (by omega)
    by_cases e : k = j
    · rw [if_pos e]; exact hpp
    · rw [if_neg e, if_neg (show ¬ k = p by omega)]
      have := h1 k k0 kn e
      rw [kp] at this
      rw [lt2_iff] at this hpp ⊢
      omega
theorem down_end (l : List (Nat × Nat)) (n i : Nat) (h : DownN l n i) (hi : ∀ k, 0 < k → k < n → (k - 1) / 2 = i → ¬ lt2 (at2 l k) (at2 l i)) : HeapN l n := fun k h0 hk => by
  by_cases e : (k - 1) / 2 = i
  · rw [e]; exact hi k h0 hk e
  · exact h.1 k h0 hk e
theorem down_step (l : List (Nat × Nat)) (n i j : Nat) (hn : n ≤ l.length) (hj : j < n) (h0 : 0 < j) (hji : (j - 1) / 2 = i) (h : DownN l n i) (hlt : lt2 (at2 l j) (at2 l i)) (hleast : ∀ k, 0 < k → k < n → (k - 1) / 2 = i → ¬ lt2 (at2 l k) (at2 l j)) :
    DownN (swp (0, 0) l i j) n j := by
  obtain ⟨h1, h2⟩ := h
  have hs := fun k => swp_at l i j k (by omega) (by omega)
  refine ⟨fun k k0 kn kp => ?_, fun _ k k0 kn kp => ?_⟩
  · rw [hs, hs]
    by_cases e : k = j
    · subst e
      rw [if_pos rfl, hji, if_neg (by omega), if_pos rfl]
      rw [lt2_iff] at hlt ⊢
      omega
    · rw [if_neg e, if_neg kp]
      by_cases e2 : (k - 1) / 2 = i
      · rw [if_pos e2, if_neg (show ¬ k = i by omega)]
        exact hleast k k0 kn e2
      · rw [if_neg e2]
        by_cases e3 : k = i
        · rw [if_pos e3]
          have := h2 (by omega) j h0 hj hji
          rw [e3]
          exact this
        · rw [if_neg e3]
          exact h1 k k0 kn e2
  · rw [hs, hs, hji, if_neg (show ¬ k = j by omega), if_neg (show ¬ k = i by omega), if_neg (show ¬ i = j by omega), if_pos rfl]
    have := h1 k k0 kn (by omega)
    rw [kp] at this
    exact this
theorem heap_least (l : List (Nat × Nat)) (n : Nat) (h : HeapN l n) : ∀ k, k < n → ¬ lt2 (at2 l k) (at2 l 0) := by
  intro k
  induction k using Nat.strongRecOn with
  | _ k ih =>
    intro hk
    by_cases e : k = 0
    · subst e
      rw [lt2_iff]
      omega
    · have h1 := h k (by omega) hk
      have h2 := ih ((k - 1) / 2) (by omega) (by omega)
      rw [lt2_iff] at h1 h2 ⊢
      omega
/-- A heap with one more behind it. -/
theorem heap_push (l : List (Nat × Nat)) (x : Nat × Nat) (h : HeapN l l.length) : UpN (l ++ [x]) (l.length + 1) l.length := by
  have hg : ∀ k, k < l.length → at2 (l ++ [x]) k = at2 l k := fun k hk => by
    unfold at2
    rw [List.getElem?_append_left hk]
  refine ⟨fun k k0 kn kj => ?_, fun h0 k k0 kn kp => by omega⟩
  rw [hg k (by omega), hg ((k - 1) / 2) (by omega)]
  exact h k k0 (by omega)
/-- The first and the last changed round: a heap of the others, but for the first. -/
theorem heap_pop (l : List (Nat × Nat)) (n : Nat) (hn : l.length = n + 1) (h : HeapN l (n + 1)) : DownN (swp (0, 0) l 0 n) n 0 := by
  have hs := fun k => swp_at l 0 n k (by omega) (by omega)
  refine ⟨fun k k0 kn kp => ?_, fun h0 => by omega⟩
  rw [hs, hs, if_neg (by omega), if_neg (by omega), if_neg (by omega), if_neg kp]
  exact h k k0 (by omega)
theorem heap_take (l : List (Nat × Nat)) (n : Nat) (h : HeapN l n) : HeapN (l.take n) n := fun k k0 kn => by
  have hg : ∀ k, k < n → at2 (l.take n) k = at2 l k := fun k hk => by
    unfold at2
    rw [List.getElem?_take, if_pos hk]
  rw [hg k kn, hg _ (by omega)]
  exact h k k0 kn
end Go.Proofs.YtgcfdjgfnagmjaaGreat.Bm

namespace Go.Proofs.YtgcfdjgfnagmjaaGreat.Bm
/-- The symbols that have a count, of the first k. -/
def lvsTo (cs : List Nat) (k : Nat) : List (Nat × Nat) := (List.range k).flatMap fun i => if 0 < cs[i]?.getD 0 then [(cs[i]?.getD 0, i)] else []
def lvs (cs : List Nat) : List (Nat × Nat) := lvsTo cs cs.length
theorem lvsTo_succ (cs : List Nat) (k : Nat) : lvsTo cs (k + 1) = lvsTo cs k ++ if 0 < cs[k]?.getD 0 then [(cs[k]?.getD 0, k)] else [] := by
  unfold lvsTo
  rw [List.range_succ, List.flatMap_append]
  simp
theorem lvsTo_len (cs : List Nat) : ∀ k, (lvsTo cs k).length ≤ k
  | 0 => by simp [lvsTo]
  | k + 1 => by
    have := lvsTo_len cs k
    rw [lvsTo_succ, List.length_append]
    split <;> simp <;> omega
theorem lvsTo_mem (cs : List Nat) (k : Nat) (t : Nat × Nat) : t ∈ lvsTo cs k ↔ t.2 < k ∧ t.1 = cs[t.2]?.getD 0 ∧ 0 < t.1 := by
  unfold lvsTo
  rw [List.mem_flatMap]
  constructor
  · rintro ⟨i, hi, ht⟩
    have hi := List.mem_range.1 hi
    split at ht
    · next h => simp at ht; subst ht; exact ⟨hi, rfl, h⟩
    · simp at ht
  · rintro ⟨h1, h2, h3⟩
    refine ⟨t.2, List.mem_range.2 h1, ?_⟩
    rw [if_pos (by omega), ← h2]
    simp
/-- Sums over the symbols that have a count. -/
theorem lvs_sum (cs : List Nat) (F : Nat × Nat → Nat) : ∀ k, ((lvsTo cs k).map F).sum = ((List.range k).map fun i => if 0 < cs[i]?.getD 0 then F (cs[i]?.getD 0, i) else 0).sum
  | 0 => by simp [lvsTo]
  | k + 1 => by
    rw [lvsTo_succ, List.map_append, List.sum_append_nat, lvs_sum cs F k, List.range_succ, List.map_append, List.sum_append_nat]
    split <;> simp_all
theorem lvsTo_fst (cs : List Nat) : ∀ k, k ≤ cs.length → (lvsTo cs k).map (·.1) = posC (cs.take k)
  | 0, _ => by simp [lvsTo, posC]
  | k + 1, h => by
    rw [lvsTo_succ, List.map_append, lvsTo_fst cs k (by omega), posC_take cs k (by omega), List.getElem?_eq_getElem (by omega), Option.getD_some]
    congr 1
    split <;> simp
theorem lvs_fst (cs : List Nat) : (lvs cs).map (·.1) = posC cs := by
  unfold lvs
  rw [lvsTo_fst cs cs.length (Nat.le_refl _), List.take_length]
/-- A list's number at a place. -/
abbrev nat1 (l : List Nat) (i : Nat) : Nat := l[i]?.getD 0
/-- A node's depth is one more than that of what it is joined to. -/
def DepOk (A : List Nat) (d : Nat → Nat) : Prop := ∀ i, i < A.length → nat1 A i ≠ 0 → d i = d (nat1 A i) + 1
def sumW (L : List (Nat × Nat)) (d : Nat → Nat) : Nat := (L.map fun t => t.1 * d t.2).sum
def sumK (D : Nat) (L : List (Nat × Nat)) (d : Nat → Nat) : Nat := (L.map fun t => 2 ^ (D - d t.2)).sum
/-- What join keeps: what each is joined to, the nodes that are joined to none, what has been paid. -/
structure JoinN (cs A : List Nat) (L : List (Nat × Nat)) (C : Nat) : Prop where
  len : cs.length ≤ A.length
  free : ∀ t ∈ L, t.2 < A.length ∧ nat1 A t.2 = 0
  apart : (L.map (·.2)).Nodup
  above : ∀ i, i < A.length → nat1 A i ≠ 0 → i < nat1 A i ∧ nat1 A i < A.length
  none : ∀ i, i < cs.length → nat1 cs i = 0 → nat1 A i = 0
  some : ∀ i, i < cs.length → 0 < nat1 cs i → nat1 A i ≠ 0 ∨ i ∈ L.map (·.2)
  cost : ∀ d, DepOk A d → sumW (lvs cs) d = sumW L d + C
  kraft : ∀ d D, DepOk A d → (∀ i, d i ≤ D) → sumK D (lvs cs) d = sumK D L d
  best : C + hbest (L.map (·.1)) = hbest (posC cs)
  last : cs.length < A.length → A.length - 1 ∈ L.map (·.2)
  count : L.length + (A.length - cs.length) = (lvs cs).length
  total : (L.map (·.1)).sum = (posC cs).sum
  pos : ∀ t ∈ L, t.2 < cs.length → 0 < nat1 cs t.2
theorem nodup_lvs (cs : List Nat) : ∀ k, ((lvsTo cs k).map (·.2)).Nodup
  | 0 => by simp [lvsTo]
  | k + 1 => by
    rw [lvsTo_succ, List.map_append]
    have ih := nodup_lvs cs k
    split
    · rw [List.nodup_append]
      refine ⟨ih, by simp, ?_⟩
      intro a ha b hb
      obtain ⟨t, ht, rfl⟩ := List.mem_map.1 ha
      have := ((lvsTo_mem cs k t).1 ht).1
      simp at hb
      omega
    · simpa using ih
theorem rep_zero (n i : Nat) : nat1 (List.replicate n 0) i = 0 := by
  unfold nat1
  rw [List.getElem?_replicate]
  split <;> rfl
theorem join_start (cs : List Nat) (L : List (Nat × Nat)) (h : L.Perm (lvs cs)) : JoinN cs (List.replicate cs.length 0) L 0 where
  len := by simp
  free := fun t ht => by
    have := (lvsTo_mem cs _ t).1 (h.mem_iff.1 ht)
    exact ⟨by simpa using this.1, rep_zero _ _⟩
  apart := (h.map _).nodup_iff.2 (nodup_lvs cs _)
  above := fun i _ h => absurd (rep_zero _ _) h
  none := fun i _ _ => rep_zero _ _
  some := fun i hi h0 => .inr ((h.map _).mem_iff.2 (List.mem_map.2 ⟨(nat1 cs i, i), (lvsTo_mem cs _ _).2 ⟨hi, rfl, h0⟩, rfl⟩))
  cost := fun d _ => by unfold sumW; rw [(h.map _).sum_nat]; rfl
  kraft := fun d D _ _ => by unfold sumK; rw [(h.map _).sum_nat]
  best := by rw [Nat.zero_add, hbest_perm (h.map _), lvs_fst]
  last := fun h => by simp at h
  count := by simp [h.length_eq]
  total := by rw [(h.map _).sum_nat, lvs_fst]
  pos := fun t ht _ => by
    have := (lvsTo_mem cs _ t).1 (h.mem_iff.1 ht)
    unfold nat1
    omega
theorem set_two (A : List Nat) (a b P i : Nat) (ha : a < A.length) (hb : b < A.length) : nat1 ((A.set a P).set b P ++ [0]) i = if i = a ∨ i = b then P else nat1 A i := by
  unfold nat1
  by_cases h1 : i < A.length
  · rw [List.getElem?_append_left (by simpa using h1), List.getElem?_set, List.getElem?_set, List.length_set]
    by_cases e1 : b = i
    · subst e1; rw [if_pos rfl, if_pos hb, if_pos (.inr rfl)]; rfl
    · rw [if_neg e1]
      by_cases e2 : a = i
      · subst e2; rw [if_pos rfl, if_pos ha, if_pos (.inl rfl)]; rfl
      · rw [if_neg e2, if_neg (by omega)]
  · rw [List.getElem?_append_right (by simpa using h1), if_neg (by omega), List.getElem?_eq_none (show A.length ≤ i by omega), List.getElem?_singleton]
    split <;> rfl
theorem join_step {cs A : List Nat} {L R L' : List (Nat × Nat)} {C wa a wb b : Nat} (h : JoinN cs A L C) (hp : L.Perm ((wa, a) :: (wb, b) :: R)) (hab : wa ≤ wb) (hR : ∀ y ∈ R, wb ≤ y.1) (h2 : 2 ≤ A.length) (hL' : L'.Perm ((wa + wb, A.length) :: R)) :
    JoinN cs ((A.set a A.length).set b A.length ++ [0]) L' (C + (wa + wb)) := by
  have ma := h.free (wa, a) (hp.mem_iff.2 (by simp))
  have mb := h.free (wb, b) (hp.mem_iff.2 (by simp))
  have hR2 : ∀ t ∈ R, t.2 < A.length ∧ nat1 A t.2 = 0 := fun t ht => h.free t (hp.mem_iff.2 (by simp [ht]))
  have hnd := (hp.map (·.2)).nodup_iff.1 h.apart
  simp only [List.map_cons, List.nodup_cons, List.mem_cons, not_or] at hnd
  obtain ⟨⟨hne, haR⟩, hbR, hRn⟩ := hnd
  have hs := fun i => set_two A a b A.length i ma.1 mb.1
  have hlen : ((A.set a A.length).set b A.length ++ [0]).length = A.length + 1 := by simp
  have hdep : ∀ d, DepOk ((A.set a A.length).set b A.length ++ [0]) d → DepOk A d ∧ d a = d A.length + 1 ∧ d b = d A.length + 1 := fun d hd => by
    refine ⟨fun i hi hA => ?_, ?_, ?_⟩
    · have h1 := hd i (by omega)
      rw [hs, if_neg (by
        rintro (rfl | rfl)
        · exact hA ma.2
        · exact hA mb.2)] at h1
      exact h1 hA
    · have h1 := hd a (by have := ma.1; omega)
      rw [hs, if_pos (.inl rfl)] at h1
      exact h1 (by omega)
    · have h1 := hd b (by have := mb.1; omega)
      rw [hs, if_pos (.inr rfl)] at h1
      exact h1 (by omega)
  refine ⟨by rw [hlen]; have := h.len; omega, fun t ht => ?_, ?_, fun i hi hA => ?_, fun i hi h0 => ?_, fun i hi h0 => ?_, fun d hd => ?_, fun d D hd hD => ?_, ?_, fun _ => ?_, ?_, ?_, fun t ht hc => ?_⟩
  · rw [hlen, hs]
    rcases List.mem_cons.1 (hL'.mem_iff.1 ht) with rfl | ht
    · refine ⟨by show A.length < A.length + 1; omega, ?_⟩
      rw [if_neg (by have := ma.1; have := mb.1; simp only; omega)]
      unfold nat1
      rw [List.getElem?_eq_none (by exact Nat.le_refl _)]
      rfl
    · have h1 := hR2 t ht
      refine ⟨by omega, ?_⟩
      rw [if_neg (by
        rintro (e | e)
        · exact haR (List.mem_map.2 ⟨t, ht, e⟩)
        · exact hbR (List.mem_map.2 ⟨t, ht, e⟩))]
      exact h1.2
  · refine (hL'.map (·.2)).nodup_iff.2 ?_
    rw [List.map_cons, List.nodup_cons]
    refine ⟨fun hm => ?_, hRn⟩
    obtain ⟨t, ht, e⟩ := List.mem_map.1 hm
    have := (hR2 t ht).1
    simp only at e
    omega
  · rw [hs] at hA ⊢
    rw [hlen] at hi ⊢
    split at hA
    · next hc =>
      rw [if_pos hc]
      have := ma.1
      have := mb.1
      omega
    · next hc =>
      rw [if_neg hc]
      have hi2 : i < A.length := by
        rcases Nat.lt_or_ge i A.length with h1 | h1
        · exact h1
        · exfalso
          apply hA
          unfold nat1
          rw [List.getElem?_eq_none h1]
          rfl
      have := h.above i hi2 hA
      omega
  · rw [hs]
    have h1 := h.none i hi h0
    rw [if_neg ?_]
    · exact h1
    · rintro (rfl | rfl)
      · have := h.pos (wa, i) (hp.mem_iff.2 (by simp)) hi
        simp only at this
        omega
      · have := h.pos (wb, i) (hp.mem_iff.2 (by simp)) hi
        simp only at this
        omega
  · rw [hs]
    have := h.len
    rcases h.some i hi h0 with h1 | h1
    · left
      split
      · omega
      · exact h1
    · rw [(hp.map _).mem_iff] at h1
      simp only [List.map_cons, List.mem_cons] at h1
      rcases h1 with h1 | h1 | h1
      · left; rw [if_pos (.inl h1)]; omega
      · left; rw [if_pos (.inr h1)]; omega
      · right
        rw [(hL'.map _).mem_iff]
        simp [h1]
  · obtain ⟨h1, h3, h4⟩ := hdep d hd
    have e1 : sumW L d = wa * d a + (wb * d b + sumW R d) := by
      unfold sumW
      rw [(hp.map _).sum_nat, List.map_cons, List.map_cons, List.sum_cons, List.sum_cons]
    have e2 : sumW L' d = (wa + wb) * d A.length + sumW R d := by
      unfold sumW
      rw [(hL'.map _).sum_nat, List.map_cons, List.sum_cons]
    rw [h.cost d h1, e1, e2, h3, h4, Nat.mul_succ, Nat.mul_succ, Nat.add_mul]
    omega
  · obtain ⟨h1, h3, h4⟩ := hdep d hd
    have e1 : sumK D L d = 2 ^ (D - d a) + (2 ^ (D - d b) + sumK D R d) := by
      unfold sumK
      rw [(hp.map _).sum_nat, List.map_cons, List.map_cons, List.sum_cons, List.sum_cons]
    have e2 : sumK D L' d = 2 ^ (D - d A.length) + sumK D R d := by
      unfold sumK
      rw [(hL'.map _).sum_nat, List.map_cons, List.sum_cons]
    have hDa := hD a
    rw [h.kraft d D h1 hD, e1, e2, h3, h4, show D - d A.length = (D - (d A.length + 1)) + 1 by omega, Nat.pow_succ]
    omega
  · have e1 : hbest (L.map (·.1)) = (wa + wb) + hbest (R.map (·.1) ++ [wa + wb]) := by
      rw [hbest_perm (hp.map _)]
      simp only [List.map_cons]
      exact hbest_step wa wb (R.map (·.1)) hab (fun x hx => by
        obtain ⟨y, hy, rfl⟩ := List.mem_map.1 hx
        exact hR y hy)
    have e2 : hbest (L'.map (·.1)) = hbest (R.map (·.1) ++ [wa + wb]) := by
      rw [hbest_perm (hL'.map _)]
      simp only [List.map_cons]
      exact hbest_perm (List.perm_append_singleton _ _).symm
    have := h.best
    omega
  · rw [hlen, Nat.add_sub_cancel, (hL'.map _).mem_iff]
    simp
  · have h1 := h.count
    have h3 := hp.length_eq
    have h4 := hL'.length_eq
    have := h.len
    simp only [List.length_cons] at h3 h4
    rw [hlen]
    omega
  · have h1 := h.total
    rw [(hp.map _).sum_nat] at h1
    rw [(hL'.map _).sum_nat, ← h1]
    simp only [List.map_cons, List.sum_cons]
    omega
  · rcases List.mem_cons.1 (hL'.mem_iff.1 ht) with rfl | ht
    · have := h.len
      simp only at hc
      omega
    · exact h.pos t (hp.mem_iff.2 (by simp [ht])) hc
/-- Lengths as Huffman's: above 0 just where the counts are, whole if within 11, of the least cost. -/
structure UnbN (cs ls : List Nat) : Prop where
  len : ls.length = cs.length
  just : ∀ i, i < cs.length → (0 < ls[i]?.getD 0 ↔ 0 < cs[i]?.getD 0)
  whole : (∀ x ∈ ls, x ≤ 11) → WholeN ls
  cost : costN cs ls = bestN cs
  most : ∀ x ∈ ls, x ≤ 512
theorem costN_lvs (cs ls : List Nat) : costN cs ls = ((lvs cs).map fun t => t.1 * nat1 ls t.2).sum := by
  unfold lvs
  rw [lvs_sum]
  unfold costN
  congr 1
  apply List.map_congr_left
  intro i _
  split
  · rfl
  · next h => rw [show cs[i]?.getD 0 = 0 by omega, Nat.zero_mul]
theorem krN_lvs (cs ls : List Nat) (hl : ls.length = cs.length) (hj : ∀ i, i < cs.length → (0 < ls[i]?.getD 0 ↔ 0 < cs[i]?.getD 0)) : krN ls = ((lvs cs).map fun t => 2 ^ (11 - nat1 ls t.2)).sum := by
  unfold lvs
  rw [lvs_sum, krN_range, hl]
  congr 1
  apply List.map_congr_left
  intro i hi
  have h1 := hj i (List.mem_range.1 hi)
  unfold partL nat1
  by_cases h : 0 < cs[i]?.getD 0
  · rw [if_pos h, if_neg (by omega)]
  · rw [if_neg h, if_pos (by omega)]
/-- What depths answers. -/
structure DepthN (A ls : List Nat) : Prop where
  len : ls.length = A.length
  none : ∀ i, i < A.length → nat1 A i = 0 → nat1 ls i = 0
  some : ∀ i, i < A.length → nat1 A i ≠ 0 → nat1 ls i = nat1 ls (nat1 A i) + 1
  most : ∀ i, i < A.length → nat1 ls i ≤ A.length - i
theorem join_end {cs A ls : List Nat} {t : Nat × Nat} {C : Nat} (h : JoinN cs A [t] C) (hd : DepthN A ls) (h2 : 2 ≤ (lvs cs).length) (h256 : cs.length ≤ 256) (hA : A.length ≤ 512) : UnbN cs (ls.take cs.length) := by
  have hcnt := h.count
  have hlen := h.len
  simp only [List.length_singleton] at hcnt
  have hlast := h.last (by omega)
  simp only [List.map_cons, List.map_nil, List.mem_singleton] at hlast
  have hfree := h.free t (by simp)
  have hok : DepOk A (nat1 ls) := fun i hi h0 => hd.some i hi h0
  have hdt : nat1 ls t.2 = 0 := hd.none t.2 hfree.1 hfree.2
  have hg : ∀ i, i < cs.length → (ls.take cs.length)[i]?.getD 0 = nat1 ls i := fun i hi => by rw [List.getElem?_take, if_pos hi]
  have hjust : ∀ i, i < cs.length → (0 < (ls.take cs.length)[i]?.getD 0 ↔ 0 < cs[i]?.getD 0) := fun i hi => by
    rw [hg i hi]
    constructor
    · intro h1
      rcases Nat.eq_zero_or_pos (cs[i]?.getD 0) with h0 | h0
      · have := hd.none i (by omega) (h.none i hi h0)
        omega
      · exact h0
    · intro h0
      rcases h.some i hi h0 with h1 | h1
      · have := hd.some i (by omega) h1
        omega
      · simp only [List.map_cons, List.map_nil, List.mem_singleton] at h1
        omega
  have htl : (ls.take cs.length).length = cs.length := by rw [List.length_take, hd.len]; omega
  have hmem : ∀ u ∈ lvs cs, u.2 < cs.length := fun u hu => ((lvsTo_mem cs _ u).1 hu).1
  refine ⟨htl, hjust, fun h11 => ⟨by omega, h11, .inl ?_⟩, ?_, ?_⟩
  · rw [krN_lvs cs _ htl hjust]
    obtain ⟨D, hD, hD11⟩ : ∃ D, (∀ i, nat1 ls i ≤ D) ∧ 11 ≤ D := ⟨512, fun i => by
      rcases Nat.lt_or_ge i A.length with hi | hi
      · have := hd.most i hi; omega
      · unfold nat1
        rw [List.getElem?_eq_none (by rw [hd.len]; exact hi)]
        exact Nat.zero_le _, by omega⟩
    have hk := h.kraft (nat1 ls) D hok hD
    have e1 : sumK D [t] (nat1 ls) = 2 ^ D := by simp [sumK, hdt]
    have e2 : sumK D (lvs cs) (nat1 ls) = 2 ^ (D - 11) * ((lvs cs).map fun u => 2 ^ (11 - nat1 (ls.take cs.length) u.2)).sum := by
      unfold sumK
      have : ∀ L : List (Nat × Nat), (∀ u ∈ L, u ∈ lvs cs) → (L.map fun u => 2 ^ (D - nat1 ls u.2)).sum = 2 ^ (D - 11) * (L.map fun u => 2 ^ (11 - nat1 (ls.take cs.length) u.2)).sum := fun L => by
        induction L with
        | nil => intro _; rfl
        | cons u L ih =>
          intro hL
          have hu := hmem u (hL u (by simp))
          have h5 : nat1 (ls.take cs.length) u.2 ≤ 11 := by
            unfold nat1
            rw [List.getElem?_eq_getElem (by omega), Option.getD_some]
            exact h11 _ (List.getElem_mem _)
          rw [List.map_cons, List.sum_cons, List.map_cons, List.sum_cons, ih (fun v hv => hL v (by simp [hv])), Nat.mul_add, ← Nat.pow_add]
          have e3 : nat1 (ls.take cs.length) u.2 = nat1 ls u.2 := hg u.2 hu
          rw [e3] at h5 ⊢
          rw [show D - 11 + (11 - nat1 ls u.2) = D - nat1 ls u.2 by omega]
      exact this _ (fun _ h => h)
    rw [e1, e2, show D = (D - 11) + 11 by omega, Nat.pow_add, Nat.add_sub_cancel] at hk
    have h2k : (2 : Nat) ^ 11 = 2048 := by decide
    rw [h2k] at hk
    exact Nat.eq_of_mul_eq_mul_left (Nat.two_pow_pos _) hk
  · rw [costN_lvs]
    have hc := h.cost (nat1 ls) hok
    have e1 : sumW [t] (nat1 ls) = 0 := by simp [sumW, hdt]
    have hb := h.best
    have hb0 : hbest ([t].map (·.1)) = 0 := hbest_few _ (by simp)
    have hne : (posC cs).length ≠ 1 := by rw [← lvs_fst, List.length_map]; omega
    unfold bestN
    rw [if_neg hne, ← hb, hb0, Nat.add_zero]
    rw [e1, Nat.zero_add] at hc
    rw [← hc]
    unfold sumW
    congr 1
    apply List.map_congr_left
    intro u hu
    rw [show nat1 (ls.take cs.length) u.2 = nat1 ls u.2 from hg u.2 (hmem u hu)]
  · intro x hx
    obtain ⟨i, hi, rfl⟩ := List.mem_iff_getElem.1 hx
    rw [htl] at hi
    have h5 := hd.most i (by omega)
    have h6 := hg i hi
    rw [List.getElem?_eq_getElem (by omega), Option.getD_some] at h6
    rw [h6]
    omega
/-- Of one symbol. -/
theorem unb_one {cs : List Nat} {c i : Nat} (h : lvs cs = [(c, i)]) (h256 : cs.length ≤ 256) : UnbN cs ((List.replicate cs.length 0).set i 1) := by
  have hm := (lvsTo_mem cs cs.length (c, i)).1 (show (c, i) ∈ lvs cs by rw [h]; simp)
  simp only at hm
  obtain ⟨hi, hc, h0⟩ := hm
  have hg : ∀ k, k < cs.length → ((List.replicate cs.length 0).set i 1)[k]?.getD 0 = if k = i then 1 else 0 := fun k hk => by
    rw [List.getElem?_set]
    by_cases e : i = k
    · subst e; rw [if_pos rfl, if_pos (by simpa using hk), if_pos rfl]; rfl
    · rw [if_neg e, if_neg (fun h => e h.symm)]; exact rep_zero _ _
  have hl : ((List.replicate cs.length 0).set i 1).length = cs.length := by simp
  have hj : ∀ k, k < cs.length → (0 < ((List.replicate cs.length 0).set i 1)[k]?.getD 0 ↔ 0 < cs[k]?.getD 0) := fun k hk => by
    rw [hg k hk]
    by_cases e : k = i
    · subst e; rw [if_pos rfl]; omega
    · rw [if_neg e]
      constructor
      · intro h; omega
      · intro h1
        have : (cs[k]?.getD 0, k) ∈ lvs cs := (lvsTo_mem cs _ _).2 ⟨hk, rfl, h1⟩
        rw [h] at this
        simp at this
        omega
  have hms : ∀ x ∈ (List.replicate cs.length 0).set i 1, x ≤ 1 := fun x hx => by
    obtain ⟨k, hk, rfl⟩ := List.mem_iff_getElem.1 hx
    have h1 := hg k (by omega)
    rw [List.getElem?_eq_getElem (by omega), Option.getD_some] at h1
    rw [h1]
    split <;> omega
  have hn1 : nat1 ((List.replicate cs.length 0).set i 1) i = 1 := by rw [nat1, hg i hi, if_pos rfl]
  have hkr : krN ((List.replicate cs.length 0).set i 1) = 1024 := by
    rw [krN_lvs cs _ hl hj, h]
    simp [hn1]
  refine ⟨hl, hj, fun h11 => ⟨by omega, h11, .inr ⟨?_, hkr⟩⟩, ?_, fun x hx => by have := hms x hx; omega⟩
  · unfold someN
    have : ∀ (n k : Nat), k < n → ((List.replicate n 0).set k 1).countP (fun n => decide (0 < n)) = 1 := fun n => by
      induction n with
      | zero => intro k hk; omega
      | succ n ih =>
        intro k hk
        rw [List.replicate_succ]
        cases k with
        | zero => simp [List.countP_replicate]
        | succ k =>
          rw [List.set_cons_succ, List.countP_cons, ih k (by omega)]
          simp
    exact this _ _ hi
  · rw [costN_lvs, h]
    have hp : posC cs = [c] := by rw [← lvs_fst, h]; rfl
    unfold bestN
    rw [hp]
    simp [hn1]
end Go.Proofs.YtgcfdjgfnagmjaaGreat.Bm
