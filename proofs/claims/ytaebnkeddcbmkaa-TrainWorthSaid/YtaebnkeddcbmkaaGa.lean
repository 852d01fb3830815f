/-
  The program's layer 19 (train): elements of three cells in memory (a piece: its text, its worth, its order); the heap's own methods Len, Less, Swap, by their walks. Conditions: as each theorem's premises say.
-/
import Derived.Test.YtaebnkeddcbmkaaGw
import Derived.Test.YtaebnkeddcbmkaaIn
import Derived.Deep.AppendLies
import Derived.Deep.DeepCutAuto
import Derived.Deep.RegionHeld3
import Derived.RegionTactic
import Derived.Deep.RegionLaw
import Derived.Deep.DrawnRows
import Derived.Shelf.RegionOpenPlain
import Derived.OneCell
namespace Go.Proofs.Ytaebnkeddcbmkaa
open Go.RowKit
/-- The cells of elements of three cells each. -/
def cc3 {α : Type} (f h k : α → Value) : List α → List Value
  | [] => []
  | x :: l => f x :: h x :: k x :: cc3 f h k l
section
variable {α : Type} {f h k : α → Value}
theorem cc3_length (l : List α) : (cc3 f h k l).length = l.length * 3 := by
  induction l with
  | nil => rfl
  | cons x l ih => rw [cc3, List.length_cons, List.length_cons, List.length_cons, ih, List.length_cons]; omega
theorem cc3_append (l m : List α) : cc3 f h k (l ++ m) = cc3 f h k l ++ cc3 f h k m := by
  induction l with
  | nil => rfl
  | cons x l ih => rw [List.cons_append, cc3, ih, cc3]; rfl
theorem cc3_get (l : List α) (i : Nat) (hi : i < l.length) : (cc3 f h k l)[i * 3]? = some (f l[i]) ∧ (cc3 f h k l)[i * 3 + 1]? = some (h l[i]) ∧ (cc3 f h k l)[i * 3 + 2]? = some (k l[i]) := by
  induction l generalizing i with
  | nil => simp at hi
  | cons x l ih =>
    cases i with
    | zero => exact ⟨rfl, rfl, rfl⟩
    | succ i =>
      have h1 := ih i (by simpa using hi)
      rw [cc3, show (i + 1) * 3 = i * 3 + 1 + 1 + 1 by omega]
      exact h1
theorem cc3_set (l : List α) (i : Nat) (x : α) (hi : i < l.length) : (((cc3 f h k l).set (i * 3) (f x)).set (i * 3 + 1) (h x)).set (i * 3 + 2) (k x) = cc3 f h k (l.set i x) := by
  induction l generalizing i with
  | nil => simp at hi
  | cons y l ih =>
    cases i with
    | zero => rfl
    | succ i =>
      have h1 := ih i (by simpa using hi)
      rw [cc3, show (i + 1) * 3 = i * 3 + 1 + 1 + 1 by omega]
      simp only [List.set_cons_succ]
      rw [h1]
      rfl
theorem cc3_take (l : List α) (n : Nat) : cc3 f h k (l.take n) = (cc3 f h k l).take (n * 3) := by
  induction l generalizing n with
  | nil => simp [cc3]
  | cons x l ih =>
    cases n with
    | zero => simp [cc3]
    | succ n =>
      rw [List.take_succ_cons, cc3, ih, cc3, show (n + 1) * 3 = n * 3 + 1 + 1 + 1 by omega, List.take_succ_cons, List.take_succ_cons, List.take_succ_cons]
end
/-- Two elements changed round. -/
def swq {α : Type} (d : α) (l : List α) (i j : Nat) : List α := (l.set i (l[j]?.getD d)).set j (l[i]?.getD d)
theorem swq_length {α : Type} (d : α) (l : List α) (i j : Nat) : (swq d l i j).length = l.length := by simp [swq]
section
variable {α : Type} {f h k : α → Value} {w w' : World} {g : Nat} {t : TypeId} {post : List Value}
theorem row3_cell {l : List α} (hr : Row w g t (cc3 f h k l ++ post)) (i : Nat) (hi : i < l.length) : w.cell? ⟨g, i * 3, none⟩ = some (f l[i]) ∧ w.cell? ⟨g, i * 3 + 1, none⟩ = some (h l[i]) ∧ w.cell? ⟨g, i * 3 + 2, none⟩ = some (k l[i]) := by
  obtain ⟨h1, h2, h3⟩ := cc3_get (f := f) (h := h) (k := k) l i hi
  have hl := cc3_length (f := f) (h := h) (k := k) l
  rw [hr.cell, hr.cell, hr.cell, List.getElem?_append_left (by omega), List.getElem?_append_left (by omega), List.getElem?_append_left (by omega)]
  exact ⟨h1, h2, h3⟩
theorem row3_set {l : List α} (hr : Row w g t (cc3 f h k l ++ post)) (i : Nat) (hi : i < l.length) (x : α) : Row (((w.setCell ⟨g, i * 3, none⟩ (f x)).setCell ⟨g, i * 3 + 1, none⟩ (h x)).setCell ⟨g, i * 3 + 2, none⟩ (k x)) g t (cc3 f h k (l.set i x) ++ post) := by
  have hl := cc3_length (f := f) (h := h) (k := k) l
  have h1 := ((hr.set_ (i * 3) (f x)).set_ (i * 3 + 1) (h x)).set_ (i * 3 + 2) (k x)
  rw [List.set_append_left _ _ (by omega), List.set_append_left _ _ (by rw [List.length_set]; omega), List.set_append_left _ _ (by rw [List.length_set, List.length_set]; omega), cc3_set l i x hi] at h1
  exact h1
theorem row3_swq {l : List α} {d : α} (hr : Row w g t (cc3 f h k l ++ post)) (i j : Nat) (hi : i < l.length) (hj : j < l.length) :
    Row ((((((w.setCell ⟨g, i * 3, none⟩ (f l[j])).setCell ⟨g, i * 3 + 1, none⟩ (h l[j])).setCell ⟨g, i * 3 + 2, none⟩ (k l[j])).setCell ⟨g, j * 3, none⟩ (f l[i])).setCell ⟨g, j * 3 + 1, none⟩ (h l[i])).setCell ⟨g, j * 3 + 2, none⟩ (k l[i])) g t (cc3 f h k (swq d l i j) ++ post) := by
  have h1 := row3_set (row3_set hr i hi l[j]) j (by simpa using hj) l[i]
  unfold swq
  rw [List.getElem?_eq_getElem hi, List.getElem?_eq_getElem hj]
  exact h1
theorem grown_six (w : World) (g a b c d e i : Nat) (u v x y z s : Value) : w.grownBy ((((((w.setCell ⟨g, a, none⟩ u).setCell ⟨g, b, none⟩ v).setCell ⟨g, c, none⟩ x).setCell ⟨g, d, none⟩ y).setCell ⟨g, e, none⟩ z).setCell ⟨g, i, none⟩ s) (some g) :=
  grown_set (grown_set (grown_set (grown_set (grown_set (grown_set (grown_refl w (some g)) _ _) _ _) _ _) _ _) _ _) _ _
end
theorem row_drw {w : World} {g : Nat} {t : TypeId} {cs : List Value} (h : Row w g t cs) : Row w.drew g t cs := h
/-- A piece: its text, its worth, its order. -/
abbrev Pce := ByteArray × Nat × Nat
def pce0 : Pce := (⟨#[]⟩, 0, 0)
def pcT (t : Pce) : Value := .string t.1
def pcW (t : Pce) : Value := .int .i64 (t.2.1 : Int)
def pcO (t : Pce) : Value := .int .i64 (t.2.2 : Int)
def p3 (l : List Pce) : List Value := cc3 pcT pcW pcO l
namespace Bm
/-- Is a piece worth more, or as much and ahead? -/
def lt3 (a b : Pce) : Prop := b.2.1 < a.2.1 ∨ (a.2.1 = b.2.1 ∧ a.2.2 < b.2.2)
instance (a b : Pce) : Decidable (lt3 a b) := by unfold lt3; exact inferInstance
end Bm
theorem pclen_any (A : Option Addr) (n c : Nat) (w : World) : Calls Try.prog 29 #[.slice A n c] w fun e w' => e = .returned (.int .i64 (n : Int)) ∧ w = w' := by
  go_enter Try.func29, Try.ntmps29
  go_wp2
  go_ret
  exact ⟨rfl, rfl⟩
set_option maxHeartbeats 1000000 in
set_option maxRecDepth 100000 in
theorem pcless_any (g n c i j : Nat) (x y : Pce) (w : World) (hi : i < n) (hj : j < n) (h0 : w.cell? ⟨g, i * 3 + 1, none⟩ = some (pcW x) ∧ w.cell? ⟨g, i * 3 + 2, none⟩ = some (pcO x)) (h1 : w.cell? ⟨g, j * 3 + 1, none⟩ = some (pcW y) ∧ w.cell? ⟨g, j * 3 + 2, none⟩ = some (pcO y)) :
    Calls Try.prog 66 #[.slice (some ⟨g, 0, none⟩) n c, .int .i64 (i : Int), .int .i64 (j : Int)] w fun e w' => e = .returned (.bool (decide (Bm.lt3 x y))) ∧ Below w.heap.size w w' := by
  obtain ⟨tx, a, p⟩ := x
  obtain ⟨ty, b, q⟩ := y
  obtain ⟨c0, c1⟩ := h0
  obtain ⟨k0, k1⟩ := h1
  simp only [pcW, pcO] at c0 c1 k0 k1
  obtain ⟨r, hr⟩ : ∃ r, r = decide (Bm.lt3 (tx, a, p) (ty, b, q)) := ⟨_, rfl⟩
  rw [← hr]
  have Hr := Lib.hid hr
  clear hr
  by_cases hab : a = b
  · subst hab
    have hd0 : ((a : Int) == (a : Int)) = true := by simp
    have Hf : Hid (decide (p < q) = r) := Lib.hid (by rw [Hr.out, decide_eq_decide]; unfold Bm.lt3; simp)
    go_enter Try.func66, Try.ntmps66
    go_wp2_with fail
    go_quiet (fail)
    go_wp2_with fail
    go_quiet (fail)
    go_wp2
    go_ret
    exact ⟨congrArg (fun x => Ending.returned (Value.bool x)) Hf.out, below_drewN (below_drewN (Below.refl _ _) _) _⟩
  · have hd0 : ((a : Int) == (b : Int)) = false := by simp; omega
    have Hf : Hid (decide (b < a) = r) := Lib.hid (by rw [Hr.out, decide_eq_decide]; unfold Bm.lt3; simp; omega)
    go_enter Try.func66, Try.ntmps66
    go_wp2_with fail
    go_quiet (fail)
    go_wp2_with fail
    go_quiet (fail)
    go_wp2
    go_ret
    exact ⟨congrArg (fun x => Ending.returned (Value.bool x)) Hf.out, below_drewN (below_drewN (Below.refl _ _) _) _⟩
set_option maxHeartbeats 4000000 in
set_option maxRecDepth 100000 in
theorem pcswap_any (g c i j : Nat) (L : List Pce) (post : List Value) (w : World) (hi : i < L.length) (hj : j < L.length) (hr : Row w g 39 (p3 L ++ post)) :
    Calls Try.prog 69 #[.slice (some ⟨g, 0, none⟩) L.length c, .int .i64 (i : Int), .int .i64 (j : Int)] w fun e w' => e = .returned (.tuple #[]) ∧ Row w' g 39 (p3 (swq pce0 L i j) ++ post) ∧ w.grownBy w' (some g) := by
  obtain ⟨c0, c1, c2⟩ := row3_cell (f := pcT) (h := pcW) (k := pcO) hr i hi
  obtain ⟨k0, k1, k2⟩ := row3_cell (f := pcT) (h := pcW) (k := pcO) hr j hj
  have f0 := hr.free (i * 3)
  have f1 := hr.free (i * 3 + 1)
  have f2 := hr.free (i * 3 + 2)
  have f3 := hr.free (j * 3)
  have f4 := hr.free (j * 3 + 1)
  have f5 := hr.free (j * 3 + 2)
  have hs := row3_swq (f := pcT) (h := pcW) (k := pcO) (d := pce0) hr i j hi hj
  rw [show cc3 pcT pcW pcO (swq pce0 L i j) = p3 (swq pce0 L i j) from rfl] at hs
  have Hs := Lib.hid hs
  clear hs hr
  generalize p3 (swq pce0 L i j) = L2 at *
  simp only [pcT, pcW, pcO] at c0 c1 c2 k0 k1 k2 Hs
  generalize L[i].1 = s at *
  generalize L[i].2.1 = a at *
  generalize L[i].2.2 = p at *
  generalize L[j].1 = t at *
  generalize L[j].2.1 = b at *
  generalize L[j].2.2 = q at *
  obtain ⟨v1, hy1⟩ := cell?_setCell_some (w := w) (p := ⟨g, i * 3, none⟩) (x := .string t) (q := ⟨g, j * 3, none⟩) k0
  obtain ⟨v2, hy2⟩ := cell?_setCell_some (w := w) (p := ⟨g, i * 3, none⟩) (x := .string t) (q := ⟨g, j * 3 + 1, none⟩) k1
  obtain ⟨v3, hy3⟩ := cell?_setCell_some (w := w) (p := ⟨g, i * 3, none⟩) (x := .string t) (q := ⟨g, j * 3 + 2, none⟩) k2
  obtain ⟨v5, hy5⟩ := cell?_setCell_some (w := w.setCell ⟨g, i * 3, none⟩ (.string t)) (p := ⟨g, i * 3 + 1, none⟩) (x := .int .i64 (b : Int)) (q := ⟨g, j * 3 + 1, none⟩) hy2
  obtain ⟨v6, hy6⟩ := cell?_setCell_some (w := w.setCell ⟨g, i * 3, none⟩ (.string t)) (p := ⟨g, i * 3 + 1, none⟩) (x := .int .i64 (b : Int)) (q := ⟨g, j * 3 + 2, none⟩) hy3
  obtain ⟨v9, hy9⟩ := cell?_setCell_some (w := (w.setCell ⟨g, i * 3, none⟩ (.string t)).setCell ⟨g, i * 3 + 1, none⟩ (.int .i64 (b : Int))) (p := ⟨g, i * 3 + 2, none⟩) (x := .int .i64 (q : Int)) (q := ⟨g, j * 3 + 2, none⟩) hy6
  clear hy2 hy3 hy6
  go_enter Try.func69, Try.ntmps69
  go_wp2_with fail
  go_region
  all_goals go_end0
  all_goals exact ⟨rfl, row_drw Hs.out, grown_drew (grown_six _ _ _ _ _ _ _ _ _ _ _ _ _ _)⟩
theorem pq_load (name : String) (i f : Nat) (p n c : Nat) (A : Option Addr) (w : World) (h : w.cell? ⟨p, 0, none⟩ = some (.slice A n c))
    (h1 : ∀ w, (typeInfo 36).run Try.prog w = .ok Try.prog.types[36]! w)
    (h2 : (Try.prog.types[36]!).methods.find? (fun m => m.name == name) = some ((Try.prog.types[36]!).methods[i]!))
    (hp : ((Try.prog.types[36]!).methods[i]!).path = #[]) (hf : ((Try.prog.types[36]!).methods[i]!).func = some (f, false))
    (hs : ∀ s w, (Builtin.ssaWrapNilChk_ #[36] 36 #[.pointer (some ⟨p, 0, none⟩), strVal "", strVal s]).run Try.prog w = .ok (.pointer (some ⟨p, 0, none⟩)) w) :
    (method 195 36 (.pointer (some ⟨p, 0, none⟩)) name).run Try.prog w = .ok (f, .slice A n c) w := by
  rw [method]
  simp only [Sem.run_bind, h1, Result.andThen_ok, h2, hp, hf, follow, receiverAt, underlying, Sem.run_pure, Place.get]
  simp [loadVar, isAgg, underlying, Try.underlying49, Try.underlying36, h, Result.andThen, hs, asAddr]
theorem pq_type : ∀ w, (typeInfo 36).run Try.prog w = .ok Try.prog.types[36]! w := fun _ => by kernel_rfl
theorem pq_len (p n c : Nat) (A : Option Addr) (w : World) (h : w.cell? ⟨p, 0, none⟩ = some (.slice A n c)) : (method 195 36 (.pointer (some ⟨p, 0, none⟩)) "Len").run Try.prog w = .ok (29, .slice A n c) w :=
  pq_load "Len" 0 29 p n c A w h pq_type (by kernel_rfl) (by kernel_rfl) (by kernel_rfl) (fun _ _ => by kernel_rfl)
theorem pq_less (p n c : Nat) (A : Option Addr) (w : World) (h : w.cell? ⟨p, 0, none⟩ = some (.slice A n c)) : (method 195 36 (.pointer (some ⟨p, 0, none⟩)) "Less").run Try.prog w = .ok (66, .slice A n c) w :=
  pq_load "Less" 1 66 p n c A w h pq_type (by kernel_rfl) (by kernel_rfl) (by kernel_rfl) (fun _ _ => by kernel_rfl)
theorem pq_swap (p n c : Nat) (A : Option Addr) (w : World) (h : w.cell? ⟨p, 0, none⟩ = some (.slice A n c)) : (method 195 36 (.pointer (some ⟨p, 0, none⟩)) "Swap").run Try.prog w = .ok (69, .slice A n c) w :=
  pq_load "Swap" 4 69 p n c A w h pq_type (by kernel_rfl) (by kernel_rfl) (by kernel_rfl) (fun _ _ => by kernel_rfl)
theorem pq_push (p : Nat) (w : World) : (method 195 36 (.pointer (some ⟨p, 0, none⟩)) "Push").run Try.prog w = .ok (68, .pointer (some ⟨p, 0, none⟩)) w := by kernel_rfl
theorem pq_pop (p : Nat) (w : World) : (method 195 36 (.pointer (some ⟨p, 0, none⟩)) "Pop").run Try.prog w = .ok (67, .pointer (some ⟨p, 0, none⟩)) w := by kernel_rfl
/-- A heap of pieces in memory: its variable, its pieces, with room for cap. -/
structure PilQ (w : World) (base p g cap : Nat) (L : List Pce) : Prop where
  lowp : base ≤ p
  lowg : base ≤ g
  fits : L.length ≤ cap
  most : cap ≤ maxLen
  var : Row w p 49 [.slice (some ⟨g, 0, none⟩) L.length cap]
  row : ∃ post, post.length + L.length * 3 = cap * 3 ∧ Row w g 39 (p3 L ++ post)
/-- Blocks from base on may have changed, of those only heaps and pieces. -/
structure KeptQ (base : Nat) (w w' : World) : Prop where
  bel : Below base w w'
  blk : ∀ b, b < w.heap.size → (∀ (t : TypeId) (cs : List Value), (t = 49 ∨ t = 39) → ¬ Row w b t cs) → w'.heap[b]? = w.heap[b]?
section
variable {w w' w'' : World} {base p g cap : Nat} {L : List Pce}
theorem KeptQ.refl (base : Nat) (w : World) : KeptQ base w w := ⟨Below.refl _ _, fun _ _ _ => rfl⟩
theorem KeptQ.trans (h : KeptQ base w w') (h' : KeptQ base w' w'') : KeptQ base w w'' :=
  ⟨h.bel.trans h'.bel, fun b h1 h2 => by
    have h3 := h.blk b h1 h2
    refine (h'.blk b (Nat.lt_of_lt_of_le h1 h.bel.size) (fun t cs ht hr => h2 t cs ht ?_)).trans h3
    unfold Row at hr ⊢
    rw [← h3]
    exact hr⟩
theorem KeptQ.below (h : Below w.heap.size w w') (hb : base ≤ w.heap.size) : KeptQ base w w' := ⟨h.mono hb, fun b h1 _ => h.block b h1⟩
theorem KeptQ.row (h : KeptQ base w w') {b : Nat} {t : TypeId} {cs : List Value} (h1 : t ≠ 49) (h2 : t ≠ 39) (hr : Row w b t cs) : Row w' b t cs := hr.keep (h.blk b hr.lt (fun t' cs' ht hr' => by
  unfold Row at hr hr'
  rw [hr] at hr'
  injection hr' with hr'
  injection hr' with _ e
  rcases ht with e1 | e1
  · exact h1 (e.trans e1)
  · exact h2 (e.trans e1)))
theorem KeptQ.grown {t : TypeId} {cs : List Value} {b : Nat} (h : w.grownBy w' (some b)) (hr : Row w b t cs) (ht : t = 49 ∨ t = 39) (hb : base ≤ b) : KeptQ base w w' :=
  ⟨below_grown h hb (Nat.le_trans hb (Nat.le_of_lt hr.lt)), fun b' h1 h2 => h.block b' h1 (fun e => by
    injection e with e
    subst e
    exact h2 t cs ht hr)⟩
/-- Of the old blocks from base on only the heap's two may have changed. -/
structure KeptW (base p g : Nat) (w w' : World) : Prop where
  bel : Below base w w'
  blk : ∀ b, b < w.heap.size → b ≠ p → b ≠ g → w'.heap[b]? = w.heap[b]?
theorem KeptW.refl (base p g : Nat) (w : World) : KeptW base p g w w := ⟨Below.refl _ _, fun _ _ _ _ => rfl⟩
theorem KeptW.trans (h : KeptW base p g w w') (h' : KeptW base p g w' w'') : KeptW base p g w w'' :=
  ⟨h.bel.trans h'.bel, fun b h1 h2 h3 => (h'.blk b (Nat.lt_of_lt_of_le h1 h.bel.size) h2 h3).trans (h.blk b h1 h2 h3)⟩
theorem KeptW.below (h : Below w.heap.size w w') (hb : base ≤ w.heap.size) : KeptW base p g w w' := ⟨h.mono hb, fun b hb _ _ => h.block b hb⟩
theorem KeptW.grown {b : Nat} (h : w.grownBy w' (some b)) (hlt : b < w.heap.size) (ht : b = p ∨ b = g) (hb : base ≤ b) : KeptW base p g w w' :=
  ⟨below_grown h hb (Nat.le_trans hb (Nat.le_of_lt hlt)), fun b' h1 h2 h3 => h.block b' h1 (fun e => by
    injection e with e
    rcases ht with h | h
    · exact h2 (e.trans h)
    · exact h3 (e.trans h))⟩
theorem KeptW.kept (h : KeptW base p g w w') (hp : PilQ w base p g cap L) : KeptQ base w w' := by
  refine ⟨h.bel, fun b h1 h2 => h.blk b h1 ?_ ?_⟩
  · rintro rfl
    exact h2 _ _ (.inl rfl) hp.var
  · rintro rfl
    obtain ⟨_, _, hv⟩ := hp.row
    exact h2 _ _ (.inr rfl) hv
theorem PilQ.ne (h : PilQ w base p g cap L) : p ≠ g := by
  obtain ⟨post, _, hr⟩ := h.row
  rintro rfl
  have hv := h.var
  unfold Row at hr hv
  rw [hr] at hv
  injection hv with hv
  injection hv with _ e
  exact absurd e (by decide)
theorem PilQ.below (h : PilQ w base p g cap L) (hb : Below w.heap.size w w') : PilQ w' base p g cap L := by
  obtain ⟨post, h1, hr⟩ := h.row
  exact ⟨h.lowp, h.lowg, h.fits, h.most, row_below h.var hb, post, h1, row_below hr hb⟩
theorem PilQ.same {L' : List Pce} (h : PilQ w base p g cap L) (hl : L'.length = L.length) (hg : w.grownBy w' (some g)) {post : List Value} (hp : post.length + L.length * 3 = cap * 3) (hr : Row w' g 39 (p3 L' ++ post)) : PilQ w' base p g cap L' :=
  ⟨h.lowp, h.lowg, by rw [hl]; exact h.fits, h.most, by rw [hl]; exact h.var.keep (hg.block p h.var.lt (fun e => by injection e with e; exact h.ne e)), post, by rw [hl]; exact hp, hr⟩
theorem PilQ.cell (h : PilQ w base p g cap L) : w.cell? ⟨p, 0, none⟩ = some (.slice (some ⟨g, 0, none⟩) L.length cap) := h.var.cell 0
theorem PilQ.own (h : PilQ w base p g cap L) : w.ownsRow base 39 3 (.slice (some ⟨g, 0, none⟩) L.length cap) L.length (p3 L) := by
  obtain ⟨post, h1, hr⟩ := h.row
  have hl := cc3_length (f := pcT) (h := pcW) (k := pcO) L
  refine ⟨hl, .inr ⟨g, cap, (p3 L ++ post).toArray, rfl, h.lowg, hr, h.fits, h.most, ?_, ?_⟩⟩
  · rw [List.size_toArray, List.length_append]
    unfold p3
    omega
  · rw [List.toList_toArray, List.take_left' (by exact hl)]
theorem pilq_of_own (hp : Row w p 49 [.slice (some ⟨g, 0, none⟩) L.length cap]) (hb : base ≤ p) (h : w.ownsRow base 39 3 (.slice (some ⟨g, 0, none⟩) L.length cap) L.length (p3 L)) : PilQ w base p g cap L := by
  have hl := cc3_length (f := pcT) (h := pcW) (k := pcO) L
  rcases h.2 with ⟨h1, _⟩ | ⟨g', cap', cur, e, hb2, hg, hnc, hcm, hcs, ht⟩
  · cases h1
  · injection e with e1 _ e3
    injection e1 with e1
    injection e1 with e1
    subst e1 e3
    refine ⟨hb, hb2, hnc, hcm, hp, cur.toList.drop (L.length * 3), ?_, ?_⟩
    · have hcl : cur.toList.length = cur.size := Array.length_toList
      rw [List.length_drop]
      omega
    · unfold Row
      rw [← ht, List.take_append_drop, Array.toArray_toList]
      exact hg
end
end Go.Proofs.Ytaebnkeddcbmkaa
