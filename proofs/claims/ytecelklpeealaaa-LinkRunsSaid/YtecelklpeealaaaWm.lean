/-
  The reference of layer 23 (link), by its walks: its Link in memory; New, Set. Conditions: as each theorem's premises say.
-/
import Derived.Test.YtecelklpeealaaaWh
namespace Go.Proofs.Ytecelklpeealaaa
open Go.RowKit

/-- The reference's Link's cells. -/
def rlC (p1 p2 : Nat) (up : Bool) (g : Nat) : List Value := [.pointer (some ⟨p1, 0, none⟩), .pointer (some ⟨p2, 0, none⟩), .bool up, .int .i64 (g : Int)]
set_option maxHeartbeats 400000 in
set_option maxRecDepth 100000 in
theorem rlnew_any (n : Int) (w : World) :
    Calls Try.prog 8 #[.int .i64 n] w fun e w' => ∃ p1 p2 c, e = .returned (.pointer (some ⟨c, 0, none⟩)) ∧ Row w' c 34 (rlC p1 p2 false 0) ∧ Row w' p1 40 (rpZ (Bm.mostN n)) ∧ Row w' p2 40 (rpZ (Bm.mostN n)) ∧
      w.heap.size ≤ p1 ∧ p1 < p2 ∧ p2 < c ∧ c < w'.heap.size ∧ Below w.heap.size w w' := by
  have H1 := Lib.hid (fun W => rpnew_any n W)
  go_enter Try.func8, Try.ntmps8
  go_wp2_with fail
  refine (H1.out _).mono ?_
  rintro e w1 ⟨rfl, hr1, hb1⟩
  have HR1 := Lib.hid hr1
  have HB1 := Lib.hid hb1
  clear hr1 hb1
  go_wp2_with fail
  refine (H1.out _).mono ?_
  rintro e w2 ⟨rfl, hr2, hb2⟩
  have HR2 := Lib.hid hr2
  have HR12 := Lib.hid (HR1.out.keep (hb2.block _ HR1.out.lt))
  have HB2 := Lib.hid (HB1.out.trans (hb2.mono HB1.out.size))
  have Hlt := Lib.hid (show w.heap.size < w1.heap.size from HR1.out.lt)
  have Hlt2 := Lib.hid (show w1.heap.size < w2.heap.size from HR2.out.lt)
  clear hr2 hb2 H1
  go_wp2
  go_ret
  exact ⟨w.heap.size, w1.heap.size, w2.heap.size, rfl, Row.new w2 34 (rlC w.heap.size w1.heap.size false 0), HR12.out.alloc _, HR2.out.alloc _, Nat.le_refl _, Hlt.out, Hlt2.out, by simp, HB2.out.alloc HB2.out.size _⟩
set_option maxHeartbeats 400000 in
set_option maxRecDepth 100000 in
theorem rlset_no (c p1 p2 g : Nat) (up : Bool) (w : World) (hr : Row w c 34 (rlC p1 p2 up g)) :
    Calls Try.prog 11 #[.pointer (some ⟨c, 0, none⟩), .bool up] w fun e w' => e = .returned (.bool false) ∧ w = w' := by
  have c2 := hr.cell 2
  simp only [rlC, List.getElem?_cons_zero, List.getElem?_cons_succ] at c2
  clear hr
  cases up <;> (go_enter Try.func11, Try.ntmps11; go_wp2; go_ret; exact ⟨rfl, rfl⟩)
/-- What Set leaves: of the blocks that there were, only these three have changed. -/
structure Kept3 (c p1 p2 : Nat) (w w' : World) : Prop where
  os : w'.os = w.os
  tape : w'.tape = w.tape
  output : w'.output = w.output
  size : w.heap.size ≤ w'.heap.size
  block : ∀ k, k < w.heap.size → k ≠ c → k ≠ p1 → k ≠ p2 → w'.heap[k]? = w.heap[k]?
theorem Kept3.of3 {c p1 p2 : Nat} {w w1 w2 w3 : World} (h1 : w.grownBy w1 (some p1)) (h2 : w1.grownBy w2 (some p2)) (h3 : w2.grownBy w3 (some c)) : Kept3 c p1 p2 w w3 :=
  ⟨h3.os.trans (h2.os.trans h1.os), h3.tape.trans (h2.tape.trans h1.tape), h3.output.trans (h2.output.trans h1.output), Nat.le_trans h1.size (Nat.le_trans h2.size h3.size), fun k hk g1 g2 g3 => by
    have s1 := h1.size
    have s2 := h2.size
    exact (h3.block k (by omega) (fun e => by injection e with e; exact g1 e)).trans ((h2.block k (by omega) (fun e => by injection e with e; exact g3 e)).trans (h1.block k hk (fun e => by injection e with e; exact g2 e)))⟩
theorem Kept3.below {c p1 p2 : Nat} {w w' : World} (h : Kept3 c p1 p2 w w') {B : Nat} (h0 : B ≤ w.heap.size) (h1 : B ≤ c) (h2 : B ≤ p1) (h3 : B ≤ p2) : Below B w w' :=
  ⟨h.os, h.tape, h.output, h.size, fun k hk => h.block k (by omega) (by omega) (by omega) (by omega)⟩
set_option maxHeartbeats 400000 in
set_option maxRecDepth 100000 in
theorem rlset_yes (c p1 p2 base g m : Nat) (q1 q2 : Option Nat) (B0 : Nat) (S1 : List Nat) (a1 : Nat) (K1 : List Int) (S2 : List Nat) (a2 : Nat) (K2 : List Int) (up u : Bool) (w : World) (hu : up ≠ u) (hg : g < 1000000000000) (h12 : p1 < p2) (h2c : p2 < c)
    (hr : Row w c 34 (rlC p1 p2 up g)) (hr1 : RPi w p1 base q1 B0 m S1 a1 K1) (hr2 : RPi w p2 base q2 B0 m S2 a2 K2) :
    Calls Try.prog 11 #[.pointer (some ⟨c, 0, none⟩), .bool u] w fun e w' => e = .returned (.bool true) ∧ Row w' c 34 (rlC p1 p2 u (if u = true then g + 1 else g)) ∧
      Row w' p1 40 (rpZ m) ∧ Row w' p2 40 (rpZ m) ∧ Kept3 c p1 p2 w w' := by
  have H1 := Lib.hid (rpclear_any p1 base q1 B0 m S1 a1 K1 w hr1)
  have H2 := Lib.hid (fun (w1 : World) (hg : w.grownBy w1 (some p1)) => rpclear_any p2 base q2 B0 m S2 a2 K2 w1 (by
    obtain ⟨v, g1, g2, g3, g4, g5, g6⟩ := hr2
    refine ⟨v, g1.keep (hg.block p2 g1.lt (fun e => by injection e with e; omega)), g2.keep fun k hk => ?_, g3, Nat.le_trans g4 hg.size, Nat.le_trans g5 hg.size, g6⟩
    obtain ⟨h7, cs, fz, h8⟩ := g2.ownT k hk
    refine hg.block k ?_ (fun e => by injection e with e; have := hr1.lt; omega)
    rcases Nat.lt_or_ge k w.heap.size with h9 | h9
    · exact h9
    · rw [Array.getElem?_eq_none h9] at h8; cases h8))
  have hs : (g : Int) + 1 = ((g + 1 : Nat) : Int) := by omega
  have hb : g + 1 ≤ 1000000000000 := by omega
  have c0 := hr.cell 0
  have c2 := hr.cell 2
  simp only [rlC, List.getElem?_cons_zero, List.getElem?_cons_succ] at c0 c2
  have Hrow := Lib.hid hr
  have Hord := Lib.hid (And.intro h12 h2c)
  clear hr hr1 hr2 hg
  generalize hg1 : g + 1 = g1 at *
  cases u with
  | true =>
    obtain rfl : up = false := by cases up with | true => exact absurd rfl hu | false => rfl
    rw [if_pos rfl]
    go_enter Try.func11, Try.ntmps11
    go_wp2_with fail
    refine H1.out.mono ?_
    rintro e w1 ⟨rfl, hr3, hgr⟩
    have HB := Lib.hid (H2.out w1 hgr)
    have Hrow1 := Lib.hid (Hrow.out.keep (hgr.block c Hrow.out.lt (fun e => by injection e with e; have := Hord.out; omega)))
    have c1 := Hrow1.out.cell 1
    simp only [rlC, List.getElem?_cons_zero, List.getElem?_cons_succ] at c1
    have Hr3 := Lib.hid hr3
    have Hgr := Lib.hid hgr
    clear hr3 hgr H1 H2 c0 c2
    go_wp2_with fail
    refine HB.out.mono ?_
    rintro e w2 ⟨rfl, hr4, hgr2⟩
    have Hrow2 := Lib.hid (Hrow1.out.keep (hgr2.block c Hrow1.out.lt (fun e => by injection e with e; have := Hord.out; omega)))
    have Hr5 := Lib.hid (Hr3.out.keep (hgr2.block p1 Hr3.out.lt (fun e => by injection e with e; have := Hord.out; omega)))
    have Hr4 := Lib.hid hr4
    have Hgr2 := Lib.hid hgr2
    have c2 := Hrow2.out.cell 2
    have f2 := Hrow2.out.free 2
    have c3 := (Hrow2.out.set_ 2 (.bool true)).cell 3
    have f3 := (Hrow2.out.set_ 2 (.bool true)).free 3
    simp only [rlC, List.set_cons_zero, List.set_cons_succ, List.getElem?_cons_zero, List.getElem?_cons_succ] at c2 c3
    have HrowE := Lib.hid (show Row ((w2.setCell ⟨c, 2, none⟩ (.bool true)).setCell ⟨c, 3, none⟩ (.int .i64 (g1 : Int))) c 34 (rlC p1 p2 true g1) from (Hrow2.out.set_ 2 _).set_ 3 _)
    have HE1 := Lib.hid ((Hr5.out.far (p := ⟨c, 2, none⟩) (by have := Hord.out; show p1 ≠ c; omega) (.bool true)).far (p := ⟨c, 3, none⟩) (by have := Hord.out; show p1 ≠ c; omega) (.int .i64 (g1 : Int)))
    have HE2 := Lib.hid ((Hr4.out.far (p := ⟨c, 2, none⟩) (by have := Hord.out; show p2 ≠ c; omega) (.bool true)).far (p := ⟨c, 3, none⟩) (by have := Hord.out; show p2 ≠ c; omega) (.int .i64 (g1 : Int)))
    have HgE := Lib.hid (grown_set (grown_set (grown_refl w2 (some c)) 2 (.bool true)) 3 (.int .i64 (g1 : Int)))
    clear hr4 hgr2 HB c1
    go_wp2
    go_ret
    exact ⟨rfl, HrowE.out, HE1.out, HE2.out, Kept3.of3 Hgr.out Hgr2.out HgE.out⟩
  | false =>
    obtain rfl : up = true := by cases up with | true => rfl | false => exact absurd rfl hu
    rw [if_neg (by decide)]
    go_enter Try.func11, Try.ntmps11
    go_wp2_with fail
    refine H1.out.mono ?_
    rintro e w1 ⟨rfl, hr3, hgr⟩
    have HB := Lib.hid (H2.out w1 hgr)
    have Hrow1 := Lib.hid (Hrow.out.keep (hgr.block c Hrow.out.lt (fun e => by injection e with e; have := Hord.out; omega)))
    have c1 := Hrow1.out.cell 1
    simp only [rlC, List.getElem?_cons_zero, List.getElem?_cons_succ] at c1
    have Hr3 := Lib.hid hr3
    have Hgr := Lib.hid hgr
    clear hr3 hgr H1 H2 c0 c2
    go_wp2_with fail
    refine HB.out.mono ?_
    rintro e w2 ⟨rfl, hr4, hgr2⟩
    have Hrow2 := Lib.hid (Hrow1.out.keep (hgr2.block c Hrow1.out.lt (fun e => by injection e with e; have := Hord.out; omega)))
    have Hr5 := Lib.hid (Hr3.out.keep (hgr2.block p1 Hr3.out.lt (fun e => by injection e with e; have := Hord.out; omega)))
    have Hr4 := Lib.hid hr4
    have Hgr2 := Lib.hid hgr2
    have c2 := Hrow2.out.cell 2
    have f2 := Hrow2.out.free 2
    simp only [rlC, List.getElem?_cons_zero, List.getElem?_cons_succ] at c2
    have HrowE := Lib.hid (show Row (w2.setCell ⟨c, 2, none⟩ (.bool false)) c 34 (rlC p1 p2 false g) from Hrow2.out.set_ 2 _)
    have HE1 := Lib.hid (Hr5.out.far (p := ⟨c, 2, none⟩) (by have := Hord.out; show p1 ≠ c; omega) (.bool false))
    have HE2 := Lib.hid (Hr4.out.far (p := ⟨c, 2, none⟩) (by have := Hord.out; show p2 ≠ c; omega) (.bool false))
    have HgE := Lib.hid (grown_set (grown_refl w2 (some c)) 2 (.bool false))
    clear hr4 hgr2 HB c1
    go_wp2
    go_ret
    exact ⟨rfl, HrowE.out, HE1.out, HE2.out, Kept3.of3 Hgr.out Hgr2.out HgE.out⟩
end Go.Proofs.Ytecelklpeealaaa
